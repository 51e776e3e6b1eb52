import PyProof.Rows.All
import Wide.All
import OpenK.AllK
import Wide.FinOn
import PyProof.EqAt
import PyProof.EqKinds
import PyProof.TupleCall
import KE.BitLaws
import KE.KSortTupG
import KE.KSuper
import KE.KDictList
import KE.KItemsList
import PySem.Challenge.RW_eachgreatest_k20_whole_walks_otherwise
set_option Elab.async false
set_option linter.all false
set_option maxRecDepth 100000
/-! THE HAND LAYER, for ints, bools, texts, own classes, lists, tuples, dicts, comprehensions, walks over dicts, enumerate, zip, reversed, texts, calls, loops. Paste it whole ahead of your own text; what your proof does not reach may be deleted. -/
namespace L2
open PySem PySem.Spec PyProof.Rows

/-- a key: an int or a str -/
abbrev Key := Sum Int Str
def keyIs : Key → Value → Bool
  | .inl k, v => Value.isInt k v
  | .inr x, v => Value.isStrOf x v
def keyH (w : World) : Key → Int
  | .inl k => hashInt k
  | .inr x => hashStr w x
theorem keyIs_shape : ∀ {k : Key} {v : Value}, keyIs k v = true → (∃ i t, k = Sum.inl i ∧ v = Value.int i t) ∨ (∃ x t, k = Sum.inr x ∧ v = Value.str x t)
  | .inl i, v, h => by
    obtain ⟨t, e⟩ := Value.isInt_shape (k := i) (v := v) h
    exact .inl ⟨i, t, rfl, e⟩
  | .inr x, v, h => by
    obtain ⟨t, e⟩ := Value.isStrOf_shape (x := x) (v := v) h
    exact .inr ⟨x, t, rfl, e⟩
theorem keyIs_int (i : Int) (t : Tok) : keyIs (.inl i) (.int i t) = true := by simp [keyIs, Value.isInt]
theorem keyIs_str (x : Str) (t : Tok) : keyIs (.inr x) (.str x t) = true := by simp [keyIs, Value.isStrOf]
theorem key_ll (a b : Int) : decide ((Sum.inl a : Key) = Sum.inl b) = (a == b) := by
  by_cases e : a = b
  · subst e; simp
  · have h : ¬ (Sum.inl a : Key) = Sum.inl b := fun q => e (Sum.inl.inj q)
    rw [decide_eq_false h]
    exact (beq_eq_false_iff_ne.mpr e).symm
theorem key_rr (a b : Str) : decide ((Sum.inr a : Key) = Sum.inr b) = decide (a = b) := by
  by_cases e : a = b
  · subst e; simp
  · have h : ¬ (Sum.inr a : Key) = Sum.inr b := fun q => e (Sum.inr.inj q)
    rw [decide_eq_false h, decide_eq_false e]
theorem key_lr (a : Int) (b : Str) : decide ((Sum.inl a : Key) = Sum.inr b) = false := decide_eq_false (fun q => nomatch q)
theorem key_rl (a : Str) (b : Int) : decide ((Sum.inr a : Key) = Sum.inl b) = false := decide_eq_false (fun q => nomatch q)

def mixKind (prog : Program) (w : World) : PySem.KeyKind prog w Key where
  is := keyIs
  hash := keyH w
  inj := fun v a b ha hb => by
    rcases keyIs_shape ha with ⟨i, t, rfl, rfl⟩ | ⟨x, t, rfl, rfl⟩
    · rcases keyIs_shape hb with ⟨j, u, rfl, e⟩ | ⟨y, u, rfl, e⟩
      · injection e with e1 _; rw [e1]
      · exact nomatch e
    · rcases keyIs_shape hb with ⟨j, u, rfl, e⟩ | ⟨y, u, rfl, e⟩
      · exact nomatch e
      · injection e with e1 _; rw [e1]
  byValue := fun k v h => by
    rcases keyIs_shape h with ⟨i, t, rfl, rfl⟩ | ⟨x, t, rfl, rfl⟩ <;> rfl
  pyHash := fun hv h => by
    rcases keyIs_shape hv with ⟨i, t, rfl, rfl⟩ | ⟨x, t, rfl, rfl⟩
    · exact wpAny_pyHash_int h
    · exact wpAny_pyHash_str h
  eqBool := fun hu hv h => by
    rcases keyIs_shape hu with ⟨i, t, rfl, rfl⟩ | ⟨x, t, rfl, rfl⟩
    · rcases keyIs_shape hv with ⟨j, u, rfl, rfl⟩ | ⟨y, u, rfl, rfl⟩
      · rw [key_ll] at h; exact wpAny_eqBool_int h
      · rw [key_lr] at h; exact SeqAt.EqAt.int_str i t y u _ _ _ _ h
    · rcases keyIs_shape hv with ⟨j, u, rfl, rfl⟩ | ⟨y, u, rfl, rfl⟩
      · rw [key_rl] at h; exact SeqAt.EqAt.str_int x t j u _ _ _ _ h
      · rw [key_rr] at h; exact wpAny_eqBool_str h
  «strs» := fun k x t v h => by
    rcases keyIs_shape h with ⟨i, u, rfl, e⟩ | ⟨y, u, rfl, e⟩
    · exact nomatch e
    · injection e with e1 _
      subst e1
      cases v <;> rfl

theorem mixKind_int (prog : Program) (w : World) (i : Int) (t : Tok) : (mixKind prog w).is (.inl i) (.int i t) = true := keyIs_int i t
theorem mixKind_str (prog : Program) (w : World) (x : Str) (t : Tok) : (mixKind prog w).is (.inr x) (.str x t) = true := keyIs_str x t
end L2

namespace L2
open PySem PySem.Spec PyProof.Rows

/-- a value, without the heap -/
inductive V where
  | non | bl (b : Bool) | int (i : Int) | str (x : Str) | byt (b : Array UInt8) | flt (b : UInt64) | ref (a : Addr) | ty (n : String)
  deriving DecidableEq

def RelV : V → Value → Prop
  | .non, u => u = Value.none
  | .bl b, u => u = Value.bool b
  | .int i, u => ∃ t, u = Value.int i t
  | .str x, u => ∃ t, u = Value.str x t
  | .byt b, u => ∃ t, u = Value.bytes b t
  | .flt b, u => ∃ t, u = Value.float b t
  | .ref a, u => u = Value.ref a
  | .ty n, u => u = Value.type n

abbrev Vals : List V → List Value → Prop := Paired RelV
theorem Vals.length {xs : List V} {us : List Value} (r : Vals xs us) : xs.length = us.length := Paired.length r
theorem Vals.get : ∀ {xs : List V} {us : List Value} {i : Nat} {x : V}, Vals xs us → xs[i]? = some x → ∃ u, us[i]? = some u ∧ RelV x u
  | _, _, _, _, .nil, e => by simp at e
  | _, _, 0, _, .cons r _, e => by simp at e; subst e; exact ⟨_, rfl, r⟩
  | _, _, i + 1, x, .cons _ t, e => by
    obtain ⟨u, h1, h2⟩ := Vals.get (i := i) (x := x) t (by simpa using e)
    exact ⟨u, by simpa using h1, h2⟩
theorem Vals.set {x : V} {u : Value} (r : RelV x u) : ∀ {xs : List V} {us : List Value} (i : Nat), Vals xs us → Vals (xs.set i x) (us.set i u)
  | _, _, _, .nil => .nil
  | _, _, 0, .cons _ t => .cons r t
  | _, _, i + 1, .cons q t => .cons q (Vals.set r i t)
theorem Vals.append : ∀ {xs ys : List V} {us ws : List Value}, Vals xs us → Vals ys ws → Vals (xs ++ ys) (us ++ ws)
  | _, _, _, _, .nil, s => s
  | _, _, _, _, .cons r t, s => .cons r (Vals.append t s)
theorem Vals.take : ∀ {xs : List V} {us : List Value} (n : Nat), Vals xs us → Vals (xs.take n) (us.take n)
  | _, _, 0, _ => .nil
  | _, _, _ + 1, .nil => .nil
  | _, _, n + 1, .cons r t => .cons r (Vals.take n t)
theorem Vals.drop : ∀ {xs : List V} {us : List Value} (n : Nat), Vals xs us → Vals (xs.drop n) (us.drop n)
  | _, _, 0, r => r
  | _, _, _ + 1, .nil => .nil
  | _, _, n + 1, .cons _ t => Vals.drop n t
def RelO : Option V → Option Value → Prop
  | some v, some u => RelV v u
  | none, none => True
  | _, _ => False
def KV {κ : Type} : List (κ × V) → List (κ × Value) → Prop := Paired fun (p : κ × V) (q : κ × Value) => p.1 = q.1 ∧ RelV p.2 q.2

/-- a key of a dict (00_mix): an int or a text -/
def kV : Key → V
  | .inl i => .int i
  | .inr x => .str x

/-- what stands at a tracked address -/
inductive HO where
  /-- a list -/
  | lst (xs : List V)
  /-- a tuple (never changes) -/
  | tup (xs : List V)
  /-- a dict whose keys are ints and texts; one whose keys are tuples of ints and texts (the empty one is both) -/
  | dK (kvs : List (Key × V)) | dT (kvs : List (List Key × V))
  /-- a set of ints: its members, its size -/
  | set (S : Int → Bool) (n : Nat)
  /-- an instance of the class at C, its dict at dx, its attributes -/
  | ins (C dx : Addr) (fs : List (Str × V))
  /-- the dict of the instance at x -/
  | own (x : Addr)
  /-- the dict of an exception -/
  | xd (fs : List (Str × V))
  /-- a bound method, f of x -/
  | met (f x : Addr)
  /-- a range object lo, lo + 1, .. below hi -/
  | rng (lo hi : Int)
  /-- a thing that is known to the object (the script; a dict while a loop walks it): read, never written while it is so -/
  | frz (o : Obj) (u : HO)
  /-- a code object's table -/
  | tbl (ps : Array Value)
  /-- any other thing, by what is true of its one object (a def of one's own: SetO a S n := HO.ext fun h => ..) -/
  | ext (φ : Heap → Prop)

abbrev Hp := Addr → Option HO
def upd (H : Hp) (a : Addr) (o : HO) : Hp := fun b => if b = a then some o else H b
theorem upd_same {H : Hp} {a : Addr} {o : HO} : upd H a o a = some o := by unfold upd; rw [if_pos rfl]
theorem upd_ne {H : Hp} {a b : Addr} {o : HO} (h : b ≠ a) : upd H a o b = H b := by unfold upd; rw [if_neg h]
theorem upd_upd {H : Hp} {a : Addr} {o u : HO} : upd (upd H a o) a u = upd H a u := by
  funext b; unfold upd; split <;> rfl
/-- two objects of different content stand apart -/
theorem ne_of {H : Hp} {a b : Addr} {o u : HO} (h : H a = some o) (h' : H b = some u) (d : o ≠ u) : a ≠ b := by
  intro e; subst e; rw [h] at h'; exact d (Option.some.inj h')
theorem ne_of_none {H : Hp} {a b : Addr} {o : HO} (h : H a = some o) (h' : H b = none) : a ≠ b := by
  intro e; subst e; rw [h] at h'; cases h'

section
variable (P : Program) (w : World)
def ObjOk (H : Hp) (h : Heap) (a : Addr) : HO → Prop
  | .lst xs => xs.length ≤ sizeLine ∧ ∃ (its : List Value) (n : Nat), Vals xs its ∧ h.get? a = some { cls := .type "list", data := .seq its.toArray n }
  | .tup xs => xs.length ≤ sizeLine ∧ ∃ its : List Value, Vals xs its ∧ IsTup h a its.toArray
  | .dK kvs => kvs.length ≤ sizeLine ∧ (a == sysModules) = false ∧ ∃ vs, KV kvs vs ∧ h.DictOf (mixKind P w) a vs
  | .dT kvs => kvs.length ≤ sizeLine ∧ (a == sysModules) = false ∧ ∃ xs : List (List Key × Addr × Value),
      Paired (fun (p : List Key × V) (q : List Key × Addr × Value) => p.1 = q.1 ∧ H q.2.1 = some (.tup (p.1.map kV)) ∧ RelV p.2 q.2.2) kvs xs ∧
      ∃ o es ep, h.get? a = some o ∧ o.ExactDict ∧ o.data = .dict es ep ∧ es.toList = xs.map (entryOfKey (tupleKind (mixKind P w))) ∧ (xs.map (·.1)).Nodup
  | .set S n => h.SetOf (intKind P w) a S n
  | .ins C dx fs => H dx = some (.own a) ∧ fs.length ≤ 1000 ∧ dx ≠ a ∧ h.get? a = some (PySem.W.instObj C dx) ∧
      ∃ mA, h.Ns1 dx mA ∧ (∀ f, RelO (fs.lookup f) (mA f)) ∧ PySem.Within mA (fs.map (·.1))
  | .own _ => ∃ o, h.get? a = some o
  | .xd fs => ∃ mA, h.Ns1 a mA ∧ ∀ f, RelO (fs.lookup f) (mA f)
  | .rng lo hi => ∃ t u v, h.get? a = some { cls := .type "range", data := .fields #[.int lo t, .int hi u, .int 1 v] }
  | .frz o u => h.get? a = some o ∧ ObjOk H h a u
  | .tbl ps => h.get? a = some { cls := .none, data := .fields ps }
  | .met f x => h.get? a = some (PySem.W.methodObj (.ref f) (.ref x))
  | .ext φ => φ h ∧ (∃ o, h.get? a = some o) ∧ ∀ h1 h2 : Heap, φ h1 → (∀ o, h1.get? a = some o → h2.get? a = some o) → φ h2
/-- the abstract heap is held -/
def HOk (H : Hp) (h : Heap) : Prop := ∀ a o, H a = some o → ObjOk P w H h a o
end

section
variable {P : Program} {w : World} {H H' : Hp} {h h' : Heap} {a : Addr} {o : HO}
theorem ObjOk.lt (x : ObjOk P w H h a o) : a < h.objs.size := by
  cases o with
  | lst xs => obtain ⟨_, _, _, _, e⟩ := x; exact Heap.lt_size e
  | tup xs => obtain ⟨_, _, _, p⟩ := x; exact p.lt
  | dK kvs => obtain ⟨_, _, _, _, o, _, _, e, _⟩ := x; exact Heap.lt_size e
  | dT kvs => obtain ⟨_, _, _, _, o, _, _, e, _⟩ := x; exact Heap.lt_size e
  | set S n => obtain ⟨o, _, _, _, e, _⟩ := x; exact Heap.lt_size e
  | ins C dx fs => obtain ⟨_, _, _, e, _⟩ := x; exact Heap.lt_size e
  | own y => obtain ⟨_, e⟩ := x; exact Heap.lt_size e
  | xd fs => obtain ⟨_, ⟨_, _, _, e, _⟩, _⟩ := x; exact Heap.lt_size e
  | rng lo hi => obtain ⟨_, _, _, e⟩ := x; exact Heap.lt_size e
  | frz ob u => obtain ⟨e, _⟩ := x; exact Heap.lt_size e
  | tbl ps => exact Heap.lt_size (show h.get? a = some _ from x)
  | met f y => exact Heap.lt_size (show h.get? a = some _ from x)
  | ext φ => obtain ⟨_, ⟨_, e⟩, _⟩ := x; exact Heap.lt_size e
theorem Paired.mapP {α β : Type} {F G : α → β → Prop} : ∀ {l₁ : List α} {l₂ : List β}, Paired F l₁ l₂ → (∀ a b, F a b → G a b) → Paired G l₁ l₂
  | _, _, .nil, _ => .nil
  | _, _, .cons r t, f => .cons (f _ _ r) (Paired.mapP t f)
/-- what an object's description leans on: its own object, its own dict, the tuples -/
theorem ObjOk.stay (x : ObjOk P w H h a o) (k : ∀ b u, (b = a ∨ H b = some (.own a)) → h.get? b = some u → h'.get? b = some u)
    (ho : ∀ b, H b = some (.own a) → H' b = some (.own a)) (ht : ∀ b xs, H b = some (.tup xs) → H' b = some (.tup xs)) : ObjOk P w H' h' a o := by
  induction o with
  | lst xs => obtain ⟨z, its, n, r, e⟩ := x; exact ⟨z, its, n, r, k _ _ (.inl rfl) e⟩
  | tup xs => obtain ⟨z, its, r, ob, e, c⟩ := x; exact ⟨z, its, r, ob, k _ _ (.inl rfl) e, c⟩
  | dK kvs => obtain ⟨z, y, vs, r, ob, es, ep, e, c⟩ := x; exact ⟨z, y, vs, r, ob, es, ep, k _ _ (.inl rfl) e, c⟩
  | dT kvs =>
    obtain ⟨z, y, xs, r, ob, es, ep, e, c⟩ := x
    exact ⟨z, y, xs, Paired.mapP r fun p q z => ⟨z.1, ht _ _ z.2.1, z.2.2⟩, ob, es, ep, k _ _ (.inl rfl) e, c⟩
  | set S n => obtain ⟨ob, es, ep, t, e, c⟩ := x; exact ⟨ob, es, ep, t, k _ _ (.inl rfl) e, c⟩
  | ins C dx fs =>
    obtain ⟨d, z, ne, e, mA, ⟨od, es, ep, e2, c⟩, r⟩ := x
    exact ⟨ho _ d, z, ne, k _ _ (.inl rfl) e, mA, ⟨od, es, ep, k _ _ (.inr d) e2, c⟩, r⟩
  | own y => obtain ⟨ob, e⟩ := x; exact ⟨ob, k _ _ (.inl rfl) e⟩
  | xd fs => obtain ⟨mA, ⟨od, es, ep, e, c⟩, r⟩ := x; exact ⟨mA, ⟨od, es, ep, k _ _ (.inl rfl) e, c⟩, r⟩
  | rng lo hi => obtain ⟨t, u, v, e⟩ := x; exact ⟨t, u, v, k _ _ (.inl rfl) e⟩
  | frz ob u ih => obtain ⟨e, q⟩ := x; exact ⟨k _ _ (.inl rfl) e, ih q⟩
  | tbl ps =>
    have e : h.get? a = some { cls := .none, data := .fields ps } := x
    show h'.get? a = some { cls := .none, data := .fields ps }
    exact k a _ (.inl rfl) e
  | met f y =>
    have e : h.get? a = some (PySem.W.methodObj (.ref f) (.ref y)) := x
    show h'.get? a = some (PySem.W.methodObj (.ref f) (.ref y))
    exact k a _ (.inl rfl) e
  | ext φ => obtain ⟨p, ⟨o, e⟩, st⟩ := x; exact ⟨st _ _ p fun o q => k _ _ (.inl rfl) q, ⟨o, k _ _ (.inl rfl) e⟩, st⟩
theorem HOk.lt (x : HOk P w H h) (e : H a = some o) : a < h.objs.size := (x a o e).lt
theorem HOk.fresh (x : HOk P w H h) (e : h.objs.size ≤ a) : H a = none := by
  cases q : H a with
  | none => rfl
  | some u => exact absurd (Nat.lt_of_lt_of_le (x.lt q) e) (Nat.lt_irrefl _)
/-- every object of the heap is kept -/
theorem HOk.kept (x : HOk P w H h) (k : ∀ b u, h.get? b = some u → h'.get? b = some u) : HOk P w H h' := fun a o e =>
  (x a o e).stay (fun b u _ q => k b u q) (fun _ q => q) fun _ _ q => q
/-- a new object is laid and tracked -/
theorem HOk.laid (x : HOk P w H h) (k : ∀ b u, h.get? b = some u → h'.get? b = some u) (hp : h.objs.size ≤ a) (new : ObjOk P w (upd H a o) h' a o) : HOk P w (upd H a o) h' := fun b u e => by
  have hn := x.fresh hp
  by_cases hb : b = a
  · subst hb; rw [upd_same] at e; cases e; exact new
  · rw [upd_ne hb] at e
    exact (x b u e).stay (fun c v _ q => k c v q) (fun c q => by rw [upd_ne (ne_of_none q hn)]; exact q) fun c xs q => by rw [upd_ne (ne_of_none q hn)]; exact q
end

/-- what may be read as u: it is u, or a known u -/
def Rd (H : Hp) (a : Addr) (u : HO) : Prop := H a = some u ∨ ∃ o, H a = some (.frz o u)
theorem Rd.of {H : Hp} {a : Addr} {u : HO} (h : H a = some u) : Rd H a u := .inl h
theorem Rd.ok {P : Program} {w : World} {H : Hp} {h : Heap} {a : Addr} {u : HO} (r : Rd H a u) (x : HOk P w H h) : ObjOk P w H h a u := by
  rcases r with r | ⟨o, r⟩
  · exact x a u r
  · obtain ⟨_, q⟩ := x a _ r
    exact q
/-- what may be written -/
def Mut : Option HO → Prop
  | some (.lst _) => True
  | some (.dK _) => True
  | some (.dT _) => True
  | some (.set _ _) => True
  | some (.ins _ _ _) => True
  | some (.ext _) => True
  | _ => False
section
variable {P : Program} {w : World} {H : Hp} {h h' : Heap} {x e : Addr} {o' : HO}
/-- the object at e is changed: x itself, or the dict of the instance x -/
theorem HOk.write (ok : HOk P w H h) (mu : Mut (H x)) (he : e = x ∨ H e = some (.own x)) (k : ∀ b u, b ≠ e → h.get? b = some u → h'.get? b = some u) (heo : ∃ u, h'.get? e = some u)
    (new : ObjOk P w (upd H x o') h' x o') : HOk P w (upd H x o') h' := fun b u q => by
  have nown : ∀ c y, H c = some (.own y) → c ≠ x := fun c y r z => by subst z; rw [r] at mu; exact mu
  have ntup : ∀ c xs, H c = some (.tup xs) → c ≠ x := fun c xs r z => by subst z; rw [r] at mu; exact mu
  by_cases hb : b = x
  · subst hb; rw [upd_same] at q; cases q; exact new
  · rw [upd_ne hb] at q
    by_cases hbe : b = e
    · have q' : H b = some (.own x) := by
        rcases he with z | z
        · exact absurd (hbe.trans z) hb
        · rw [hbe]; exact z
      rw [q] at q'; cases q'
      obtain ⟨v, hv⟩ := heo
      exact ⟨v, by rw [hbe]; exact hv⟩
    · refine (ok b u q).stay (fun c v hc r => k c v ?_ r) (fun c r => by rw [upd_ne (nown c b r)]; exact r) fun c xs r => by rw [upd_ne (ntup c xs r)]; exact r
      rcases hc with rfl | hc
      · exact hbe
      · rintro rfl
        rcases he with z | z
        · exact nown c b hc z
        · rw [hc] at z; cases z; exact hb rfl
end

/-! ### kept unless tracked; of the frames at fs (the callers') the slots may change (an exception that passes writes there); of the records at ex (iterators) nothing is said -/
structure Un (fs ex : List Addr) (H H' : Hp) (h h' : Heap) : Prop where
  keep : ∀ b o, h.get? b = some o → H b = none → b ∉ fs → b ∉ ex → h'.get? b = some o
  slot : ∀ b o, h.get? b = some o → H b = none → b ∈ fs → b ∉ ex → ∃ sl, h'.get? b = some { o with slots := sl }
  free : ∀ b o, h.get? b = some o → H b = none → b ∉ ex → H' b = none
  there : ∀ b o, h.get? b = some o → b ∉ ex → ∃ o', h'.get? b = some o'
  tups : ∀ b xs, H b = some (.tup xs) → H' b = some (.tup xs)
  frzs : ∀ b o u, H b = some (.frz o u) → H' b = some (.frz o u)
  tbls : ∀ b ps, H b = some (.tbl ps) → ∃ more, H' b = some (.tbl (ps ++ more))
section
variable {fs fs' ex ex' : List Addr} {H H1 H2 : Hp} {h h1 h2 h' : Heap} {a x e : Addr} {o : HO}
theorem Un.any (u : Un fs ex H H1 h h1) {b : Addr} {ob : Obj} (q : h.get? b = some ob) (n : H b = none) (hx : b ∉ ex) : ∃ sl, h1.get? b = some { ob with slots := sl } := by
  by_cases hb : b ∈ fs
  · exact u.slot b ob q n hb hx
  · exact ⟨ob.slots, u.keep b ob q n hb hx⟩
theorem Un.trans (a : Un fs ex H H1 h h1) (b : Un fs ex H1 H2 h1 h2) : Un fs ex H H2 h h2 where
  keep := fun c ob q n hc hx => b.keep c ob (a.keep c ob q n hc hx) (a.free c ob q n hx) hc hx
  slot := fun c ob q n hc hx => by
    obtain ⟨sl, e1⟩ := a.slot c ob q n hc hx
    obtain ⟨sl', e2⟩ := b.slot c _ e1 (a.free c ob q n hx) hc hx
    exact ⟨sl', e2⟩
  free := fun c ob q n hx => by
    obtain ⟨o', e1⟩ := a.there c ob q hx
    exact b.free c o' e1 (a.free c ob q n hx) hx
  there := fun c ob q hx => by
    obtain ⟨o', e1⟩ := a.there c ob q hx
    exact b.there c o' e1 hx
  tups := fun c xs q => b.tups c xs (a.tups c xs q)
  frzs := fun c ob xs q => b.frzs c ob xs (a.frzs c ob xs q)
  tbls := fun c ps q => by
    obtain ⟨m1, e1⟩ := a.tbls c ps q
    obtain ⟨m2, e2⟩ := b.tbls c _ e1
    exact ⟨m1 ++ m2, by rw [e2, Array.append_assoc]⟩
theorem Un.kept (k : ∀ b u, h.get? b = some u → h'.get? b = some u) : Un fs ex H H h h' :=
  ⟨fun b ob q _ _ _ => k b ob q, fun b ob q _ _ _ => ⟨ob.slots, k b ob q⟩, fun _ _ _ n _ => n, fun b ob q _ => ⟨ob, k b ob q⟩, fun _ _ q => q, fun _ _ _ q => q, fun _ ps q => ⟨#[], by rw [q]; simp⟩⟩
theorem Un.refl : Un fs ex H H h h := Un.kept fun _ _ q => q
theorem Un.laid (k : ∀ b u, h.get? b = some u → h'.get? b = some u) (hp : h.objs.size ≤ a) (hn : H a = none) : Un fs ex H (upd H a o) h h' where
  keep := fun b u q _ _ _ => k b u q
  slot := fun b u q _ _ _ => ⟨u.slots, k b u q⟩
  free := fun b u q n _ => by rw [upd_ne (Nat.ne_of_lt (Nat.lt_of_lt_of_le (Heap.lt_size q) hp))]; exact n
  there := fun b u q _ => ⟨u, k b u q⟩
  tups := fun b xs q => by rw [upd_ne (ne_of_none q hn)]; exact q
  frzs := fun b u xs q => by rw [upd_ne (ne_of_none q hn)]; exact q
  tbls := fun b ps q => ⟨#[], by rw [upd_ne (ne_of_none q hn), q]; simp⟩
theorem Un.write (mu : Mut (H x)) (he : e = x ∨ H e = some (.own x)) (k : ∀ b u, b ≠ e → h.get? b = some u → h'.get? b = some u) (heo : ∃ u, h'.get? e = some u) : Un fs ex H (upd H x o) h h' := by
  have hx : ∀ b, H b = none → b ≠ x := fun b n z => by subst z; rw [n] at mu; exact mu
  have hb : ∀ b, H b = none → b ≠ e := fun b n z => by
    subst z
    rcases he with r | r
    · exact hx b n r
    · rw [n] at r; cases r
  have hm : ∀ b u, H b = some u → ¬ Mut (some u) → b ≠ x := fun b u q nm z => by subst z; rw [q] at mu; exact nm mu
  refine ⟨fun b u q n _ _ => k b u (hb b n) q, fun b u q n _ _ => ⟨u.slots, k b u (hb b n) q⟩, fun b u q n _ => by rw [upd_ne (hx b n)]; exact n, fun b u q _ => ?_,
    fun b xs q => by rw [upd_ne (hm b _ q fun z => z)]; exact q, fun b u xs q => by rw [upd_ne (hm b _ q fun z => z)]; exact q, fun b ps q => ⟨#[], by rw [upd_ne (hm b _ q fun z => z), q]; simp⟩⟩
  by_cases hbe : b = e
  · subst hbe; exact heo
  · exact ⟨u, k b u hbe q⟩
theorem Un.mono (u : Un fs ex H H1 h h1) (hs : ∀ b ∈ fs, b ∈ fs') (hx : ∀ b ∈ ex, b ∈ ex') : Un fs' ex' H H1 h h1 :=
  ⟨fun b ob q n hb he => u.keep b ob q n (fun z => hb (hs b z)) fun z => he (hx b z), fun _ _ q n _ he => u.any q n fun z => he (hx _ z), fun b ob q n he => u.free b ob q n fun z => he (hx b z), fun b ob q he => u.there b ob q fun z => he (hx b z), u.tups, u.frzs, u.tbls⟩
end

/-! ### the heap without what is tracked -/
def trk (h : Heap) (H : Hp) : List Addr := (List.range h.objs.size).filter fun a => (H a).isSome
def hidT (h : Heap) (H : Hp) : Heap := PySem.W.hideAll h (trk h H)
theorem hidT_size (h : Heap) (H : Hp) : (hidT h H).objs.size = h.objs.size := PySem.W.hideAll_size _ _
theorem hidT_get {h : Heap} {H : Hp} {b : Addr} {o : Obj} (e : h.get? b = some o) (n : H b = none) : (hidT h H).get? b = some o :=
  PySem.W.hideAll_get _ e fun hm => by
    have q : (H b).isSome = true := (List.mem_filter.mp hm).2
    rw [n] at q; simp at q
theorem of_hidT {h : Heap} {H : Hp} {b : Addr} {o : Obj} (e : (hidT h H).get? b = some o) : h.get? b = some o ∧ H b = none := by
  have e' : h.get? b = some o := PySem.W.of_hideAll (trk h H) e
  refine ⟨e', ?_⟩
  cases q : H b with
  | none => rfl
  | some x =>
    have hm : b ∈ trk h H := List.mem_filter.mpr ⟨List.mem_range.mpr (Heap.lt_size e'), by simp [q]⟩
    have z : (hidT h H).get? b = none := PySem.W.hideAll_none (trk h H) hm
    rw [z] at e; cases e

/-! ### OpenK's ledger, filled with every new object but one -/
def allNews (g h : Heap) (L : Addr) : List (Addr × Obj) := (List.range h.objs.size).filterMap fun a => if a = L ∨ (g.get? a).isSome = true then none else (h.get? a).map fun o => (a, o)
def rest (g h : Heap) (L d : Addr) : List (Addr × Obj) := (allNews g h L).filter fun p => decide (p.1 ≠ d)
end L2

namespace L2
open PySem PySem.Spec PyProof.Rows

/-- the module's facts, over the base: the heap at the law's entry without what is tracked there -/
structure Mod (K : PySem.W.Frag) (mg : Str → Option Value) (base : Heap) : Prop where
  kin : K.In base
  glob : base.Ns mainGlobals mg
  blt : ∃ mb, base.Ns builtinsNs mb ∧ ∀ x : Str, x ≠ "__name__" → mb x = bootBuiltins x
  nolimit : base.NoLimit

/-- the context: a def's body (or a comprehension's block) running. base: fixed through the whole law; s₀, H₀: the entry; outer: the frames whose slots others may change (a def's callers); stack: all frames that run;
   ex: iterators that were made ahead of the entry and are walked here (a comprehension's); fn: the names whose cells were made at the entry (a def: all; a comprehension's block: its own); calm: not within an except suite; pn: pins that every state bears; xe: what is wanted of an exception that leaves the code -/
structure Cx where
  prog : Program
  w : World
  K : PySem.W.Frag
  mg : Str → Option Value
  base : Heap
  A : Around
  N : List Str
  s_0 : Shared
  H_0 : Hp
  env : Env
  outer : List Env
  stack : List Env
  ex : List Addr
  fn : Str → Bool
  calm : Bool
  pn : List (Addr × Obj)
  xe : Value → Shared → Prop
/-- the callers' frames -/
def frs (l : List Env) : List Addr := l.filterMap (·.frame)
abbrev Cx.fs (X : Cx) : List Addr := frs X.outer

def Vis (sc : Scope) (x : Str) : Prop := sc.names.lookup x = some .local ∨ sc.names.lookup x = some .cell ∨ sc.names.lookup x = some .free
def Loc (sc : Scope) (x : Str) : Prop := sc.names.lookup x = some .local ∨ sc.names.lookup x = some .cell
def Look (env : Env) (h : Heap) (m : Str → Option Value) (x : Str) (u : Value) : Prop :=
  (env.kindOf x = some .local ∧ m x = some u) ∨ ((env.kindOf x = some .cell ∨ env.kindOf x = some .free) ∧ ∃ c, env.cells.lookup x = some c ∧ h.IsCell c (some u))

structure Cx.Ok (X : Cx) : Prop where
  mod : Mod X.K X.mg X.base
  kind : X.env.scope.kind = .function
  glob : X.env.globals = mainGlobals
  blt : X.env.builtins = builtinsNs
  above : X.s_0.heap.objs.size ≤ X.env.locals
  inj : ∀ x y c, X.env.cells.lookup x = some c → X.env.cells.lookup y = some c → x = y
  has : ∀ x, (X.env.kindOf x = some .cell ∨ X.env.kindOf x = some .free) → ∃ c, X.env.cells.lookup x = some c
  cab : ∀ x c, X.fn x = true → X.env.cells.lookup x = some c → X.s_0.heap.objs.size ≤ c
  hd : X.calm = true → X.A.handled = none
  frames : X.A.frames = some X.stack
  stk : X.stack = X.outer ∨ (X.stack = X.env :: X.outer ∧ X.env.frame = some X.env.locals)
  exf : ∀ b ∈ X.ex, b ≠ X.env.locals ∧ ∀ x c, X.env.cells.lookup x = some c → c ≠ b
  bs : ∀ b o, X.base.get? b = some o → X.s_0.heap.get? b = some o ∧ X.H_0 b = none
  bsz : X.base.objs.size ≤ X.s_0.heap.objs.size
  noex : ∀ b o, X.base.get? b = some o → b ∉ X.ex
  exfs : ∀ b ∈ X.ex, b ∉ X.fs
  funs : X.s_0.heap.FunFrames X.base X.outer
  frf : ∀ b ∈ X.fs, X.H_0 b = none

structure Inv (X : Cx) (pins : List (Addr × Obj)) (σ : List (Option V)) (H : Hp) (s : Shared) : Prop where
  ok : X.Ok
  os : s.os = X.s_0.os
  bare : AllBare s.gens
  base : Un X.fs X.ex X.H_0 H X.s_0.heap s.heap
  loc : ∃ m, s.heap.Ns X.env.locals m ∧ ∀ (i : Nat) (x : Str) (v : V), X.N[i]? = some x → σ[i]? = some (some v) → Vis X.env.scope x → ∃ u, RelV v u ∧ Look X.env s.heap m x u
  cell : ∀ x c, X.env.cells.lookup x = some c → ∃ v, s.heap.IsCell c v
  free : H X.env.locals = none
  freeC : ∀ x c, X.env.cells.lookup x = some c → H c = none
  pin : ∀ p ∈ X.pn ++ pins, s.heap.get? p.1 = some p.2 ∧ H p.1 = none ∧ p.1 ≠ X.env.locals ∧ p.1 ∉ X.fs ∧ ∀ v, p.2.data ≠ .cell v
  hok : HOk X.prog X.w H s.heap
  len : σ.length = X.N.length

section
variable {X : Cx} {pins : List (Addr × Obj)} {σ : List (Option V)} {H H' : Hp} {s : Shared} {h' : Heap}

theorem Cx.Ok.nofr (ok : X.Ok) {b : Addr} {o : Obj} (e : X.base.get? b = some o) : b ∉ X.fs := fun hb => by
  have := (ok.funs.mem hb).1
  rw [e] at this; cases this
theorem Inv.bs (I : Inv X pins σ H s) : ∀ b o, X.base.get? b = some o → s.heap.get? b = some o ∧ H b = none := fun b o e =>
  ⟨I.base.keep b o (I.ok.bs b o e).1 (I.ok.bs b o e).2 (I.ok.nofr e) (I.ok.noex b o e), I.base.free b o (I.ok.bs b o e).1 (I.ok.bs b o e).2 (I.ok.noex b o e)⟩
theorem Inv.bk (I : Inv X pins σ H s) : ∀ b o, X.base.get? b = some o → s.heap.get? b = some o := fun b o e => (I.bs b o e).1
theorem Inv.mod (I : Inv X pins σ H s) : Mod X.K X.mg X.base := I.ok.mod
theorem Inv.kIn (I : Inv X pins σ H s) : X.K.In s.heap := I.ok.mod.kin.keeps I.bk
theorem Inv.nolimit (I : Inv X pins σ H s) : s.heap.NoLimit := I.ok.mod.nolimit.keeps I.bk
/-- the frame over the base: for OpenK's rules (K.In X.base is I.mod.kin) -/
theorem Inv.fr (I : Inv X pins σ H s) : ∃ m, Fr X.base X.env.locals s.heap m :=
  let ⟨m, hn, _⟩ := I.loc
  ⟨m, hn, I.bk, Nat.le_trans I.ok.bsz I.ok.above⟩
theorem Inv.lt (I : Inv X pins σ H s) : X.env.locals < s.heap.objs.size := let ⟨_, hn, _⟩ := I.loc; hn.lt
theorem Inv.sz (I : Inv X pins σ H s) : X.s_0.heap.objs.size ≤ s.heap.objs.size := Nat.le_trans I.ok.above (Nat.le_of_lt I.lt)
theorem Inv.nofs (I : Inv X pins σ H s) {a : Addr} (h : s.heap.objs.size ≤ a) : a ∉ X.fs := fun hb => by
  obtain ⟨_, o, ho, _⟩ := I.ok.funs.mem hb
  exact absurd (Nat.lt_of_lt_of_le (Heap.lt_size ho) (Nat.le_trans I.sz h)) (Nat.lt_irrefl _)
theorem Inv.cne (I : Inv X pins σ H s) : ∀ x c, X.env.cells.lookup x = some c → c ≠ X.env.locals := fun x c e z => by
  obtain ⟨v, o, ho, hd⟩ := I.cell x c e
  obtain ⟨m, ⟨o', es, ep, ho', hd', _⟩, _⟩ := I.loc
  rw [z, ho'] at ho; cases ho; rw [hd'] at hd; cases hd
theorem Inv.funs (I : Inv X pins σ H s) : s.heap.FunFrames X.base X.outer := by
  have all : ∀ (l : List Env), (∀ b ∈ frs l, b ∈ X.fs) → X.s_0.heap.FunFrames X.base l → s.heap.FunFrames X.base l := by
    intro l
    induction l with
    | nil => intro _ _; trivial
    | cons env r ih =>
      intro hs hl
      obtain ⟨hk, ⟨L, o, hf, hn, ho, hd⟩, hr⟩ := hl
      have hL : L ∈ X.fs := hs L (by unfold frs; rw [List.filterMap_cons, hf]; exact List.mem_cons_self)
      obtain ⟨sl, e⟩ := I.base.slot L o ho (I.ok.frf L hL) hL fun z => I.ok.exfs L z hL
      exact ⟨hk, ⟨L, _, hf, hn, e, hd⟩, ih (fun b hb => hs b (by unfold frs; rw [List.filterMap_cons, hf]; exact List.mem_cons_of_mem _ hb)) hr⟩
  exact all X.outer (fun _ hb => hb) I.ok.funs

/-- the frames that run, for a call -/
theorem Inv.stack (I : Inv X pins σ H s) : s.heap.FunFrames X.base X.stack := by
  rcases I.ok.stk with e | ⟨e, hf⟩
  · rw [e]; exact I.funs
  · rw [e]
    obtain ⟨m, hn, _⟩ := I.loc
    refine .cons (by rw [I.ok.kind]; decide) hf hn ?_ I.funs
    exact Heap.get?_none_of_le (Nat.le_trans I.ok.bsz I.ok.above)
theorem Inv.stkSub (I : Inv X pins σ H s) : ∀ b ∈ frs X.stack, b ∈ X.env.locals :: X.fs := fun b hb => by
  rcases I.ok.stk with e | ⟨e, hf⟩
  · rw [e] at hb; exact List.mem_cons_of_mem _ hb
  · rw [e] at hb
    unfold frs at hb
    rw [List.filterMap_cons, hf] at hb
    exact hb
theorem Inv.stkFree (I : Inv X pins σ H s) : ∀ b ∈ frs X.stack, H b = none := fun b hb => by
  rcases List.mem_cons.mp (I.stkSub b hb) with e | hb
  · rw [e]; exact I.free
  · obtain ⟨_, o, ho, _⟩ := I.ok.funs.mem hb
    exact I.base.free b o ho (I.ok.frf b hb) fun z => I.ok.exfs b z hb

/-- THE STEP: the untracked objects but the frame and the records at ch are kept (the callers' frames up to slots), the frame's map is kept, the new abstract heap is held -/
theorem Inv.step {g' : Array GenState} {t' : Nat} {d' : Drawn} {ch : List Addr} (I : Inv X pins σ H s)
    (hch : ∀ b ∈ ch, (b ∈ X.ex ∨ X.s_0.heap.objs.size ≤ b) ∧ b ≠ X.env.locals ∧ (∀ x c, X.env.cells.lookup x = some c → c ≠ b) ∧ ∀ p ∈ X.pn ++ pins, p.1 ≠ b)
    (keep : ∀ b o, b ≠ X.env.locals → b ∉ X.fs → b ∉ ch → s.heap.get? b = some o → H b = none → h'.get? b = some o)
    (slot : ∀ b o, b ≠ X.env.locals → b ∈ X.fs → b ∉ ch → s.heap.get? b = some o → H b = none → ∃ sl, h'.get? b = some { o with slots := sl }) (free : ∀ b o, b ∉ ch → s.heap.get? b = some o → H b = none → H' b = none)
    (there : ∀ b o, b ∉ ch → s.heap.get? b = some o → ∃ o', h'.get? b = some o')
    (tups : ∀ b xs, H b = some (.tup xs) → H' b = some (.tup xs)) (frzs : ∀ b o u, H b = some (.frz o u) → H' b = some (.frz o u)) (tbls : ∀ b ps, H b = some (.tbl ps) → ∃ more, H' b = some (.tbl (ps ++ more)))
    (ns : ∀ m, s.heap.Ns X.env.locals m → h'.Ns X.env.locals m) (hok : HOk X.prog X.w H' h') (hg : AllBare g') :
    Inv X pins σ H' { s with heap := h', gens := g', drawn := d', toks := t' } := by
  have neL : ∀ b o, X.s_0.heap.get? b = some o → b ≠ X.env.locals := fun b o e => Nat.ne_of_lt (Nat.lt_of_lt_of_le (Heap.lt_size e) I.ok.above)
  have neC : ∀ b o, X.s_0.heap.get? b = some o → b ∉ X.ex → b ∉ ch := fun b o e hx hb => by
    rcases (hch b hb).1 with z | z
    · exact hx z
    · exact absurd (Nat.lt_of_lt_of_le (Heap.lt_size e) z) (Nat.lt_irrefl _)
  have cellK : ∀ x c, X.env.cells.lookup x = some c → ∀ v, s.heap.IsCell c v → h'.IsCell c v := fun x c e v ⟨o, ho, hd⟩ => by
    have nch : c ∉ ch := fun z => (hch c z).2.2.1 x c e rfl
    by_cases hc : c ∈ X.fs
    · obtain ⟨sl, q⟩ := slot c o (I.cne x c e) hc nch ho (I.freeC x c e)
      exact ⟨_, q, hd⟩
    · exact ⟨o, keep c o (I.cne x c e) hc nch ho (I.freeC x c e), hd⟩
  refine ⟨I.ok, I.os, hg, ⟨fun b o e n hb hx => ?_, fun b o e n hb hx => ?_, fun b o e n hx => ?_, fun b o e hx => ?_, fun b xs e => tups b xs (I.base.tups b xs e), fun b o xs e => frzs b o xs (I.base.frzs b o xs e), fun b ps e => ?_⟩, ?_, fun x c e => ?_, ?_, fun x c e => ?_, fun p hp => ?_, hok, I.len⟩
  · exact keep b o (neL b o e) hb (neC b o e hx) (I.base.keep b o e n hb hx) (I.base.free b o e n hx)
  · obtain ⟨sl, e1⟩ := I.base.slot b o e n hb hx
    obtain ⟨sl', e2⟩ := slot b _ (neL b o e) hb (neC b o e hx) e1 (I.base.free b o e n hx)
    exact ⟨sl', e2⟩
  · obtain ⟨o', e1⟩ := I.base.there b o e hx
    exact free b o' (neC b o e hx) e1 (I.base.free b o e n hx)
  · obtain ⟨o', e1⟩ := I.base.there b o e hx
    exact there b o' (neC b o e hx) e1
  · obtain ⟨m1, e1⟩ := I.base.tbls b ps e
    obtain ⟨m2, e2⟩ := tbls b _ e1
    exact ⟨m1 ++ m2, by rw [e2, Array.append_assoc]⟩
  · obtain ⟨m, hn, hl⟩ := I.loc
    refine ⟨m, ns m hn, fun i x v e1 e2 e3 => ?_⟩
    obtain ⟨u, r, l⟩ := hl i x v e1 e2 e3
    refine ⟨u, r, ?_⟩
    rcases l with l | ⟨k, c, e, z⟩
    · exact .inl l
    · exact .inr ⟨k, c, e, cellK x c e _ z⟩
  · obtain ⟨v, z⟩ := I.cell x c e
    exact ⟨v, cellK x c e v z⟩
  · obtain ⟨m, ⟨o, _, _, ho, _⟩, _⟩ := I.loc
    exact free _ o (fun z => (hch _ z).2.1 rfl) ho I.free
  · obtain ⟨v, o, ho, hd⟩ := I.cell x c e
    exact free c o (fun z => (hch c z).2.2.1 x c e rfl) ho (I.freeC x c e)
  · obtain ⟨e, n, ne, nf, d⟩ := I.pin p hp
    have nch : p.1 ∉ ch := fun z => (hch p.1 z).2.2.2 p hp rfl
    exact ⟨keep p.1 p.2 ne nf nch e n, free p.1 p.2 nch e n, ne, nf, d⟩
/-- .. where the frame's own object is kept too -/
theorem Inv.un {t' : Nat} (I : Inv X pins σ H s) (u : Un X.fs [] H H' s.heap h') (hok : HOk X.prog X.w H' h') : Inv X pins σ H' { s with heap := h', toks := t' } := by
  obtain ⟨m, ⟨o, es, ep, ho, r⟩, _⟩ := id I.loc
  obtain ⟨sl, hL⟩ := u.any ho I.free (by simp)
  exact I.step (g' := s.gens) (d' := s.drawn) (ch := []) (fun _ z => nomatch z) (fun b o _ hb _ e n => u.keep b o e n hb (by simp)) (fun b o _ hb _ e n => u.slot b o e n hb (by simp)) (fun b o _ e n => u.free b o e n (by simp)) (fun b o _ e => u.there b o e (by simp)) u.tups u.frzs u.tbls (fun m' hm => by
    obtain ⟨o', es', ep', ho', r'⟩ := hm
    rw [ho] at ho'; cases ho'
    exact ⟨_, es', ep', hL, r'⟩) hok I.bare
/-- behind a call (or a comprehension's block): the slots of this frame may have changed too, the records at ch may have turned -/
theorem Inv.call {g' : Array GenState} {t' : Nat} {d' : Drawn} {ch : List Addr} (I : Inv X pins σ H s) (u : Un (frs X.stack) ch H H' s.heap h') (hok : HOk X.prog X.w H' h') (hg : AllBare g')
    (hch : ∀ b ∈ ch, (b ∈ X.ex ∨ X.s_0.heap.objs.size ≤ b) ∧ b ≠ X.env.locals ∧ (∀ x c, X.env.cells.lookup x = some c → c ≠ b) ∧ ∀ p ∈ X.pn ++ pins, p.1 ≠ b) :
    Inv X pins σ H' { s with heap := h', gens := g', drawn := d', toks := t' } := by
  obtain ⟨m, ⟨o, es, ep, ho, r⟩, _⟩ := id I.loc
  obtain ⟨sl, hL⟩ := u.any ho I.free fun z => (hch _ z).2.1 rfl
  exact I.step (ch := ch) hch (fun b o hL hb hc e n => u.keep b o e n (fun z => (List.mem_cons.mp (I.stkSub b z)).elim hL hb) hc) (fun b o _ _ hc e n => u.any e n hc) (fun b o hc e n => u.free b o e n hc) (fun b o hc e => u.there b o e hc) u.tups u.frzs u.tbls (fun m' hm => by
    obtain ⟨o', es', ep', ho', r'⟩ := hm
    rw [ho] at ho'; cases ho'
    exact ⟨_, es', ep', hL, r'⟩) hok hg
/-- an untracked record of ours (an iterator) has turned -/
theorem Inv.turned {t' : Nat} {it : Addr} (I : Inv X pins σ H s) (k : ∀ b o, b ≠ it → s.heap.get? b = some o → h'.get? b = some o) (hn : H it = none) (hL : it ≠ X.env.locals)
    (h1 : it ∈ X.ex ∨ X.s_0.heap.objs.size ≤ it) (h2 : ∀ x c, X.env.cells.lookup x = some c → c ≠ it) (h3 : ∀ p ∈ X.pn ++ pins, p.1 ≠ it) : Inv X pins σ H { s with heap := h', toks := t' } := by
  have nit : ∀ b u, H b = some u → b ≠ it := fun b u e z => by rw [z, hn] at e; cases e
  refine I.step (g' := s.gens) (d' := s.drawn) (ch := [it]) (fun b hb => ?_) (fun b o _ _ hc e _ => k b o (fun z => hc (by simp [z])) e) (fun b o _ _ hc e _ => ⟨o.slots, k b o (fun z => hc (by simp [z])) e⟩) (fun _ _ _ _ n => n)
    (fun b o hc e => ⟨o, k b o (fun z => hc (by simp [z])) e⟩) (fun _ _ e => e) (fun _ _ _ e => e) (fun b ps e => ⟨#[], by rw [e]; simp⟩) (fun m hm => ?_) (fun b u e => ?_) I.bare
  · have e : b = it := by simpa using hb
    subst e
    exact ⟨h1, hL, h2, h3⟩
  · obtain ⟨o, es, ep, ho, r⟩ := hm
    exact ⟨o, es, ep, k _ o (Ne.symm hL) ho, r⟩
  · refine (I.hok b u e).stay (fun c v hc q => k c v ?_ q) (fun _ q => q) fun _ _ q => q
    rcases hc with z | z
    · rw [z]; exact nit b u e
    · exact nit c _ z
theorem Inv.tok (I : Inv X pins σ H s) (t : Nat) : Inv X pins σ H { s with toks := t } := I.un (h' := s.heap) (t' := t) Un.refl I.hok
/-- all objects kept -/
theorem Inv.kept {t' : Nat} (I : Inv X pins σ H s) (k : ∀ b u, s.heap.get? b = some u → h'.get? b = some u) : Inv X pins σ H { s with heap := h', toks := t' } := I.un (Un.kept k) (I.hok.kept k)
/-- a new object laid and tracked -/
theorem Inv.laid {a : Addr} {o : HO} {t' : Nat} (I : Inv X pins σ H s) (k : ∀ b u, s.heap.get? b = some u → h'.get? b = some u) (hp : s.heap.objs.size ≤ a) (new : ObjOk X.prog X.w (upd H a o) h' a o) :
    Inv X pins σ (upd H a o) { s with heap := h', toks := t' } := I.un (Un.laid k hp (I.hok.fresh hp)) (I.hok.laid k hp new)
/-- an object written -/
theorem Inv.write {x e : Addr} {o : HO} {t' : Nat} (I : Inv X pins σ H s) (mu : Mut (H x)) (he : e = x ∨ H e = some (.own x)) (k : ∀ b u, b ≠ e → s.heap.get? b = some u → h'.get? b = some u) (heo : ∃ u, h'.get? e = some u)
    (new : ObjOk X.prog X.w (upd H x o) h' x o) : Inv X pins σ (upd H x o) { s with heap := h', toks := t' } := I.un (Un.write mu he k heo) (I.hok.write mu he k heo new)
/-- forgetting slots, pins -/
theorem Inv.weak {σ' : List (Option V)} (I : Inv X pins σ H s) (hl : σ'.length = σ.length) (w : ∀ (i : Nat) v, σ'[i]? = some (some v) → σ[i]? = some (some v)) : Inv X pins σ' H s :=
  ⟨I.ok, I.os, I.bare, I.base, let ⟨m, hn, hl'⟩ := I.loc; ⟨m, hn, fun i x v e1 e2 e3 => hl' i x v e1 (w i v e2) e3⟩, I.cell, I.free, I.freeC, I.pin, I.hok, hl.trans I.len⟩
theorem Inv.pins_of {pins' : List (Addr × Obj)} (I : Inv X pins σ H s) (h : ∀ p ∈ pins', s.heap.get? p.1 = some p.2 ∧ H p.1 = none ∧ p.1 ≠ X.env.locals ∧ p.1 ∉ X.fs ∧ ∀ v, p.2.data ≠ .cell v) : Inv X pins' σ H s :=
  ⟨I.ok, I.os, I.bare, I.base, I.loc, I.cell, I.free, I.freeC, fun p hp => (List.mem_append.mp hp).elim (fun z => I.pin p (List.mem_append_left _ z)) (h p), I.hok, I.len⟩

theorem nodup_ix {N : List Str} (hN : N.Nodup) {i j : Nat} {x : Str} (a : N[i]? = some x) (b : N[j]? = some x) : i = j := by
  obtain ⟨h1, e1⟩ := List.getElem?_eq_some_iff.mp a
  obtain ⟨h2, e2⟩ := List.getElem?_eq_some_iff.mp b
  exact (List.getElem_inj hN).mp (e1.trans e2.symm)

/-- a name is stored; what changed -/
theorem store_ok2 {M : Model} {A : Around} {E : Value → Shared → Prop} {i : Nat} {x : Str} {v : V} {u : Value} {Q : Unit → Shared → Prop} (I : Inv X pins σ H s) (hN : X.N.Nodup) (hi : X.N[i]? = some x) (hx : Loc X.env.scope x) (r : RelV v u)
    (h : ∀ s', Inv X pins (σ.set i (some v)) H s' → (∃ a, Heap.SameBut a s.heap s'.heap ∧ (a = X.env.locals ∨ X.env.cells.lookup x = some a)) → Q () s') (hf : X.fn x = true ∨ X.env.scope.names.lookup x = some .local := by first | exact .inl rfl | exact .inr rfl | assumption) : wpAny M A (storeName X.env x u) Q E s := by
  obtain ⟨m, hn, hl⟩ := id I.loc
  have hcls : (X.env.scope.kind == .class || (X.env.scope.kind == .module && X.env.locals != X.env.globals)) = false := by rw [I.ok.kind]; rfl
  have hiσ : i < σ.length := by rw [I.len]; exact (List.getElem?_eq_some_iff.mp hi).1
  have cne := I.cne
  have tracked : ∀ {a : Addr} {h' : Heap}, (∃ o, s.heap.get? a = some o ∧ H a = none) → Heap.SameBut a s.heap h' → HOk X.prog X.w H h' := fun {a h'} ha hs b ob e => by
    obtain ⟨_, _, hfree⟩ := ha
    refine (I.hok b ob e).stay (fun c w' hc q => (hs.2 c ?_).trans q) (fun _ q => q) fun _ _ q => q
    rintro rfl
    rcases hc with rfl | hc
    · rw [hfree] at e; cases e
    · rw [hfree] at hc; cases hc
  rcases hx with hk | hk
  · refine wpAny_storeName_local hk hn (fun h' hn' hs => ?_) hcls
    obtain ⟨oL, _, _, hoL, _⟩ := id hn
    refine h _ ⟨I.ok, I.os, I.bare, ⟨fun b o e n hb hx => ?_, fun b o e n hb hx => ?_, I.base.free, fun b o e hx => ?_, I.base.tups, I.base.frzs, I.base.tbls⟩, ⟨_, hn', fun j y v' e1 e2 e3 => ?_⟩, fun y c e => ?_, I.free, I.freeC, fun p hp => ?_, tracked ⟨oL, hoL, I.free⟩ hs, by simpa using I.len⟩ ⟨_, hs, .inl rfl⟩
    · exact (hs.2 b (Nat.ne_of_lt (Nat.lt_of_lt_of_le (Heap.lt_size e) I.ok.above))).trans (I.base.keep b o e n hb hx)
    · obtain ⟨sl, e1⟩ := I.base.slot b o e n hb hx
      exact ⟨sl, (hs.2 b (Nat.ne_of_lt (Nat.lt_of_lt_of_le (Heap.lt_size e) I.ok.above))).trans e1⟩
    · obtain ⟨o', e1⟩ := I.base.there b o e hx
      exact ⟨o', (hs.2 b (Nat.ne_of_lt (Nat.lt_of_lt_of_le (Heap.lt_size e) I.ok.above))).trans e1⟩
    · by_cases hj : j = i
      · subst hj
        rw [hi] at e1; cases e1
        rw [List.getElem?_set_self hiσ] at e2
        cases e2
        exact ⟨u, r, .inl ⟨hk, by simp⟩⟩
      · rw [List.getElem?_set_ne (Ne.symm hj)] at e2
        obtain ⟨u', r', q⟩ := hl j y v' e1 e2 e3
        refine ⟨u', r', ?_⟩
        rcases q with ⟨k, e⟩ | ⟨k, c, e, z⟩
        · refine .inl ⟨k, ?_⟩
          have : y ≠ x := fun e => hj (nodup_ix hN e1 (e ▸ hi))
          simp [this, e]
        · exact .inr ⟨k, c, e, z.sameBut hs (cne y c e)⟩
    · obtain ⟨w', z⟩ := I.cell y c e
      exact ⟨w', z.sameBut hs (cne y c e)⟩
    · obtain ⟨e, n, ne, nf, d⟩ := I.pin p hp
      exact ⟨(hs.2 p.1 ne).trans e, n, ne, nf, d⟩
  · have hfn : X.fn x = true := by
      rcases hf with z | z
      · exact z
      · rw [z] at hk; cases hk
    obtain ⟨c, hc⟩ := I.ok.has x (.inl hk)
    obtain ⟨w', z⟩ := I.cell x c hc
    refine wpAny_storeName_cell I.ok.kind hk hc z (fun h' hc' hs => ?_)
    obtain ⟨oc, hoc, hocd⟩ := id z
    refine h { s with heap := h' } ⟨I.ok, I.os, I.bare, ⟨fun b o e n hb hx => ?_, fun b o e n hb hx => ?_, I.base.free, fun b o e hx => ?_, I.base.tups, I.base.frzs, I.base.tbls⟩, ⟨m, hn.sameBut hs (Ne.symm (cne x c hc)), fun j y v' e1 e2 e3 => ?_⟩, fun y c' e => ?_, I.free, I.freeC, fun p hp => ?_, tracked ⟨oc, hoc, I.freeC x c hc⟩ hs, by simpa using I.len⟩ ⟨c, hs, .inr hc⟩
    · exact (hs.2 b (Nat.ne_of_lt (Nat.lt_of_lt_of_le (Heap.lt_size e) (I.ok.cab x c hfn hc)))).trans (I.base.keep b o e n hb hx)
    · obtain ⟨sl, e1⟩ := I.base.slot b o e n hb hx
      exact ⟨sl, (hs.2 b (Nat.ne_of_lt (Nat.lt_of_lt_of_le (Heap.lt_size e) (I.ok.cab x c hfn hc)))).trans e1⟩
    · obtain ⟨o', e1⟩ := I.base.there b o e hx
      exact ⟨o', (hs.2 b (Nat.ne_of_lt (Nat.lt_of_lt_of_le (Heap.lt_size e) (I.ok.cab x c hfn hc)))).trans e1⟩
    · by_cases hj : j = i
      · subst hj
        rw [hi] at e1; cases e1
        rw [List.getElem?_set_self hiσ] at e2
        cases e2
        exact ⟨u, r, .inr ⟨.inl hk, c, hc, hc'⟩⟩
      · rw [List.getElem?_set_ne (Ne.symm hj)] at e2
        obtain ⟨u', r', q⟩ := hl j y v' e1 e2 e3
        refine ⟨u', r', ?_⟩
        rcases q with q | ⟨k, c', e, z'⟩
        · exact .inl q
        · refine .inr ⟨k, c', e, z'.sameBut hs ?_⟩
          rintro rfl
          exact hj (nodup_ix hN e1 (I.ok.inj _ _ _ e hc ▸ hi))
    · by_cases hcc : c' = c
      · subst hcc; exact ⟨_, hc'⟩
      · obtain ⟨w2, z2⟩ := I.cell y c' e
        exact ⟨w2, z2.sameBut hs hcc⟩
    · obtain ⟨e, n, ne, nf, d⟩ := I.pin p hp
      refine ⟨(hs.2 p.1 ?_).trans e, n, ne, nf, d⟩
      intro q
      rw [q, hoc] at e
      have q' : oc = p.2 := Option.some.inj e
      exact d w' (by rw [← q']; exact hocd)
theorem store_ok {M : Model} {A : Around} {E : Value → Shared → Prop} {i : Nat} {x : Str} {v : V} {u : Value} {Q : Unit → Shared → Prop} (I : Inv X pins σ H s) (hN : X.N.Nodup) (hi : X.N[i]? = some x) (hx : Loc X.env.scope x) (r : RelV v u)
    (h : ∀ s', Inv X pins (σ.set i (some v)) H s' → Q () s') (hf : X.fn x = true ∨ X.env.scope.names.lookup x = some .local := by first | exact .inl rfl | exact .inr rfl | assumption) : wpAny M A (storeName X.env x u) Q E s :=
  store_ok2 I hN hi hx r (fun s' I' _ => h s' I') hf
/-- behind a call or a block, the state as it is -/
theorem Inv.call' {s' : Shared} {ch : List Addr} (I : Inv X pins σ H s) (ho : s'.os = s.os) (u : Un (frs X.stack) ch H H' s.heap s'.heap) (hok : HOk X.prog X.w H' s'.heap) (hg : AllBare s'.gens)
    (hch : ∀ b ∈ ch, (b ∈ X.ex ∨ X.s_0.heap.objs.size ≤ b) ∧ b ≠ X.env.locals ∧ (∀ x c, X.env.cells.lookup x = some c → c ≠ b) ∧ ∀ p ∈ X.pn ++ pins, p.1 ≠ b) : Inv X pins σ H' s' := by
  obtain ⟨h', g', d', t', o'⟩ := s'
  have e : o' = s.os := ho
  subst e
  exact I.call (g' := g') (t' := t') (d' := d') u hok hg hch
end

/-! ### the judgements -/
/-- an exception: its class, its own dict's address (where it has one), the abstract heap behind it -/
abbrev XK := Value → Option Addr → Hp → Prop
abbrev St := List (Option V)
abbrev VK := V → Hp → Prop
/-- an expression's reading; a test's; an argument list's -/
abbrev TE := St → Hp → VK → Prop
abbrev TT := St → Hp → (Bool → Hp → Prop) → Prop
abbrev TA := St → Hp → (List V → Hp → Prop) → Prop
/-- what is wanted behind a statement -/
structure Ends where
  nx : St → Hp → Prop
  rt : VK
  bk : St → Hp → Prop := fun _ _ => False
  ct : St → Hp → Prop := fun _ _ => False
abbrev TS := Ends → St → Hp → Prop

def EP (X : Cx) (pins : List (Addr × Obj)) (σ : St) (Q : VK) (u : Value) (s' : Shared) : Prop := ∃ v H', Inv X pins σ H' s' ∧ RelV v u ∧ Q v H'
def TP (X : Cx) (pins : List (Addr × Obj)) (σ : St) (Q : Bool → Hp → Prop) (b : Bool) (s' : Shared) : Prop := ∃ H', Inv X pins σ H' s' ∧ Q b H'
def AP (X : Cx) (pins : List (Addr × Obj)) (σ : St) (Q : List V → Hp → Prop) (us : List Value) (s' : Shared) : Prop := ∃ vs H', Inv X pins σ H' s' ∧ Vals vs us ∧ Q vs H'
def SP (X : Cx) (pins : List (Addr × Obj)) (D : Ends) (f : Flow) (s' : Shared) : Prop :=
  match f with
  | .next => ∃ σ' H', Inv X pins σ' H' s' ∧ D.nx σ' H'
  | .brk => ∃ σ' H', Inv X pins σ' H' s' ∧ D.bk σ' H'
  | .cont => ∃ σ' H', Inv X pins σ' H' s' ∧ D.ct σ' H'
  | .ret u => ∃ v σ' H', Inv X pins σ' H' s' ∧ RelV v u ∧ D.rt v H'

def PE (X : Cx) (e : Expr) (t : TE) : Prop :=
  ∀ (pins : List (Addr × Obj)) (s : Shared) (σ : St) (H : Hp) (Q : VK), Inv X pins σ H s → t σ H Q → wpAny (model X.prog X.w) X.A (eval e X.env) (EP X pins σ Q) X.xe s
def PT (X : Cx) (e : Expr) (t : TT) : Prop :=
  ∀ (pins : List (Addr × Obj)) (s : Shared) (σ : St) (H : Hp) (Q : Bool → Hp → Prop), Inv X pins σ H s → t σ H Q → wpAny (model X.prog X.w) X.A (isTrue e X.env (eval e X.env)) (TP X pins σ Q) X.xe s
/-- a test whatever its 'whole' is (and, or) -/
def PW (X : Cx) (e : Expr) (t : TT) : Prop :=
  ∀ (whole : Sem Value) (pins : List (Addr × Obj)) (s : Shared) (σ : St) (H : Hp) (Q : Bool → Hp → Prop), Inv X pins σ H s → t σ H Q → wpAny (model X.prog X.w) X.A (isTrue e X.env whole) (TP X pins σ Q) X.xe s
theorem PW.pt {X : Cx} {e : Expr} {t : TT} (h : PW X e t) : PT X e t := h _
/-- an argument list (no star), from the left -/
def PA (X : Cx) (es : List Expr) (t : TA) : Prop :=
  ∀ (pos : Pos) (pins : List (Addr × Obj)) (s : Shared) (σ : St) (H : Hp) (Q : List V → Hp → Prop), Inv X pins σ H s → t σ H Q → wpAny (model X.prog X.w) X.A (spliced (backTo pos (starEach es X.env))) (AP X pins σ Q) X.xe s
def PS (X : Cx) (st : Stmt) (t : TS) : Prop :=
  ∀ (pins : List (Addr × Obj)) (s : Shared) (σ : St) (H : Hp) (D : Ends), Inv X pins σ H s → t D σ H → wpAny (model X.prog X.w) X.A (exec st X.env) (SP X pins D) X.xe s
def PSs (X : Cx) (st : List Stmt) (t : TS) : Prop :=
  ∀ (pins : List (Addr × Obj)) (s : Shared) (σ : St) (H : Hp) (D : Ends), Inv X pins σ H s → t D σ H → wpAny (model X.prog X.w) X.A (execs st X.env) (SP X pins D) X.xe s
/-- weaken the end -/
theorem thn {α : Type} {t : Sem α} {Q Q' : α → Shared → Prop} {M : Model} {A : Around} {E : Value → Shared → Prop} {s : Shared} (h : wpAny M A t Q E s) (hQ : ∀ a s, Q a s → Q' a s) : wpAny M A t Q' E s := wpAny_mono h hQ fun _ _ x => x
end L2

namespace L2
open PySem PySem.Spec PyProof.Rows
section
variable {X : Cx}

/-- two expressions in a row -/
theorem bin {a b : Expr} {ta tb : TE} (ha : PE X a ta) (hb : PE X b tb) {pins : List (Addr × Obj)} {s : Shared} {σ : St} {H : Hp} {R : V → V → Hp → Prop} (I : Inv X pins σ H s) (h : ta σ H fun x H1 => tb σ H1 fun y H2 => R x y H2)
    {α : Type} {Q : α → Shared → Prop} {f : Value → Value → Sem α}
    (hf : ∀ v u s2 x y H2, Inv X pins σ H2 s2 → RelV x v → RelV y u → R x y H2 → wpAny (model X.prog X.w) X.A (f v u) Q X.xe s2) :
    wpAny (model X.prog X.w) X.A (eval a X.env) (fun v s₁ => wpAny (model X.prog X.w) X.A (eval b X.env) (fun u s₂ => wpAny (model X.prog X.w) X.A (f v u) Q X.xe s₂) X.xe s₁) X.xe s := by
  refine thn (ha pins s σ H _ I h) fun v s1 ⟨x, H1, I1, r1, q1⟩ => ?_
  refine thn (hb pins s1 σ H1 _ I1 q1) fun u s2 ⟨y, H2, I2, r2, q2⟩ => ?_
  exact hf v u s2 x y H2 I2 r1 r2 q2

/-! ### names and constants -/
def tVar (i : Nat) : TE := fun σ H Q => ∃ v, σ[i]? = some (some v) ∧ Q v H
def tC (v : V) : TE := fun _ H Q => Q v H
theorem pe_var {i : Nat} {x : Str} {pos : Pos} (hN : X.N[i]? = some x) (hv : Vis X.env.scope x) (hd : (x == ("__debug__" : Str)) = false := by decide) (hcd : (x == ("__classdict__" : Str)) = false := by decide) : PE X (.Name x pos) (tVar i) := by
  intro pins s σ H Q I h
  obtain ⟨v, e, h⟩ := h
  obtain ⟨m, hn, hl⟩ := I.loc
  obtain ⟨u, r, l⟩ := hl i x v hN e hv
  have fin : EP X pins σ Q u s := ⟨v, H, I, r, h⟩
  rcases l with ⟨hk, hm⟩ | ⟨hk, c, hc, hcell⟩
  · exact wpAny_Name (wpAny_loadName_local I.ok.kind hk hn hm fin) hd
  · rcases hk with hk | hk
    · exact wpAny_Name (wpAny_loadName_cell I.ok.kind hk hc hcell fin) hd
    · exact wpAny_Name (wpAny_loadName_free I.ok.kind hk hc hcell fin hcd) hd
theorem pe_int {i j pos} : PE X (.Constant (.int i) j pos) (tC (.int i)) := fun _ _ _ H _ I h => wpAny_Constant_int ⟨.int i, H, I.tok _, ⟨_, rfl⟩, h⟩
theorem pe_bl {b j pos} : PE X (.Constant (.bool b) j pos) (tC (.bl b)) := fun _ _ _ H _ I h => Constant_bool ⟨.bl b, H, I, rfl, h⟩
theorem pe_non {j pos} : PE X (.Constant .none j pos) (tC .non) := fun _ _ _ H _ I h => Constant_none ⟨.non, H, I, rfl, h⟩
theorem pe_str {x j pos} : PE X (.Constant (.str x) j pos) (tC (.str x)) := fun _ _ _ H _ I h => Calls.Constant_str ⟨.str x, H, I.tok _, ⟨_, rfl⟩, h⟩

/-- a global name of the def -/
def Gl (X : Cx) (x : Str) : Prop := X.env.kindOf x = some .globalImplicit
theorem ld_glob {E : Value → Shared → Prop} {pins : List (Addr × Obj)} {s : Shared} {σ : St} {H : Hp} {x : Str} {u : Value} {pos : Pos} {Q : Value → Shared → Prop} (I : Inv X pins σ H s) (hg : Gl X x) (hm : X.mg x = some u) (h : Q u s)
    (hd : (x == ("__debug__" : Str)) = false := by decide) : wpAny (model X.prog X.w) X.A (eval (.Name x pos) X.env) Q E s :=
  Calls.Name_function_global I.ok.kind hg (Calls.loadGlobal_global (by rw [I.ok.glob]; exact I.mod.glob.keeps I.bk) hm h) hd
theorem ld_blt {E : Value → Shared → Prop} {pins : List (Addr × Obj)} {s : Shared} {σ : St} {H : Hp} {x : Str} {u : Value} {pos : Pos} {Q : Value → Shared → Prop} (I : Inv X pins σ H s) (hg : Gl X x) (hm : X.mg x = none) (hv : bootBuiltins x = some u) (h : Q u s)
    (hn : x ≠ "__name__" := by decide) (hd : (x == ("__debug__" : Str)) = false := by decide) : wpAny (model X.prog X.w) X.A (eval (.Name x pos) X.env) Q E s := by
  obtain ⟨mb, h1, h2⟩ := I.mod.blt
  exact Calls.Name_function_global I.ok.kind hg (Calls.loadGlobal_builtin (by rw [I.ok.glob]; exact I.mod.glob.keeps I.bk) hm (by rw [I.ok.blt]; exact h1.keeps I.bk) ((h2 x hn).trans hv) h) hd
/-- a module's constant, a class, a function, as a value -/
theorem pe_glob {x : Str} {v : V} {u : Value} {pos : Pos} (hg : Gl X x) (hm : X.mg x = some u) (r : RelV v u) (hd : (x == ("__debug__" : Str)) = false := by decide) : PE X (.Name x pos) (tC v) :=
  fun _ _ _ H _ I h => ld_glob I hg hm ⟨v, H, I, r, h⟩ hd
/-! ### arithmetic -/
/-- two ints -/
def t2I (ta tb : TE) (k : Int → Int → Hp → Prop) : St → Hp → Prop := fun σ H => ta σ H fun x H1 => tb σ H1 fun y H2 => ∃ i j, x = .int i ∧ y = .int j ∧ k i j H2
def tAdd (ta tb : TE) : TE := fun σ H Q => t2I ta tb (fun i j H2 => Q (.int (i + j)) H2) σ H
def tSub (ta tb : TE) : TE := fun σ H Q => t2I ta tb (fun i j H2 => Q (.int (i - j)) H2) σ H
/-- the left factor below 2^64 -/
def tMul (ta tb : TE) : TE := fun σ H Q => t2I ta tb (fun i j H2 => (-(2 ^ 64) < i ∧ i < 2 ^ 64) ∧ Q (.int (i * j)) H2) σ H
variable {a b : Expr} {ta tb : TE} {pos : Pos}
/-! ### comparisons -/
def PC (X : Cx) (op : CmpOp) (a b : Expr) (t : TE) : Prop :=
  ∀ (pins : List (Addr × Obj)) (s : Shared) (σ : St) (H : Hp) (Q : VK), Inv X pins σ H s → t σ H Q →
    wpAny (model X.prog X.w) X.A (eval a X.env) (fun v s₁ => wpAny (model X.prog X.w) X.A (eval b X.env) (fun u s₂ => wpAny (model X.prog X.w) X.A (compareOp op v u) (EP X pins σ Q) X.xe s₂) X.xe s₁) X.xe s
theorem nobehind (b : Expr) {op : CmpOp} (h : op ≠ .In) (h2 : op ≠ .NotIn) : behindInMarks op b = false := by
  have e1 : (op == CmpOp.In) = false := by cases op <;> first | rfl | exact absurd rfl h
  have e2 : (op == CmpOp.NotIn) = false := by cases op <;> first | rfl | exact absurd rfl h2
  cases b <;> simp [behindInMarks, e1, e2]
def tCmp (p : Int → Int → Bool) (ta tb : TE) : TE := fun σ H Q => t2I ta tb (fun i j H2 => Q (.bl (p i j)) H2) σ H
abbrev tLt : TE → TE → TE := tCmp fun i j => decide (i < j)
abbrev tLe : TE → TE → TE := tCmp fun i j => decide (i ≤ j)
abbrev tGt : TE → TE → TE := tCmp fun i j => decide (j < i)
abbrev tGe : TE → TE → TE := tCmp fun i j => decide (j ≤ i)
abbrev tEqI : TE → TE → TE := tCmp fun i j => decide (i = j)
abbrev tNeI : TE → TE → TE := tCmp fun i j => !decide (i = j)
/-- is None -/
def tIsN (ta : TE) : TE := fun σ H Q => ta σ H fun x H1 => Q (.bl (decide (x = .non))) H1
def tNotN (ta : TE) : TE := fun σ H Q => ta σ H fun x H1 => Q (.bl (!decide (x = .non))) H1
/-- a comparison as a value, as a test -/
def tB (t : TE) : TT := fun σ H Q => t σ H fun x H1 => ∃ c, x = .bl c ∧ Q c H1
theorem pe_cmp {op : CmpOp} {t : TE} (h : PC X op a b t) (h1 : behindInMarks op b = false := by first | exact nobehind _ (by decide) (by decide) | rfl) : PE X (.Compare a [op] [b] pos) t := fun pins s σ H Q I hw => wpAny_Compare1 (h pins s σ H Q I hw) h1
theorem pt_cmp {op : CmpOp} {t : TE} (h : PC X op a b t) (h1 : behindInMarks op b = false := by first | exact nobehind _ (by decide) (by decide) | rfl) : PT X (.Compare a [op] [b] pos) (tB t) := by
  intro pins s σ H Q I hw
  refine wpAny_isTrue_Compare1 (thn (h pins s σ H _ I hw) fun v s1 h1 => thn h1 fun u s2 h2 => thn h2 fun c s3 ⟨x, H1, I1, r1, q1⟩ => ?_) h1
  obtain ⟨d, rfl, q⟩ := q1
  cases r1
  exact wpAny_truthy_bool ⟨H1, I1, q⟩
/-- an expression whose value is a bool, as a test -/
theorem pt_val {e : Expr} {t : TE} (h : PE X e t) (he : ∀ whole, isTrue e X.env whole = (do let v ← whole; standAt e.pos; holding [v] (truthy v)) := by intro _; rfl) : PT X e (tB t) := by
  intro pins s σ H Q I hw
  refine isTrue_plain (thn (h pins s σ H _ I hw) fun v s1 ⟨x, H1, I1, r1, q1⟩ => ?_) (he _)
  obtain ⟨d, rfl, q⟩ := q1
  cases r1
  exact wpAny_truthy_bool ⟨H1, I1, q⟩

/-! ### and, or, not -/
variable {tA tB' : TT} {rest : List Expr}
def tAnd (t u : TT) : TT := fun σ H Q => t σ H fun c H1 => if c = true then u σ H1 Q else Q false H1
def tOr (t u : TT) : TT := fun σ H Q => t σ H fun c H1 => if c = true then Q true H1 else u σ H1 Q
def tNot (t : TT) : TT := fun σ H Q => t σ H fun c H1 => Q (!c) H1
theorem pw_and1 (ha : PT X a tA) : PW X (.BoolOp .And [a] pos) tA := by
  intro wh pins s σ H Q I h
  refine isTrue_and (thn (ha pins s σ H Q I h) fun c s1 e => ?_)
  cases c with
  | true => exact isTrue_and_nil e
  | false => exact e
theorem pw_or1 (ha : PT X a tA) : PW X (.BoolOp .Or [a] pos) tA := by
  intro wh pins s σ H Q I h
  refine isTrue_or (thn (ha pins s σ H Q I h) fun c s1 e => ?_)
  cases c with
  | false => exact isTrue_or_nil e
  | true => exact e
theorem pw_and (ha : PT X a tA) (hb : PW X (.BoolOp .And (b :: rest) pos) tB') : PW X (.BoolOp .And (a :: b :: rest) pos) (tAnd tA tB') := by
  intro wh pins s σ H Q I h
  refine isTrue_and (thn (ha pins s σ H _ I h) fun c s1 ⟨H1, I1, q1⟩ => ?_)
  cases c with
  | true => exact hb wh pins s1 σ H1 Q I1 q1
  | false => exact ⟨H1, I1, q1⟩
theorem pw_or (ha : PT X a tA) (hb : PW X (.BoolOp .Or (b :: rest) pos) tB') : PW X (.BoolOp .Or (a :: b :: rest) pos) (tOr tA tB') := by
  intro wh pins s σ H Q I h
  refine isTrue_or (thn (ha pins s σ H _ I h) fun c s1 ⟨H1, I1, q1⟩ => ?_)
  cases c with
  | true => exact ⟨H1, I1, q1⟩
  | false => exact hb wh pins s1 σ H1 Q I1 q1
theorem pt_not (ha : PT X a tA) : PT X (.UnaryOp .Not a pos) (tNot tA) := by
  intro pins s σ H Q I h
  exact isTrue_not (ha pins s σ H (fun c H1 => Q (!c) H1) I h)
/-- .. as values (bools) -/
def tAndV (ta tb : TE) : TE := fun σ H Q => ta σ H fun x H1 => ∃ c, x = .bl c ∧ if c = true then tb σ H1 Q else Q (.bl false) H1
def tOrV (ta tb : TE) : TE := fun σ H Q => ta σ H fun x H1 => ∃ c, x = .bl c ∧ if c = true then Q (.bl true) H1 else tb σ H1 Q
def tNotV (ta : TE) : TE := fun σ H Q => ta σ H fun x H1 => ∃ c, x = .bl c ∧ Q (.bl (!c)) H1
theorem pe_not (ha : PE X a ta) : PE X (.UnaryOp .Not a pos) (tNotV ta) := by
  intro pins s σ H Q I h
  refine UnaryOp_ (thn (ha pins s σ H _ I h) fun v s1 ⟨x, H1, I1, r1, q1⟩ => ?_)
  obtain ⟨c, rfl, q1⟩ := q1
  cases r1
  exact not_of (wpAny_truthy_bool ⟨.bl (!c), H1, I1, rfl, q1⟩)
/-- a if t else b -/
def tIf (t : TT) (ta tb : TE) : TE := fun σ H Q => t σ H fun c H1 => if c = true then ta σ H1 Q else tb σ H1 Q
end
end L2

namespace L2
open PySem PySem.Spec PyProof.Rows

/-! ### a list, a tuple that is read: tracked, frozen, or an object of the module -/
def SqL (K : PySem.W.Frag) (H : Hp) (a : Addr) (xs : List V) : Prop :=
  Rd H a (.lst xs) ∨
    ∃ (o : Obj) (its : Array Value) (n : Nat), K.lookup a = some o ∧ o.cls = .type "list" ∧ o.dict = none ∧ o.data = .seq its n ∧ its.size ≤ sizeLine ∧ Vals xs its.toList
def SqT (K : PySem.W.Frag) (H : Hp) (a : Addr) (xs : List V) : Prop :=
  Rd H a (.tup xs) ∨
    ∃ (o : Obj) (its : Array Value) (n : Nat), K.lookup a = some o ∧ o.cls = .type "tuple" ∧ o.data = .seq its n ∧ its.size ≤ sizeLine ∧ Vals xs its.toList
def absV : Value → Option V
  | .none => some .non
  | .bool b => some (.bl b)
  | .int i _ => some (.int i)
  | .str x _ => some (.str x)
  | .bytes b _ => some (.byt b)
  | .float b _ => some (.flt b)
  | .ref a => some (.ref a)
  | .type n => some (.ty n)
  | _ => none
theorem RelV.abs {x : V} {u : Value} (r : RelV x u) : absV u = some x := by
  cases x with
  | non => cases r; rfl
  | bl _ => cases r; rfl
  | int _ => obtain ⟨t, rfl⟩ := r; rfl
  | str _ => obtain ⟨t, rfl⟩ := r; rfl
  | byt _ => obtain ⟨t, rfl⟩ := r; rfl
  | flt _ => obtain ⟨t, rfl⟩ := r; rfl
  | ref _ => cases r; rfl
  | ty _ => cases r; rfl
theorem RelV.inj {x y : V} {u : Value} (r : RelV x u) (q : RelV y u) : x = y := Option.some.inj (r.abs.symm.trans q.abs)
theorem Vals.inj : ∀ {xs ys : List V} {us : List Value}, Vals xs us → Vals ys us → xs = ys
  | _, _, _, .nil, .nil => rfl
  | _, _, _, .cons r t, .cons r' t' => by rw [r.inj r', Vals.inj t t']
section
variable {X : Cx} {pins : List (Addr × Obj)} {σ : St} {H : Hp} {s : Shared} {a : Addr} {xs ys : List V}
theorem SqL.of {K : PySem.W.Frag} (h : H a = some (.lst xs)) : SqL K H a xs := .inl (.inl h)
theorem SqT.of {K : PySem.W.Frag} (h : H a = some (.tup xs)) : SqT K H a xs := .inl (.inl h)
theorem Inv.list (I : Inv X pins σ H s) (h : SqL X.K H a xs) : ∃ its : List Value, Vals xs its ∧ PlainL s.heap a its.toArray ∧ xs.length ≤ sizeLine := by
  rcases h with h | ⟨o, its, n, hk, hc, hd, hs, hz, r⟩
  · obtain ⟨z, its, n, r, e⟩ := h.ok I.hok
    exact ⟨its, r, ⟨_, n, e, rfl, rfl, rfl⟩, z⟩
  · refine ⟨its.toList, r, ⟨o, n, I.kIn a o hk, hc, hd, by simpa using hs⟩, ?_⟩
    have e := r.length
    simp only [Array.length_toList] at e
    omega
theorem Inv.tuple (I : Inv X pins σ H s) (h : SqT X.K H a xs) : ∃ its : List Value, Vals xs its ∧ IsTup s.heap a its.toArray ∧ xs.length ≤ sizeLine := by
  rcases h with h | ⟨o, its, n, hk, hc, hs, hz, r⟩
  · obtain ⟨z, its, r, p⟩ := h.ok I.hok
    exact ⟨its, r, p, z⟩
  · refine ⟨its.toList, r, ⟨o, I.kIn a o hk, hc, n, by simpa using hs⟩, ?_⟩
    have e := r.length
    simp only [Array.length_toList] at e
    omega
theorem Inv.list_inj (I : Inv X pins σ H s) (h : SqL X.K H a xs) (h' : SqL X.K H a ys) : xs = ys := by
  obtain ⟨its, r, ⟨o, n, e, _, _, d⟩, _⟩ := I.list h
  obtain ⟨its', r', ⟨o', n', e', _, _, d'⟩, _⟩ := I.list h'
  rw [e] at e'; cases e'
  rw [d] at d'
  injection d' with d1 _
  have : its = its' := by simpa using congrArg Array.toList d1
  subst this
  exact r.inj r'
theorem Inv.tuple_inj (I : Inv X pins σ H s) (h : SqT X.K H a xs) (h' : SqT X.K H a ys) : xs = ys := by
  obtain ⟨its, r, ⟨o, e, _, n, d⟩, _⟩ := I.tuple h
  obtain ⟨its', r', ⟨o', e', _, n', d'⟩, _⟩ := I.tuple h'
  rw [e] at e'; cases e'
  rw [d] at d'
  injection d' with d1 _
  have : its = its' := by simpa using congrArg Array.toList d1
  subst this
  exact r.inj r'
end

/-! ### another wish about exceptions -/
abbrev Cx.wish (X : Cx) (E : Value → Shared → Prop) : Cx := { X with xe := E }
/-- no exception leaves -/
abbrev Cx.nox (X : Cx) : Cx := X.wish fun _ _ => False
theorem Cx.Ok.wish {X : Cx} (ok : X.Ok) (E : Value → Shared → Prop) : (X.wish E).Ok :=
  ⟨ok.mod, ok.kind, ok.glob, ok.blt, ok.above, ok.inj, ok.has, ok.cab, ok.hd, ok.frames, ok.stk, ok.exf, ok.bs, ok.bsz, ok.noex, ok.exfs, ok.funs, ok.frf⟩
theorem Cx.Ok.unwish {X : Cx} {E : Value → Shared → Prop} (ok : (X.wish E).Ok) : X.Ok :=
  ⟨ok.mod, ok.kind, ok.glob, ok.blt, ok.above, ok.inj, ok.has, ok.cab, ok.hd, ok.frames, ok.stk, ok.exf, ok.bs, ok.bsz, ok.noex, ok.exfs, ok.funs, ok.frf⟩
section
variable {X : Cx} {pins : List (Addr × Obj)} {σ : St} {H : Hp} {s : Shared} {E : Value → Shared → Prop}
theorem Inv.wish (I : Inv X pins σ H s) (E : Value → Shared → Prop) : Inv (X.wish E) pins σ H s := ⟨I.ok.wish E, I.os, I.bare, I.base, I.loc, I.cell, I.free, I.freeC, I.pin, I.hok, I.len⟩
theorem Inv.unwish (I : Inv (X.wish E) pins σ H s) : Inv X pins σ H s := ⟨I.ok.unwish, I.os, I.bare, I.base, I.loc, I.cell, I.free, I.freeC, I.pin, I.hok, I.len⟩
theorem SP.unwish {D : Ends} {f : Flow} {s' : Shared} (h : SP (X.wish E) pins D f s') : SP X pins D f s' := by
  cases f with
  | next => obtain ⟨σ', H', I, q⟩ := h; exact ⟨σ', H', I.unwish, q⟩
  | brk => obtain ⟨σ', H', I, q⟩ := h; exact ⟨σ', H', I.unwish, q⟩
  | cont => obtain ⟨σ', H', I, q⟩ := h; exact ⟨σ', H', I.unwish, q⟩
  | ret u => obtain ⟨v, σ', H', I, r, q⟩ := h; exact ⟨v, σ', H', I.unwish, r, q⟩
theorem PE.nox {e : Expr} {t : TE} (h : PE X.nox e t) : PE X e t := fun pins s σ H Q I hw =>
  wpAny_mono (h pins s σ H Q (I.wish _) hw) (fun _ _ ⟨v, H', I', r, q⟩ => ⟨v, H', I'.unwish, r, q⟩) fun _ _ z => False.elim z
theorem PT.nox {e : Expr} {t : TT} (h : PT X.nox e t) : PT X e t := fun pins s σ H Q I hw =>
  wpAny_mono (h pins s σ H Q (I.wish _) hw) (fun _ _ ⟨H', I', q⟩ => ⟨H', I'.unwish, q⟩) fun _ _ z => False.elim z
theorem PSs.nox {st : List Stmt} {t : TS} (h : PSs X.nox st t) : PSs X st t := fun pins s σ H D I hw =>
  wpAny_mono (h pins s σ H D (I.wish _) hw) (fun _ _ q => q.unwish) fun _ _ z => False.elim z
end

/-! ### blocks and small statements -/
section
variable {X : Cx} {st : Stmt} {rest : List Stmt} {t u : TS} {e : Expr} {te : TE} {pos : Pos}
def tNext : TS := fun D σ H => D.nx σ H
def tSeq (t u : TS) : TS := fun D σ H => t { D with nx := u D } σ H
theorem pss_nil : PSs X [] tNext := fun _ _ σ H _ I h => wpAny_execs_nil ⟨σ, H, I, h⟩
theorem pss_cons (h1 : PS X st t) (h2 : PSs X rest u) : PSs X (st :: rest) (tSeq t u) := by
  intro pins s σ H D I h
  refine wpAny_execs_cons (thn (h1 pins s σ H { D with nx := u D } I h) fun f s1 q => ?_)
  cases f with
  | next =>
    obtain ⟨σ', H', I', q⟩ := q
    exact h2 pins s1 σ' H' D I' q
  | ret v => exact q
  | brk => exact q
  | cont => exact q
theorem pss_one (h1 : PS X st t) : PSs X [st] t := by
  intro pins s σ H D I h
  refine wpAny_execs_cons (thn (h1 pins s σ H D I h) fun f s1 q => ?_)
  cases f with
  | next => exact wpAny_execs_nil q
  | ret v => exact q
  | brk => exact q
  | cont => exact q
def tBreak : TS := fun D σ H => D.bk σ H
def tCont : TS := fun D σ H => D.ct σ H
/-- in a def's body nothing is shown -/
theorem Inv.quiet {pins : List (Addr × Obj)} {σ : St} {H : Hp} {s : Shared} (I : Inv X pins σ H s) : interactive X.env = false := by simp [interactive, I.ok.kind]
/-- an expression whose value is dropped -/
def tDrop (te : TE) : TS := fun D σ H => te σ H fun _ H1 => D.nx σ H1
theorem ps_expr (he : PE X e te) (hs : swapsWith e none pos.line X.env = pure false := by rfl) : PS X (.Expr e pos) (tDrop te) := by
  intro pins s σ H D I h
  exact wpAny_Expr_any (thn (he pins s σ H _ I h) fun v s1 ⟨x, H1, I1, r1, q1⟩ => ⟨σ, H1, I1, q1⟩) I.quiet hs
def tRet (te : TE) : TS := fun D σ H => te σ H D.rt
theorem ps_ret (he : PE X e te) : PS X (.Return (some e) pos) (tRet te) := by
  intro pins s σ H D I h
  exact wpAny_Return_some (thn (he pins s σ H _ I h) fun v s1 ⟨x, H1, I1, r1, q1⟩ => ⟨x, σ, H1, I1, r1, q1⟩)
def tRetN : TS := fun D _ H => D.rt .non H
def tIfS (c : TT) (t u : TS) : TS := fun D σ H => c σ H fun b H1 => if b = true then t D σ H1 else u D σ H1
theorem ps_if {c : Expr} {a b : List Stmt} {tc : TT} (hc : PT X c tc) (ha : PSs X a t) (hb : PSs X b u) : PS X (.If c a b pos) (tIfS tc t u) := by
  intro pins s σ H D I h
  refine wpAny_If (thn (hc pins s σ H _ I h) fun d s1 ⟨H1, I1, q1⟩ => ?_)
  cases d with
  | true => exact ha pins s1 σ H1 D I1 q1
  | false => exact hb pins s1 σ H1 D I1 q1
/-- code that the proof never comes to -/
def tNever : TS := fun _ _ _ => False
end

/-! ### targets -/
abbrev TG := V → St → Hp → (St → Hp → Prop) → Prop
abbrev TGs := List V → St → Hp → (St → Hp → Prop) → Prop
def PG (X : Cx) (target : Expr) (t : TG) : Prop :=
  ∀ (pins : List (Addr × Obj)) (s : Shared) (σ : St) (H : Hp) (v : V) (u : Value) (Q : St → Hp → Prop), Inv X pins σ H s → RelV v u → t v σ H Q →
    wpAny (model X.prog X.w) X.A (assign target X.env u) (fun _ s' => ∃ σ' H', Inv X pins σ' H' s' ∧ Q σ' H') X.xe s
/-- several targets, one after another -/
def PGs (X : Cx) (ts : List Expr) (t : TGs) : Prop :=
  ∀ (pins : List (Addr × Obj)) (s : Shared) (σ : St) (H : Hp) (vs : List V) (us : List Value) (Q : St → Hp → Prop), Inv X pins σ H s → Vals vs us → t vs σ H Q →
    wpAny (model X.prog X.w) X.A (assignInOrder ((assignEach ts X.env).map (·.2)) us) (fun _ s' => ∃ σ' H', Inv X pins σ' H' s' ∧ Q σ' H') X.xe s
/-- o[i] = v, by values -/
abbrev TSet := V → V → V → Hp → (Hp → Prop) → Prop
def PSet (X : Cx) (t : TSet) : Prop :=
  ∀ (pins : List (Addr × Obj)) (s : Shared) (σ : St) (H : Hp) (o i v : V) (ov iv u : Value) (Q : Hp → Prop), Inv X pins σ H s → RelV o ov → RelV i iv → RelV v u → t o i v H Q →
    wpAny (model X.prog X.w) X.A (setItem ov iv u) (fun _ s' => ∃ H', Inv X pins σ H' s' ∧ Q H') X.xe s
/-- a op= b, by values -/
abbrev TIp := V → V → Hp → VK → Prop
def PIp (X : Cx) (op : Operator) (t : TIp) : Prop :=
  ∀ (pins : List (Addr × Obj)) (s : Shared) (σ : St) (H : Hp) (x y : V) (v u : Value) (Q : VK), Inv X pins σ H s → RelV x v → RelV y u → t x y H Q →
    wpAny (model X.prog X.w) X.A (inplaceOp op v u) (EP X pins σ Q) X.xe s
section
variable {X : Cx} {pos : Pos}
def gName (i : Nat) : TG := fun v σ H Q => Q (σ.set i (some v)) H
theorem pg_name {i : Nat} {x : Str} (hN : X.N.Nodup) (hi : X.N[i]? = some x) (hx : Loc X.env.scope x) (hf : X.fn x = true ∨ X.env.scope.names.lookup x = some .local := by first | exact .inl rfl | exact .inr rfl | assumption) : PG X (.Name x pos) (gName i) := by
  intro pins s σ H v u Q I r h
  exact wpAny_assign_Name (store_ok I hN hi hx r (fun s' I' => ⟨_, H, I', h⟩) hf)
def gNil : TGs := fun vs σ H Q => vs = [] ∧ Q σ H
def gCons (t : TG) (u : TGs) : TGs := fun vs σ H Q => ∃ v r, vs = v :: r ∧ t v σ H fun σ' H' => u r σ' H' Q
theorem pgs_nil : PGs X [] gNil := by
  intro pins s σ H vs us Q I r h
  obtain ⟨e, h⟩ := h
  subst e
  cases r
  exact assignInOrder_nil ⟨σ, H, I, h⟩
theorem pgs_cons {e : Expr} {es : List Expr} {t : TG} {u : TGs} (h1 : PG X e t) (h2 : PGs X es u)
    (hs : (assignEach (e :: es) X.env).map (·.2) = assign e X.env :: (assignEach es X.env).map (·.2) := by rfl) : PGs X (e :: es) (gCons t u) := by
  intro pins s σ H vs us Q I r h
  obtain ⟨v, vr, e1, h⟩ := h
  subst e1
  cases r with
  | cons r rr =>
    rw [hs]
    refine assignInOrder_cons (thn (h1 pins s σ H _ _ _ I r h) fun _ s1 ⟨σ1, H1, I1, q1⟩ => ?_)
    exact h2 pins s1 σ1 H1 _ _ Q I1 rr q1
/-- (a, b, ..) = a tuple of that length -/
def gTup (K : PySem.W.Frag) (n : Nat) (t : TGs) : TG := fun v σ H Q => ∃ a xs, v = .ref a ∧ SqT K H a xs ∧ xs.length = n ∧ t xs σ H Q
theorem pg_tup {es : List Expr} {k : Nat} {t : TGs} {n : Nat} (hc : X.calm = true) (h : PGs X es t)
    (hn : (assignEach es X.env).length = n := by rfl) (hst : (assignEach es X.env).findIdx? (·.1) = none := by rfl) : PG X (.Tuple es k pos) (gTup X.K n t) := by
  intro pins s σ H v u Q I r hw
  obtain ⟨a, xs, e1, hq, hl, hw⟩ := hw
  subst e1
  cases r
  obtain ⟨its, rv, ht, hz⟩ := I.tuple hq
  refine assign_Tuple_tuple (I.ok.hd hc) ht (by simp [hn, ← hl, rv.length]) hst fun h' hx => ?_
  have I1 : Inv X pins σ H { s with heap := h' } := I.kept (t' := s.toks) fun b o e => hx b o (Nat.ne_of_lt (Heap.lt_size e)) e
  exact h pins _ σ H xs _ Q I1 (by simpa using rv) hw
/-- o[i] = .. -/
def gSub (to ti : TE) (t : TSet) : TG := fun v σ H Q => to σ H fun o H1 => ti σ H1 fun i H2 => t o i v H2 fun H3 => Q σ H3
theorem pg_sub {o i : Expr} {to ti : TE} {t : TSet} (ho : PE X o to) (hi : PE X i ti) (hs : PSet X t)
    (ha : ∀ v, assign (.Subscript o i pos) X.env v = (do
      let ov ← holding [v] (eval o X.env)
      let iv ← holding [v, ov] (eval i X.env)
      standAt pos
      holding [v, ov, iv] (setItem ov iv v)
      release [v, ov, iv] []) := by intro _; rfl) : PG X (.Subscript o i pos) (gSub to ti t) := by
  intro pins s σ H v u Q I r h
  rw [ha]
  refine wpAny_bind (wpAny_holding (thn (ho pins s σ H _ I h) fun ov s1 ⟨x, H1, I1, r1, q1⟩ => ?_))
  refine wpAny_bind (wpAny_holding (thn (hi pins s1 σ H1 _ I1 q1) fun iv s2 ⟨y, H2, I2, r2, q2⟩ => ?_))
  refine wpAny_bind (wpAny_standAt (wpAny_bind (wpAny_holding (thn (hs pins s2 σ H2 x y v ov iv u _ I2 r1 r2 r q2) fun _ s3 ⟨H3, I3, q3⟩ => ?_))))
  exact wpAny_release ⟨σ, H3, I3, q3⟩
/-- target = value -/
def tAsg (te : TE) (g : TG) : TS := fun D σ H => te σ H fun x H1 => g x σ H1 D.nx
theorem ps_asg {tg e : Expr} {te : TE} {g : TG} (he : PE X e te) (hg : PG X tg g) (hs : swapsWithSole [tg] e pos.line X.env = pure false := by rfl) (hw : swappedStores [tg] e X.env = pure none := by rfl)
    (h1 : (assignEach [tg] X.env).map (·.2) = [assign tg X.env] := by rfl) : PS X (.Assign [tg] e pos) (tAsg te g) := by
  intro pins s σ H D I h
  refine wpAny_Assign_stores (thn (he pins s σ H _ I h) fun v s1 ⟨x, H1, I1, r1, q1⟩ => ?_) hs hw
  rw [h1]
  exact thn (hg pins s1 σ H1 x v _ I1 r1 q1) fun _ s2 q => q
/-- name = value -/
theorem ps_set {i : Nat} {x : Str} {e : Expr} {te : TE} {pos' : Pos} (hN : X.N.Nodup) (hi : X.N[i]? = some x) (hx : Loc X.env.scope x) (he : PE X e te) (hs : swapsWith e (some (.Name x pos')) pos.line X.env = pure false := by rfl) (hf : X.fn x = true ∨ X.env.scope.names.lookup x = some .local := by first | exact .inl rfl | exact .inr rfl | assumption) :
    PS X (.Assign [.Name x pos'] e pos) (tAsg te (gName i)) := by
  intro pins s σ H D I h
  refine wpAny_Assign_Name (thn (he pins s σ H _ I h) fun v s1 ⟨y, H1, I1, r1, q1⟩ => ?_) hs
  exact store_ok I1 hN hi hx r1 (fun s2 I2 => ⟨_, H1, I2, q1⟩) hf
/-- a, b = x, y with plain local names: stored from the right; the pair itself is not tracked (the opening rows as in PyProof/Rows/TupAssign.lean:23) -/
def tPar (i j : Nat) (ta : TA) : TS := fun D σ H => ta σ H fun vs H1 => ∃ v w, vs = [v, w] ∧ D.nx ((σ.set i (some v)).set j (some w)) H1
/-- name op= e -/
def tAug (i : Nat) (te : TE) (ti : TIp) : TS := fun D σ H => ∃ x, σ[i]? = some (some x) ∧ te σ H fun y H1 => ti x y H1 fun z H2 => D.nx (σ.set i (some z)) H2
/-- o[i] op= e -/
def tAugS (to ti te : TE) (tget : V → V → Hp → VK → Prop) (tip : TIp) (tset : TSet) : TS := fun D σ H => to σ H fun o H1 => ti σ H1 fun i H2 => tget o i H2 fun x H3 => te σ H3 fun y H4 => tip x y H4 fun z H5 => tset o i z H5 fun H6 => D.nx σ H6
/-- o[i], by values -/
def PGet (X : Cx) (t : V → V → Hp → VK → Prop) : Prop :=
  ∀ (pins : List (Addr × Obj)) (s : Shared) (σ : St) (H : Hp) (o i : V) (ov iv : Value) (Q : VK), Inv X pins σ H s → RelV o ov → RelV i iv → t o i H Q →
    wpAny (model X.prog X.w) X.A (getItem ov iv) (EP X pins σ Q) X.xe s
/-- ints -/
def ipI (f : Int → Int → Int) : TIp := fun x y H Q => ∃ i j, x = .int i ∧ y = .int j ∧ Q (.int (f i j)) H
end

/-! ### while -/
section
variable {X : Cx} {pos : Pos}
/-- the invariant W with its measure -/
def tWhile (c : TT) (tb : TS) : TS := fun D σ H => ∃ W : Nat → St → Hp → Prop, (∃ m, W m σ H) ∧ ∀ m σ H, W m σ H →
  c σ H fun b H1 => if b = true then ∃ N : St → Hp → Prop, (∀ σ' H', N σ' H' → ∃ m', m' < m ∧ W m' σ' H') ∧ tb { D with nx := N, ct := N, bk := D.nx } σ H1 else D.nx σ H1
theorem ps_while {c : Expr} {body : List Stmt} {tc : TT} {tb : TS} (hp : PassesOwn (model X.prog X.w) X.A X.env X.xe) (hc : PT X c tc) (hb : PSs X body tb) : PS X (.While c body [] pos) (tWhile tc tb) := by
  intro pins s σ H D I h
  obtain ⟨W, ⟨m0, w0⟩, turn⟩ := h
  refine wpAny_While (codeAny_whileLoop (fun n s' => ∃ σ' H', Inv X pins σ' H' s' ∧ W n σ' H') ?_ m0 ⟨σ, H, I, w0⟩)
  rintro n s1 ⟨σ1, H1, I1, w1⟩
  refine wpAny_passesOwn hp (thn (hc pins s1 σ1 H1 _ I1 (turn n σ1 H1 w1)) fun b s2 ⟨H2, I2, q2⟩ => ?_)
  cases b with
  | true =>
    obtain ⟨N, hN, q2⟩ := q2
    rw [if_pos rfl]
    refine wpAny_passesOwn hp (thn (hb pins s2 σ1 H2 _ I2 q2) fun f s3 q3 => ?_)
    cases f with
    | next =>
      obtain ⟨σ3, H3, I3, n3⟩ := q3
      obtain ⟨m', hm, w3⟩ := hN σ3 H3 n3
      exact ⟨m', hm, σ3, H3, I3, w3⟩
    | cont =>
      obtain ⟨σ3, H3, I3, n3⟩ := q3
      obtain ⟨m', hm, w3⟩ := hN σ3 H3 n3
      exact ⟨m', hm, σ3, H3, I3, w3⟩
    | brk => exact q3
    | ret v => exact q3
  | false =>
    rw [if_neg Bool.false_ne_true]
    exact wpAny_execs_nil ⟨σ1, H2, I2, q2⟩
end

/-! ### what a loop or a comprehension walks -/
/-- at turn i: it yields x (the heap may grow), or it stops -/
structure It where
  go : Nat → Hp → Prop
  yld : Nat → Hp → V → Hp → Prop
  stop : Nat → Hp → Prop
/-- the iterator's own objects may turn: they are not the frame's, not pinned, younger than the entry (or a comprehension's own) -/
def FpOk (X : Cx) (pins : List (Addr × Obj)) (H : Hp) (b : Addr) : Prop :=
  H b = none ∧ b ≠ X.env.locals ∧ b ∉ X.fs ∧ (b ∈ X.ex ∨ X.s_0.heap.objs.size ≤ b) ∧ (∀ x c, X.env.cells.lookup x = some c → c ≠ b) ∧ ∀ p ∈ X.pn ++ pins, p.1 ≠ b
theorem Inv.fpOk {X : Cx} {pins : List (Addr × Obj)} {σ : St} {H H' : Hp} {s : Shared} {b : Addr} (I : Inv X pins σ H s) (hb : s.heap.objs.size ≤ b) (hn : H' b = none) : FpOk X pins H' b := by
  refine ⟨hn, Nat.ne_of_gt (Nat.lt_of_lt_of_le I.lt hb), I.nofs hb, .inr (Nat.le_trans I.sz hb), fun x c e z => ?_, fun p hp z => ?_⟩
  · obtain ⟨v, q⟩ := I.cell x c e
    exact absurd (Nat.lt_of_lt_of_le q.lt (by rw [z]; exact hb)) (Nat.lt_irrefl _)
  · exact absurd (Nat.lt_of_lt_of_le (Heap.lt_size (I.pin p hp).1) (by rw [z]; exact hb)) (Nat.lt_irrefl _)
structure Turn (P : Program) (w : World) (K : PySem.W.Frag) (tg : Expr) (J : It) (fp : List Addr) (it : Addr) (tn : Nat → Heap → Prop) : Prop where
  mem : it ∈ fp
  obj : ∀ i h, tn i h → ∀ b ∈ fp, ∃ o, h.get? b = some o ∧ ∀ v, o.data ≠ .cell v
  keep : ∀ i h h', tn i h → (∀ b ∈ fp, ∀ o, h.get? b = some o → h'.get? b = some o) → tn i h'
  item : ∀ (X : Cx), X.prog = P → X.w = w → X.K = K → X.calm = true → ∀ (i : Nat) (pins : List (Addr × Obj)) (s : Shared) (σ : St) (H : Hp) (E : Value → Shared → Prop), Inv X pins σ H s → (∀ b ∈ fp, FpOk X pins H b) → tn i s.heap → J.go i H →
    wpAny (model P w) X.A (pyNext (.ref it)) (fun r s1 => ∃ u, r = some u ∧
      wpAny (model P w) X.A (letOwnedTupleGo tg (.ref it) u) (fun _ s2 => ∃ x H', Inv X pins σ H' s2 ∧ RelV x u ∧ J.yld i H x H' ∧ tn (i + 1) s2.heap ∧ ∀ b ∈ fp, H' b = none) E s1) E s
  done : ∀ (X : Cx), X.prog = P → X.w = w → X.K = K → X.calm = true → ∀ (i : Nat) (pins : List (Addr × Obj)) (s : Shared) (σ : St) (H : Hp) (E : Value → Shared → Prop), Inv X pins σ H s → (∀ b ∈ fp, FpOk X pins H b) → tn i s.heap → J.stop i H →
    wpAny (model P w) X.A (pyNext (.ref it)) (fun r s1 => r = none ∧ Inv X pins σ H s1) E s
  self : ∀ (A : Around) (i : Nat) (s : Shared) (Q : Value → Shared → Prop) (E : Value → Shared → Prop), tn i s.heap → Q (.ref it) s → wpAny (model P w) A (pyIter (.ref it)) Q E s
abbrev TI := St → Hp → (It → Hp → Prop) → Prop
/-- an iterator has come -/
def PIE (X : Cx) (pins : List (Addr × Obj)) (σ : St) (tg : Expr) (R : It → Hp → Prop) (itv : Value) (s2 : Shared) : Prop :=
  ∃ (it : Addr) (fp : List Addr) (tn : Nat → Heap → Prop) (J : It) (H' : Hp), itv = .ref it ∧ Inv X pins σ H' s2 ∧ Turn X.prog X.w X.K tg J fp it tn ∧ tn 0 s2.heap ∧ (∀ b ∈ fp, FpOk X pins H' b) ∧ R J H'
def PI (X : Cx) (tg iter : Expr) (wi : TI) : Prop :=
  ∀ (pins : List (Addr × Obj)) (s : Shared) (σ : St) (H : Hp) (R : It → Hp → Prop), Inv X pins σ H s → wi σ H R →
    wpAny (model X.prog X.w) X.A (eval iter X.env) (fun v s1 => wpAny (model X.prog X.w) X.A (pyIter v) (PIE X pins σ tg R) X.xe s1) X.xe s

/-- the step ahead of the store is nothing for an iterator that keeps no tuple -/
theorem go_of {M : Model} {A : Around} {E : Value → Shared → Prop} {s : Shared} {tg : Expr} {it : Addr} {u : Value} {o : Obj} {n : String} {vs : Array Value} {Q : Unit → Shared → Prop} (ho : s.heap.get? it = some o) (hc : o.cls = .type n) (hd : o.data = .fields vs)
    (hn : ["enumerate", "zip", "dict_itemiterator", "dict_reverseitemiterator", "odict_iterator", "itertools.zip_longest", "itertools.pairwise"].contains n = false) (hQ : Q () s) : wpAny M A (letOwnedTupleGo tg (.ref it) u) Q E s := by
  unfold letOwnedTupleGo
  cases tg <;> first
    | exact wpAny_pure hQ
    | (cases u <;> first
        | exact wpAny_pure hQ
        | (refine wpAny_bind (wpAny_load ho ?_)
           rw [hc, hd]
           show wpAny M A (if (["enumerate", "zip", "dict_itemiterator", "dict_reverseitemiterator", "odict_iterator", "itertools.zip_longest", "itertools.pairwise"].contains n && vs[0]? == some (rawInt _)) = true then _ else _) Q E s
           rw [if_neg (by intro h; rw [hn, Bool.false_and] at h; cases h)]
           exact wpAny_pure hQ))

/-- the list at a, as it stands at each turn (a loop may append to it) -/
def Itl (K : PySem.W.Frag) (a : Addr) : It :=
  ⟨fun i H => ∃ xs x, SqL K H a xs ∧ xs[i]? = some x, fun i H x H' => H' = H ∧ ∀ xs, SqL K H a xs → xs[i]? = some x, fun i H => ∃ xs, SqL K H a xs ∧ xs.length ≤ i⟩
def Itt (K : PySem.W.Frag) (a : Addr) : It :=
  ⟨fun i H => ∃ xs x, SqT K H a xs ∧ xs[i]? = some x, fun i H x H' => H' = H ∧ ∀ xs, SqT K H a xs → xs[i]? = some x, fun i H => ∃ xs, SqT K H a xs ∧ xs.length ≤ i⟩
/-- lo, lo + 1, .. (n of them) -/
def Itr (lo : Int) (n : Nat) : It := ⟨fun i _ => i < n, fun i H x H' => H' = H ∧ x = .int (lo + i), fun i _ => n ≤ i⟩
theorem turn_list {P : Program} {w : World} {K : PySem.W.Frag} {tg : Expr} (a it : Addr) : Turn P w K tg (Itl K a) [it] it (fun i h => h.IsListIter it a i) where
  mem := by simp
  obj := fun i h st b hb => by
    have e : b = it := by simpa using hb
    subst e
    obtain ⟨o, e, c, d⟩ := st
    exact ⟨o, e, fun v z => by rw [d] at z; cases z⟩
  keep := fun i h h' st k => st.at fun o e => k it (by simp) o e
  item := by
    intro X hP hw hK hc i pins s σ H E I hf st hg
    subst hP hw hK
    obtain ⟨xs, x, hq, hx⟩ := hg
    obtain ⟨its, rv, p, hz⟩ := I.list hq
    obtain ⟨u, hu, ru⟩ := rv.get hx
    obtain ⟨f0, f1, f2, f3, f4, f5⟩ := hf it (by simp)
    refine wpAny_pyNext_list_item st p.isList (x := u) (by simpa using hu) fun h' st' sb => ?_
    have I1 : Inv X pins σ H { s with heap := h' } := I.turned (t' := s.toks) (fun b o hb e => (sb.2 b hb).trans e) f0 f1 f3 f4 f5
    obtain ⟨o, e, c, d⟩ := id st'
    exact ⟨u, rfl, go_of (s := { s with heap := h' }) e c d (by decide) ⟨x, H, I1, ru, ⟨rfl, fun ys hy => by rw [I.list_inj hy hq]; exact hx⟩, st', fun b hb => (hf b hb).1⟩⟩
  done := by
    intro X hP hw hK hc i pins s σ H E I hf st hg
    subst hP hw hK
    obtain ⟨xs, hq, hx⟩ := hg
    obtain ⟨its, rv, p, hz⟩ := I.list hq
    obtain ⟨f0, f1, f2, f3, f4, f5⟩ := hf it (by simp)
    have hl := rv.length
    exact wpAny_pyNext_list_end (I.ok.hd hc) st p.isList (by simp; omega) fun h' eb => ⟨rfl, I.turned (t' := s.toks) (fun b o hb e => eb b o hb e) f0 f1 f3 f4 f5⟩
  self := fun _ _ _ _ _ st h => wpAny_pyIter_listiter st h
theorem turn_tuple {P : Program} {w : World} {K : PySem.W.Frag} {tg : Expr} (a it : Addr) : Turn P w K tg (Itt K a) [it] it (fun i h => h.IsTupleIter it a i) where
  mem := by simp
  obj := fun i h st b hb => by
    have e : b = it := by simpa using hb
    subst e
    obtain ⟨o, e, c, d⟩ := st
    exact ⟨o, e, fun v z => by rw [d] at z; cases z⟩
  keep := fun i h h' st k => st.at fun o e => k it (by simp) o e
  item := by
    intro X hP hw hK hc i pins s σ H E I hf st hg
    subst hP hw hK
    obtain ⟨xs, x, hq, hx⟩ := hg
    obtain ⟨its, rv, p, hz⟩ := I.tuple hq
    obtain ⟨u, hu, ru⟩ := rv.get hx
    obtain ⟨f0, f1, f2, f3, f4, f5⟩ := hf it (by simp)
    refine wpAny_pyNext_tuple_item st (show s.heap.IsTuple a its.toArray from p) (x := u) (by simpa using hu) fun h' st' sb => ?_
    have I1 : Inv X pins σ H { s with heap := h' } := I.turned (t' := s.toks) (fun b o hb e => (sb.2 b hb).trans e) f0 f1 f3 f4 f5
    obtain ⟨o, e, c, d⟩ := id st'
    exact ⟨u, rfl, go_of (s := { s with heap := h' }) e c d (by decide) ⟨x, H, I1, ru, ⟨rfl, fun ys hy => by rw [I.tuple_inj hy hq]; exact hx⟩, st', fun b hb => (hf b hb).1⟩⟩
  done := by
    intro X hP hw hK hc i pins s σ H E I hf st hg
    subst hP hw hK
    obtain ⟨xs, hq, hx⟩ := hg
    obtain ⟨its, rv, p, hz⟩ := I.tuple hq
    obtain ⟨f0, f1, f2, f3, f4, f5⟩ := hf it (by simp)
    have hl := rv.length
    exact wpAny_pyNext_tuple_end (I.ok.hd hc) st (show s.heap.IsTuple a its.toArray from p) (by simp; omega) fun h' eb => ⟨rfl, I.turned (t' := s.toks) (fun b o hb e => eb b o hb e) f0 f1 f3 f4 f5⟩
  self := fun _ _ _ _ _ st h => wpAny_pyIter_tupleiter st h
theorem turn_range {P : Program} {w : World} {K : PySem.W.Frag} {tg : Expr} (it : Addr) (lo : Int) (n : Nat) : Turn P w K tg (Itr lo n) [it] it (fun i h => IsRangeIter h it (lo + (i : Nat) * 1) ((n : Int) - (i : Nat)) 1) where
  mem := by simp
  obj := fun i h st b hb => by
    have e : b = it := by simpa using hb
    subst e
    exact ⟨_, st, fun v z => by
      have z' : Data.fields _ = Data.cell v := z
      cases z'⟩
  keep := fun i h h' st k => k it (by simp) _ st
  item := by
    intro X hP hw hK hc i pins s σ H E I hf st hg
    subst hP hw hK
    obtain ⟨f0, f1, f2, f3, f4, f5⟩ := hf it (by simp)
    have W := Walks.range (prog := X.prog) (w := X.w) (I.ok.hd hc) it lo 1 n
    refine W.item i s _ _ hg st fun v h' tk hv st' kk => ?_
    obtain ⟨t, rfl⟩ := hv
    have I1 : Inv X pins σ H { s with heap := h', toks := tk } := I.turned (fun b o hb e => kk b o (by simpa using hb) e) f0 f1 f3 f4 f5
    refine ⟨_, rfl, go_of (s := { s with heap := h', toks := tk }) (n := "range_iterator") st' rfl rfl (by decide) ⟨.int (lo + i), H, I1, ⟨t, ?_⟩, ⟨rfl, rfl⟩, st', fun b hb => (hf b hb).1⟩⟩
    rw [Int.mul_one]
  done := by
    intro X hP hw hK hc i pins s σ H E I hf st hg
    subst hP hw hK
    obtain ⟨f0, f1, f2, f3, f4, f5⟩ := hf it (by simp)
    exact wpAny_pyNext_range_end (I.ok.hd hc) st (by have : n ≤ i := hg; omega) fun h' eb => ⟨rfl, I.turned (t' := s.toks) (fun b o hb e => eb b o hb e) f0 f1 f3 f4 f5⟩
  self := fun _ _ _ _ _ st h => wpAny_pyIter_rangeiter st h
end L2

namespace L2
open PySem PySem.Spec PyProof.Rows
section
variable {X : Cx} {tg : Expr}
def iList (K : PySem.W.Frag) (tl : TE) : TI := fun σ H R => tl σ H fun x H1 => ∃ a, x = .ref a ∧ (∃ xs, SqL K H1 a xs) ∧ R (Itl K a) H1
def iTup (K : PySem.W.Frag) (tl : TE) : TI := fun σ H R => tl σ H fun x H1 => ∃ a, x = .ref a ∧ (∃ xs, SqT K H1 a xs) ∧ R (Itt K a) H1
theorem pi_list {l : Expr} {tl : TE} (hl : PE X l tl) : PI X tg l (iList X.K tl) := by
  intro pins s σ H R I h
  refine thn (hl pins s σ H _ I h) fun v s1 ⟨x, H1, I1, r1, q1⟩ => ?_
  obtain ⟨a, e, ⟨xs, hq⟩, q⟩ := q1
  subst e
  cases r1
  obtain ⟨its, rv, p, hz⟩ := I1.list hq
  refine wpAny_pyIter_list p.isList ?_
  refine ⟨s1.heap.objs.size, [s1.heap.objs.size], _, _, H1, rfl, I1.kept (t' := s1.toks) fun b o e => Heap.get?_push_of_some _ e, turn_list a _, ⟨_, Heap.get?_push_size _ rfl, rfl, rfl⟩, fun b hb => ?_, q⟩
  have e : b = s1.heap.objs.size := by simpa using hb
  subst e
  exact I1.fpOk (Nat.le_refl _) (I1.hok.fresh (Nat.le_refl _))
theorem pi_tup {l : Expr} {tl : TE} (hl : PE X l tl) : PI X tg l (iTup X.K tl) := by
  intro pins s σ H R I h
  refine thn (hl pins s σ H _ I h) fun v s1 ⟨x, H1, I1, r1, q1⟩ => ?_
  obtain ⟨a, e, ⟨xs, hq⟩, q⟩ := q1
  subst e
  cases r1
  obtain ⟨its, rv, p, hz⟩ := I1.tuple hq
  refine wpAny_pyIter_tuple (show s1.heap.IsTuple a its.toArray from p) ?_
  refine ⟨s1.heap.objs.size, [s1.heap.objs.size], _, _, H1, rfl, I1.kept (t' := s1.toks) fun b o e => Heap.get?_push_of_some _ e, turn_tuple a _, ⟨_, Heap.get?_push_size _ rfl, rfl, rfl⟩, fun b hb => ?_, q⟩
  have e : b = s1.heap.objs.size := by simpa using hb
  subst e
  exact I1.fpOk (Nat.le_refl _) (I1.hok.fresh (Nat.le_refl _))
/-- a range object just made, walked -/
theorem range_it {pins : List (Addr × Obj)} {σ : St} {H : Hp} {s : Shared} {R : It → Hp → Prop} {E : Value → Shared → Prop} {lo hi : Int} {t u v : Tok} {tk : Nat} (I : Inv X pins σ H s) (h1 : -(2 ^ 62) ≤ lo) (h2 : lo < 2 ^ 62) (h3 : -(2 ^ 62) ≤ hi) (h4 : hi < 2 ^ 62)
    (q : R (Itr lo (hi - lo).toNat) H) : wpAny (model X.prog X.w) X.A (pyIter (.ref s.heap.objs.size)) (PIE X pins σ tg R) E { s with heap := s.heap.push { cls := .type "range", data := .fields #[.int lo t, .int hi u, .int 1 v] }, toks := tk } := by
  refine wpAny_pyIter_range (IsRange.new ..) (small_one h1 h2 h3 h4) ?_
  have I1 : Inv X pins σ H { s with heap := s.heap.push { cls := .type "range", data := .fields #[.int lo t, .int hi u, .int 1 v] }, toks := tk } := I.kept fun b o e => Heap.get?_push_of_some _ e
  refine ⟨(s.heap.push { cls := .type "range", data := .fields #[.int lo t, .int hi u, .int 1 v] }).objs.size, [(s.heap.push { cls := .type "range", data := .fields #[.int lo t, .int hi u, .int 1 v] }).objs.size], _, _, H, rfl,
    I1.kept (t' := tk) fun b o e => Heap.get?_push_of_some _ e, turn_range _ lo (hi - lo).toNat, ?_, fun b hb => ?_, q⟩
  · have e1 : lo + ((0 : Nat) : Int) * 1 = lo := by simp
    have e2 : (((hi - lo).toNat : Nat) : Int) - ((0 : Nat) : Int) = Builtin.Range.rangeSize lo hi 1 := by rw [rangeSize_one]; split <;> omega
    show IsRangeIter _ _ (lo + ((0 : Nat) : Int) * 1) ((((hi - lo).toNat : Nat) : Int) - ((0 : Nat) : Int)) 1
    rw [e1, e2]
    exact Heap.get?_push_size _ rfl
  · have e : b = (s.heap.push { cls := .type "range", data := .fields #[.int lo t, .int hi u, .int 1 v] }).objs.size := by simpa using hb
    subst e
    exact I1.fpOk (Nat.le_refl _) (I1.hok.fresh (Nat.le_refl _))
def iRng1 (ta : TA) : TI := fun σ H R => ta σ H fun vs H1 => ∃ j : Int, vs = [.int j] ∧ -(2 ^ 62) ≤ j ∧ j < 2 ^ 62 ∧ R (Itr 0 j.toNat) H1
def iRng2 (ta : TA) : TI := fun σ H R => ta σ H fun vs H1 => ∃ i j : Int, vs = [.int i, .int j] ∧ (-(2 ^ 62) ≤ i ∧ i < 2 ^ 62 ∧ -(2 ^ 62) ≤ j ∧ j < 2 ^ 62) ∧ R (Itr i (j - i).toNat) H1
theorem pi_range1 {a : Expr} {ta : TA} {p pos : Pos} (hg : Gl X "range") (hm : X.mg "range" = none) (ha : PA X [a] ta) (hs : starEach [a] X.env = [(false, eval a X.env)] := by rfl) : PI X tg (.Call (.Name "range" p) [a] [] pos) (iRng1 ta) := by
  intro pins s σ H R I h
  refine Call_ (ld_blt I hg hm boot_range (PyProof.Rows.callWith_type1 (thn (ha pos pins s σ H _ I h) fun us s1 ⟨vs, H1, I1, r1, q1⟩ => ?_) hs rfl))
  obtain ⟨j, e, q1, q2, q⟩ := q1
  subst e
  cases r1 with
  | cons r rr =>
    cases rr
    obtain ⟨t, rfl⟩ := r
    exact call_range_1 (range_it I1 (by omega) (by omega) q1 q2 (by simpa using q))
theorem pi_range2 {a b : Expr} {ta : TA} {p pos : Pos} (hg : Gl X "range") (hm : X.mg "range" = none) (ha : PA X [a, b] ta) (hs : starEach [a, b] X.env = [(false, eval a X.env), (false, eval b X.env)] := by rfl) (hs2 : starEach [b] X.env = [(false, eval b X.env)] := by rfl) :
    PI X tg (.Call (.Name "range" p) [a, b] [] pos) (iRng2 ta) := by
  intro pins s σ H R I h
  refine Call_ (ld_blt I hg hm boot_range (PyProof.Rows.callWith_type1 (thn (ha pos pins s σ H _ I h) fun us s1 ⟨vs, H1, I1, r1, q1⟩ => ?_) (by rw [hs, hs2]) (by rw [hs2]; rfl)))
  obtain ⟨i, j, e, ⟨q1, q2, q3, q4⟩, q⟩ := q1
  subst e
  cases r1 with
  | cons r rr =>
    cases rr with
    | cons r' rr =>
      cases rr
      obtain ⟨t, rfl⟩ := r
      obtain ⟨t', rfl⟩ := r'
      exact call_range_2 (range_it I1 q1 q2 q3 q4 q)

/-! ### for -/
/-- W: the invariant by the turn and a measure; N: what the body is to reach -/
def tFor (wi : TI) (g : TG) (tb : TS) : TS := fun D σ H => wi σ H fun J H1 => ∃ W : Nat → Nat → St → Hp → Prop, (∃ m, W 0 m σ H1) ∧ ∀ i m σ H, W i m σ H →
  (J.stop i H ∧ D.nx σ H) ∨ (J.go i H ∧ ∃ N : St → Hp → Prop, (∀ σ' H', N σ' H' → ∃ m', m' < m ∧ W (i + 1) m' σ' H') ∧ ∀ x H', J.yld i H x H' → g x σ H' fun σ2 H2 => tb { D with nx := N, ct := N, bk := D.nx } σ2 H2)
/-- the records at fp as they stand -/
def pinsAt (fp : List Addr) (h : Heap) : List (Addr × Obj) := fp.filterMap fun b => (h.get? b).map fun o => (b, o)
theorem mem_pinsAt {fp : List Addr} {h : Heap} {b : Addr} {o : Obj} (hb : b ∈ fp) (e : h.get? b = some o) : (b, o) ∈ pinsAt fp h := List.mem_filterMap.mpr ⟨b, hb, by rw [e]; rfl⟩
theorem of_pinsAt {fp : List Addr} {h : Heap} {p : Addr × Obj} (hp : p ∈ pinsAt fp h) : p.1 ∈ fp ∧ h.get? p.1 = some p.2 := by
  obtain ⟨b, hb, e⟩ := List.mem_filterMap.mp hp
  cases q : h.get? b with
  | none => rw [q] at e; cases e
  | some o =>
    rw [q] at e
    have e' : (b, o) = p := Option.some.inj e
    subst e'
    exact ⟨hb, q⟩
theorem Inv.pinned {pins : List (Addr × Obj)} {σ : St} {H : Hp} {s : Shared} {fp : List Addr} (I : Inv X pins σ H s) (hf : ∀ b ∈ fp, FpOk X pins H b) (ho : ∀ b ∈ fp, ∃ o, s.heap.get? b = some o ∧ ∀ v, o.data ≠ .cell v) : Inv X (pins ++ pinsAt fp s.heap) σ H s :=
  I.pins_of fun p hp => (List.mem_append.mp hp).elim (fun z => I.pin p (List.mem_append_right _ z)) fun z => by
    obtain ⟨hb, e⟩ := of_pinsAt z
    obtain ⟨f0, f1, f2, _⟩ := hf p.1 hb
    obtain ⟨o, e', d⟩ := ho p.1 hb
    rw [e] at e'; cases e'
    exact ⟨e, f0, f1, f2, d⟩
theorem Inv.unpinned {pins pl : List (Addr × Obj)} {σ : St} {H : Hp} {s : Shared} (I : Inv X (pins ++ pl) σ H s) : Inv X pins σ H s := I.pins_of fun p hp => I.pin p (List.mem_append_right _ (List.mem_append_left _ hp))
theorem ps_for {iter : Expr} {body : List Stmt} {wi : TI} {g : TG} {tb : TS} {pos : Pos} (hp : PassesOwn (model X.prog X.w) X.A X.env X.xe) (hc : X.calm = true) (hi : PI X tg iter wi) (hg : PG X tg g) (hb : PSs X body tb)
    (hs : ∀ x, foldedSetIterable iter X.env x = pure x := by intro _; rfl) : PS X (.For tg iter body [] pos) (tFor wi g tb) := by
  intro pins s σ H D I h
  refine wpAny_For (thn (hi pins s σ H _ I h) fun v s1 h1 => thn h1 fun itv s2 h2 => ?_) hs
  obtain ⟨it, fp, tn, J, H2, e, I2, T, st2, f2, W, ⟨m0, w0⟩, turn⟩ := h2
  subst e
  -- what stays true of the iterator's objects through the loop
  have stat : ∀ {H' : Hp}, (∀ b ∈ fp, H' b = none) → ∀ b ∈ fp, FpOk X pins H' b := fun hn b hb => ⟨hn b hb, (f2 b hb).2⟩
  refine codeAny_forLoop_any (fun n s' => ∃ i σ' H', Inv X pins σ' H' s' ∧ tn i s'.heap ∧ (∀ b ∈ fp, H' b = none) ∧ W i n σ' H') ?_ m0 ⟨0, σ, H2, I2, st2, fun b hb => (f2 b hb).1, w0⟩
  rintro n s3 ⟨i, σ3, H3, I3, st3, fr3, w3⟩
  rcases turn i n σ3 H3 w3 with ⟨stop, qn⟩ | ⟨go, N, hN, step⟩
  · refine wpAny_passesOwn hp (thn (T.done X rfl rfl rfl hc i pins s3 σ3 H3 X.xe I3 (stat fr3) st3 stop) fun r s4 ⟨hr, I4⟩ => ?_)
    subst hr
    exact wpAny_execs_nil ⟨σ3, H3, I4, qn⟩
  · refine wpAny_passesOwn hp (thn (T.item X rfl rfl rfl hc i pins s3 σ3 H3 X.xe I3 (stat fr3) st3 go) fun r s4 ⟨u, hr, h4⟩ => ?_)
    subst hr
    refine wpAny_passesOwn hp (thn h4 fun _ s5 ⟨x, H5, I5, r5, y5, st5, fr5⟩ => ?_)
    have I5' := I5.pinned (stat fr5) (T.obj _ _ st5)
    refine wpAny_passesOwn hp (thn (hg _ s5 σ3 H5 x u _ I5' r5 (step x H5 y5)) fun _ s6 ⟨σ6, H6, I6, q6⟩ => ?_)
    refine wpAny_passesOwn hp (thn (hb _ s6 σ6 H6 _ I6 q6) fun f s7 q7 => ?_)
    have again : ∀ {σ7 : St} {H7 : Hp}, Inv X (pins ++ pinsAt fp s5.heap) σ7 H7 s7 → N σ7 H7 → ∃ m, m < n ∧ ∃ i σ' H', Inv X pins σ' H' s7 ∧ tn i s7.heap ∧ (∀ b ∈ fp, H' b = none) ∧ W i m σ' H' := fun {σ7 H7} I7 n7 => by
      obtain ⟨m', hm, w7⟩ := hN σ7 H7 n7
      refine ⟨m', hm, i + 1, σ7, H7, I7.unpinned, T.keep _ _ _ st5 fun b hb o e => (I7.pin (b, o) (List.mem_append_right _ (List.mem_append_right _ (mem_pinsAt hb e)))).1, fun b hb => ?_, w7⟩
      obtain ⟨o, e, d⟩ := T.obj _ _ st5 b hb
      exact (I7.pin (b, o) (List.mem_append_right _ (List.mem_append_right _ (mem_pinsAt hb e)))).2.1
    cases f with
    | next => obtain ⟨σ7, H7, I7, n7⟩ := q7; exact again I7 n7
    | cont => obtain ⟨σ7, H7, I7, n7⟩ := q7; exact again I7 n7
    | brk => obtain ⟨σ7, H7, I7, q7⟩ := q7; exact ⟨σ7, H7, I7.unpinned, q7⟩
    | ret v => obtain ⟨x7, σ7, H7, I7, r7, q7⟩ := q7; exact ⟨x7, σ7, H7, I7.unpinned, r7, q7⟩
end

/-! ### the forms one uses -/
/-- over a list that the body leaves as it is -/
theorem for_list {K : PySem.W.Frag} {a : Addr} {xs : List V} {g : TG} {tb : TS} {D : Ends} {σ : St} {H : Hp} (Pv : Nat → St → Hp → Prop) (h0 : Pv 0 σ H) (hl : ∀ i σ H, i ≤ xs.length → Pv i σ H → SqL K H a xs)
    (hs : ∀ i x σ H, xs[i]? = some x → Pv i σ H → g x σ H fun σ2 H2 => tb { D with nx := Pv (i + 1), ct := Pv (i + 1), bk := D.nx } σ2 H2) (hd : ∀ σ H, Pv xs.length σ H → D.nx σ H) :
    ∃ W : Nat → Nat → St → Hp → Prop, (∃ m, W 0 m σ H) ∧ ∀ i m σ H, W i m σ H →
      ((Itl K a).stop i H ∧ D.nx σ H) ∨ ((Itl K a).go i H ∧ ∃ N : St → Hp → Prop, (∀ σ' H', N σ' H' → ∃ m', m' < m ∧ W (i + 1) m' σ' H') ∧ ∀ x H', (Itl K a).yld i H x H' → g x σ H' fun σ2 H2 => tb { D with nx := N, ct := N, bk := D.nx } σ2 H2) := by
  refine ⟨fun i m σ H => m = xs.length - i ∧ i ≤ xs.length ∧ Pv i σ H, ⟨xs.length, by simp, Nat.zero_le _, h0⟩, ?_⟩
  rintro i m σ H ⟨rfl, hi, p⟩
  have q := hl i σ H hi p
  by_cases hlt : i < xs.length
  · refine .inr ⟨⟨xs, xs[i], q, by simp [hlt]⟩, Pv (i + 1), fun σ' H' p' => ⟨xs.length - (i + 1), by omega, rfl, hlt, p'⟩, fun x H' y => ?_⟩
    obtain ⟨e, y⟩ := y
    subst e
    exact hs i x σ _ (y xs q) p
  · have e : i = xs.length := by omega
    subst e
    exact .inl ⟨⟨xs, q, Nat.le_refl _⟩, hd σ H p⟩
theorem for_tup {K : PySem.W.Frag} {a : Addr} {xs : List V} {g : TG} {tb : TS} {D : Ends} {σ : St} {H : Hp} (Pv : Nat → St → Hp → Prop) (h0 : Pv 0 σ H) (hl : ∀ i σ H, i ≤ xs.length → Pv i σ H → SqT K H a xs)
    (hs : ∀ i x σ H, xs[i]? = some x → Pv i σ H → g x σ H fun σ2 H2 => tb { D with nx := Pv (i + 1), ct := Pv (i + 1), bk := D.nx } σ2 H2) (hd : ∀ σ H, Pv xs.length σ H → D.nx σ H) :
    ∃ W : Nat → Nat → St → Hp → Prop, (∃ m, W 0 m σ H) ∧ ∀ i m σ H, W i m σ H →
      ((Itt K a).stop i H ∧ D.nx σ H) ∨ ((Itt K a).go i H ∧ ∃ N : St → Hp → Prop, (∀ σ' H', N σ' H' → ∃ m', m' < m ∧ W (i + 1) m' σ' H') ∧ ∀ x H', (Itt K a).yld i H x H' → g x σ H' fun σ2 H2 => tb { D with nx := N, ct := N, bk := D.nx } σ2 H2) := by
  refine ⟨fun i m σ H => m = xs.length - i ∧ i ≤ xs.length ∧ Pv i σ H, ⟨xs.length, by simp, Nat.zero_le _, h0⟩, ?_⟩
  rintro i m σ H ⟨rfl, hi, p⟩
  have q := hl i σ H hi p
  by_cases hlt : i < xs.length
  · refine .inr ⟨⟨xs, xs[i], q, by simp [hlt]⟩, Pv (i + 1), fun σ' H' p' => ⟨xs.length - (i + 1), by omega, rfl, hlt, p'⟩, fun x H' y => ?_⟩
    obtain ⟨e, y⟩ := y
    subst e
    exact hs i x σ _ (y xs q) p
  · have e : i = xs.length := by omega
    subst e
    exact .inl ⟨⟨xs, q, Nat.le_refl _⟩, hd σ H p⟩
theorem for_range {lo : Int} {n : Nat} {g : TG} {tb : TS} {D : Ends} {σ : St} {H : Hp} (Pv : Nat → St → Hp → Prop) (h0 : Pv 0 σ H)
    (hs : ∀ i σ H, i < n → Pv i σ H → g (.int (lo + i)) σ H fun σ2 H2 => tb { D with nx := Pv (i + 1), ct := Pv (i + 1), bk := D.nx } σ2 H2) (hd : ∀ σ H, Pv n σ H → D.nx σ H) :
    ∃ W : Nat → Nat → St → Hp → Prop, (∃ m, W 0 m σ H) ∧ ∀ i m σ H, W i m σ H →
      ((Itr lo n).stop i H ∧ D.nx σ H) ∨ ((Itr lo n).go i H ∧ ∃ N : St → Hp → Prop, (∀ σ' H', N σ' H' → ∃ m', m' < m ∧ W (i + 1) m' σ' H') ∧ ∀ x H', (Itr lo n).yld i H x H' → g x σ H' fun σ2 H2 => tb { D with nx := N, ct := N, bk := D.nx } σ2 H2) := by
  refine ⟨fun i m σ H => m = n - i ∧ i ≤ n ∧ Pv i σ H, ⟨n, by simp, Nat.zero_le _, h0⟩, ?_⟩
  rintro i m σ H ⟨rfl, hi, p⟩
  by_cases hlt : i < n
  · refine .inr ⟨hlt, Pv (i + 1), fun σ' H' p' => ⟨n - (i + 1), by omega, rfl, hlt, p'⟩, fun x H' y => ?_⟩
    obtain ⟨e, y⟩ := y
    subst e y
    exact hs i σ _ hlt p
  · have e : i = n := by omega
    subst e
    exact .inl ⟨Nat.le_refl _, hd σ H p⟩
end L2

namespace L2
open PySem PySem.Spec PyProof.Rows

abbrev R2 := V → V → Hp → VK → Prop
/-- a two-place operation on values: f is binaryOp op, inplaceOp op or compareOp op -/
def OpR (X : Cx) (f : Value → Value → Sem Value) (r : R2) : Prop :=
  ∀ (pins : List (Addr × Obj)) (s : Shared) (σ : St) (H : Hp) (x y : V) (v u : Value) (Q : VK), Inv X pins σ H s → RelV x v → RelV y u → r x y H Q →
    wpAny (model X.prog X.w) X.A (f v u) (EP X pins σ Q) X.xe s
/-- a one-place operation -/
def UnR (X : Cx) (f : Value → Sem Value) (r : V → Hp → VK → Prop) : Prop :=
  ∀ (pins : List (Addr × Obj)) (s : Shared) (σ : St) (H : Hp) (x : V) (v : Value) (Q : VK), Inv X pins σ H s → RelV x v → r x H Q →
    wpAny (model X.prog X.w) X.A (f v) (EP X pins σ Q) X.xe s
/-- a call of a value that is known (a builtin, a type) with values -/
def CallR (X : Cx) (f : Value) (r : List V → Hp → VK → Prop) : Prop :=
  ∀ (pins : List (Addr × Obj)) (s : Shared) (σ : St) (H : Hp) (xs : List V) (us : List Value) (Q : VK), Inv X pins σ H s → Vals xs us → r xs H Q →
    wpAny (model X.prog X.w) X.A (call f us) (EP X pins σ Q) X.xe s
/-- a value's truth -/
def TruR (X : Cx) (r : V → Hp → (Bool → Hp → Prop) → Prop) : Prop :=
  ∀ (pins : List (Addr × Obj)) (s : Shared) (σ : St) (H : Hp) (x : V) (v : Value) (Q : Bool → Hp → Prop), Inv X pins σ H s → RelV x v → r x H Q →
    wpAny (model X.prog X.w) X.A (truthy v) (TP X pins σ Q) X.xe s

def tOp (r : R2) (ta tb : TE) : TE := fun σ H Q => ta σ H fun x H1 => tb σ H1 fun y H2 => r x y H2 Q
def tUn (r : V → Hp → VK → Prop) (ta : TE) : TE := fun σ H Q => ta σ H fun x H1 => r x H1 Q
/-- ints in, under C, and a value out -/
def rI (C : Int → Int → Prop) (g : Int → Int → V) : R2 := fun x y H Q => ∃ i j, x = .int i ∧ y = .int j ∧ C i j ∧ Q (g i j) H
def rI0 (g : Int → Int → V) : R2 := fun x y H Q => ∃ i j, x = .int i ∧ y = .int j ∧ Q (g i j) H
def rU (g : Int → V) : V → Hp → VK → Prop := fun x H Q => ∃ i, x = .int i ∧ Q (g i) H

section
variable {X : Cx} {a b c : Expr} {ta tb tc : TE} {pos : Pos}

theorem binT (ha : PE X a ta) (hb : PE X b tb) {pins : List (Addr × Obj)} {s : Shared} {σ : St} {H : Hp} {R : V → V → Hp → Prop} (I : Inv X pins σ H s)
    (h : ta σ H fun x H1 => tb σ H1 fun y H2 => R x y H2) {Q : Value → Shared → Prop} {f : Value → Value → Sem Value}
    (hf : ∀ v u s2 x y H2, Inv X pins σ H2 s2 → RelV x v → RelV y u → R x y H2 → wpAny (model X.prog X.w) X.A (f v u) Q X.xe s2) :
    wpAny (model X.prog X.w) X.A (eval a X.env) (fun v s₁ => wpAny (model X.prog X.w) X.A (eval b X.env) (fun u s₂ => wpAny (model X.prog X.w) X.A (f v u) Q X.xe s₂) X.xe s₁) X.xe s := by
  refine thn (ha pins s σ H _ I h) fun v s1 ⟨x, H1, I1, r1, q1⟩ => ?_
  refine thn (hb pins s1 σ H1 _ I1 q1) fun u s2 ⟨y, H2, I2, r2, q2⟩ => ?_
  exact hf v u s2 x y H2 I2 r1 r2 q2

theorem pe_op {op : Operator} {r : R2} (ho : OpR X (binaryOp op) r) (ha : PE X a ta) (hb : PE X b tb) : PE X (.BinOp a op b pos) (tOp r ta tb) := by
  intro pins s σ H Q I h
  exact wpAny_BinOp (binT ha hb I h fun v u s2 x y H2 I2 rx ry q => ho pins s2 σ H2 x y v u Q I2 rx ry q)
/-! ### ints -/
theorem opI {f : Value → Value → Sem Value} {C : Int → Int → Prop} {g : Int → Int → Int}
    (rule : ∀ (i j : Int) (t u : Tok) (s : Shared) (Q : Value → Shared → Prop) (E : Value → Shared → Prop), C i j → Q (.int (g i j) s.toks) { s with toks := s.toks + 1 } → wpAny (model X.prog X.w) X.A (f (.int i t) (.int j u)) Q E s) :
    OpR X f (rI C fun i j => .int (g i j)) := by
  intro pins s σ H x y v u Q I rx ry h
  obtain ⟨i, j, rfl, rfl, hc, q⟩ := h
  obtain ⟨t, rfl⟩ := rx
  obtain ⟨t', rfl⟩ := ry
  exact rule i j t t' s _ _ hc ⟨.int (g i j), H, I.tok _, ⟨_, rfl⟩, q⟩
theorem opI0 {f : Value → Value → Sem Value} {g : Int → Int → Int}
    (rule : ∀ (i j : Int) (t u : Tok) (s : Shared) (Q : Value → Shared → Prop) (E : Value → Shared → Prop), Q (.int (g i j) s.toks) { s with toks := s.toks + 1 } → wpAny (model X.prog X.w) X.A (f (.int i t) (.int j u)) Q E s) :
    OpR X f (rI0 fun i j => .int (g i j)) := by
  intro pins s σ H x y v u Q I rx ry h
  obtain ⟨i, j, rfl, rfl, q⟩ := h
  obtain ⟨t, rfl⟩ := rx
  obtain ⟨t', rfl⟩ := ry
  exact rule i j t t' s _ _ ⟨.int (g i j), H, I.tok _, ⟨_, rfl⟩, q⟩
theorem opB0 {f : Value → Value → Sem Value} {g : Int → Int → Bool}
    (rule : ∀ (i j : Int) (t u : Tok) (s : Shared) (Q : Value → Shared → Prop) (E : Value → Shared → Prop), Q (.bool (g i j)) s → wpAny (model X.prog X.w) X.A (f (.int i t) (.int j u)) Q E s) :
    OpR X f (rI0 fun i j => .bl (g i j)) := by
  intro pins s σ H x y v u Q I rx ry h
  obtain ⟨i, j, rfl, rfl, q⟩ := h
  obtain ⟨t, rfl⟩ := rx
  obtain ⟨t', rfl⟩ := ry
  exact rule i j t t' s _ _ ⟨.bl (g i j), H, I, rfl, q⟩

def CDiv (i j : Int) : Prop := 0 < j ∧ j < 1073741824
def CDivN (i j : Int) : Prop := j ≠ 0 ∧ j.natAbs < 1073741824
def CPow (i j : Int) : Prop := 0 ≤ j ∧ j ≤ 1000000 ∧ i.natAbs < 2 ^ 64
def CMul (i j : Int) : Prop := (-(2 ^ 64) < i ∧ i < 2 ^ 64) ∨ (-(2 ^ 64) < j ∧ j < 2 ^ 64)
theorem CMul.ok {i j : Int} (h : CMul i j) : IntMulOk i j := by
  rcases h with ⟨h1, h2⟩ | ⟨h1, h2⟩
  · exact .of_left (intBits_le_64 h1 h2)
  · exact .of_right (intBits_le_64 h1 h2)
theorem op_add : OpR X (binaryOp .Add) (rI0 fun i j => .int (i + j)) := opI0 fun _ _ _ _ _ _ _ q => add_int q
theorem op_sub : OpR X (binaryOp .Sub) (rI0 fun i j => .int (i - j)) := opI0 fun _ _ _ _ _ _ _ q => sub_int q
theorem op_mul : OpR X (binaryOp .Mult) (rI CMul fun i j => .int (i * j)) := opI fun _ _ _ _ _ _ _ hc q => mul_int q hc.ok
/-- // by a positive divisor -/
theorem op_fdiv : OpR X (binaryOp .FloorDiv) (rI CDiv fun i j => .int (i / j)) := opI fun i j _ _ _ _ _ hc q => by
  have h1 : (0 : Int) < j := hc.1
  have h2 : j < 1073741824 := hc.2
  exact floordiv_int (by omega) (by rw [Int.fdiv_eq_ediv_of_nonneg i (by omega)]; exact q) (.inl (PyProof.noPylong_small (by omega)))
/-- % by a positive divisor of any size -/
theorem op_mod : OpR X (binaryOp .Mod) (rI (fun _ j => 0 < j) fun i j => .int (i % j)) := opI fun i j _ _ _ _ _ hc q => by
  have h1 : (0 : Int) < j := hc
  exact mod_int' (by omega) (by rw [Int.fmod_eq_emod_of_nonneg i (by omega)]; exact q)
theorem op_pow : OpR X (binaryOp .Pow) (rI CPow fun i j => .int (i ^ j.toNat)) := opI fun _ _ _ _ _ _ _ hc q => pow_int_small hc.1 hc.2.1 hc.2.2 q
/-! ### bools among ints: n += (a < b) -/
end

/-! ### comparisons -/
/-- the scalars that == tells apart as data does -/
def scal : V → V → Bool
  | .non, .non => true | .non, .int _ => true | .int _, .non => true | .non, .bl _ => true | .bl _, .non => true | .non, .str _ => true | .str _, .non => true
  | .int _, .int _ => true | .bl _, .bl _ => true | .str _, .str _ => true | .byt _, .byt _ => true
  | .int _, .str _ => true | .str _, .int _ => true | .bl _, .str _ => true | .str _, .bl _ => true
  | _, _ => false
def rEq : R2 := fun x y H Q => scal x y = true ∧ Q (.bl (decide (x = y))) H
def rNe : R2 := fun x y H Q => scal x y = true ∧ Q (.bl (!decide (x = y))) H

theorem dec_int {i j : Int} : decide (V.int i = V.int j) = (i == j) := by
  rw [Bool.eq_iff_iff]
  simp
theorem dec_bl {i j : Bool} : decide (V.bl i = V.bl j) = (i == j) := by
  rw [Bool.eq_iff_iff]
  simp
theorem dec_str {i j : Str} : decide (V.str i = V.str j) = (i == j) := by
  rw [Bool.eq_iff_iff]
  simp
theorem dec_byt {i j : Array UInt8} : decide (V.byt i = V.byt j) = (i.toList == j.toList) := by
  rw [Bool.eq_iff_iff]
  cases i
  cases j
  simp

section
variable {X : Cx} {a b c : Expr} {ta tb tc : TE} {pos : Pos}
theorem fin_bl {pins : List (Addr × Obj)} {σ : St} {H : Hp} {s : Shared} {Q : VK} {k k' : Bool} (I : Inv X pins σ H s) (q : Q (.bl k) H) (e : k = k') : EP X pins σ Q (.bool k') s := by
  subst e
  exact ⟨.bl k, H, I, rfl, q⟩
theorem op_eq : OpR X (compareOp .Eq) rEq := by
  intro pins s σ H x y v u Q I rx ry h
  obtain ⟨hs, q⟩ := h
  cases x with
  | non =>
    cases rx
    cases y with
    | non => cases ry; exact PySem.EqNone.eq_none_none (fin_bl I q (by simp))
    | bl j => cases ry; exact PySem.EqNone.eq_none_bool (fin_bl I q (by simp))
    | int j => obtain ⟨t', rfl⟩ := ry; exact PySem.EqNone.eq_none_int (fin_bl I q (by simp))
    | str j => obtain ⟨t', rfl⟩ := ry; exact PySem.EqNone.eq_none_str (fin_bl I q (by simp))
    | _ => exact absurd (show false = true from hs) Bool.false_ne_true
  | bl i =>
    cases rx
    cases y with
    | non => cases ry; exact PySem.EqNone.eq_bool_none (fin_bl I q (by simp))
    | bl j => cases ry; exact eq_bool (fin_bl I q dec_bl)
    | str j => obtain ⟨t', rfl⟩ := ry; exact PySem.EqMixed.eq_bool_str (fin_bl I q (by simp))
    | _ => exact absurd (show false = true from hs) Bool.false_ne_true
  | int i =>
    obtain ⟨t, rfl⟩ := rx
    cases y with
    | non => cases ry; exact PySem.EqNone.eq_int_none (fin_bl I q (by simp))
    | int j => obtain ⟨t', rfl⟩ := ry; exact eq_int (fin_bl I q dec_int)
    | str j => obtain ⟨t', rfl⟩ := ry; exact PySem.EqMixed.eq_int_str (fin_bl I q (by simp))
    | _ => exact absurd (show false = true from hs) Bool.false_ne_true
  | str i =>
    obtain ⟨t, rfl⟩ := rx
    cases y with
    | non => cases ry; exact PySem.EqNone.eq_str_none (fin_bl I q (by simp))
    | bl j => cases ry; exact PySem.EqMixed.eq_str_bool (fin_bl I q (by simp))
    | int j => obtain ⟨t', rfl⟩ := ry; exact PySem.EqMixed.eq_str_int (fin_bl I q (by simp))
    | str j => obtain ⟨t', rfl⟩ := ry; exact eq_str (fin_bl I q dec_str)
    | _ => exact absurd (show false = true from hs) Bool.false_ne_true
  | byt i =>
    obtain ⟨t, rfl⟩ := rx
    cases y with
    | byt j => obtain ⟨t', rfl⟩ := ry; exact PySem.W.eq_bytes (fin_bl I q dec_byt)
    | _ => exact absurd (show false = true from hs) Bool.false_ne_true
  | _ => cases y <;> exact absurd (show false = true from hs) Bool.false_ne_true
theorem op_ne : OpR X (compareOp .NotEq) rNe := by
  intro pins s σ H x y v u Q I rx ry h
  obtain ⟨hs, q⟩ := h
  cases x with
  | non =>
    cases rx
    cases y with
    | non => cases ry; exact PySem.EqNone.ne_none_none (fin_bl I q (by simp))
    | bl j => cases ry; exact PySem.EqNone.ne_none_bool (fin_bl I q (by simp))
    | int j => obtain ⟨t', rfl⟩ := ry; exact PySem.EqNone.ne_none_int (fin_bl I q (by simp))
    | str j => obtain ⟨t', rfl⟩ := ry; exact PySem.EqNone.ne_none_str (fin_bl I q (by simp))
    | _ => exact absurd (show false = true from hs) Bool.false_ne_true
  | bl i =>
    cases rx
    cases y with
    | non => cases ry; exact PySem.EqNone.ne_bool_none (fin_bl I q (by simp))
    | bl j => cases ry; exact ne_bool (fin_bl I q (congrArg not dec_bl))
    | str j => obtain ⟨t', rfl⟩ := ry; exact PySem.EqMixed.ne_bool_str (fin_bl I q (by simp))
    | _ => exact absurd (show false = true from hs) Bool.false_ne_true
  | int i =>
    obtain ⟨t, rfl⟩ := rx
    cases y with
    | non => cases ry; exact PySem.EqNone.ne_int_none (fin_bl I q (by simp))
    | int j => obtain ⟨t', rfl⟩ := ry; exact ne_int (fin_bl I q (congrArg not dec_int))
    | str j => obtain ⟨t', rfl⟩ := ry; exact PySem.EqMixed.ne_int_str (fin_bl I q (by simp))
    | _ => exact absurd (show false = true from hs) Bool.false_ne_true
  | str i =>
    obtain ⟨t, rfl⟩ := rx
    cases y with
    | non => cases ry; exact PySem.EqNone.ne_str_none (fin_bl I q (by simp))
    | bl j => cases ry; exact PySem.EqMixed.ne_str_bool (fin_bl I q (by simp))
    | int j => obtain ⟨t', rfl⟩ := ry; exact PySem.EqMixed.ne_str_int (fin_bl I q (by simp))
    | str j => obtain ⟨t', rfl⟩ := ry; exact ne_str (fin_bl I q (congrArg not dec_str))
    | _ => exact absurd (show false = true from hs) Bool.false_ne_true
  | byt i =>
    obtain ⟨t, rfl⟩ := rx
    cases y with
    | byt j => obtain ⟨t', rfl⟩ := ry; exact PySem.W.ne_bytes (fin_bl I q (congrArg not dec_byt))
    | _ => exact absurd (show false = true from hs) Bool.false_ne_true
  | _ => cases y <;> exact absurd (show false = true from hs) Bool.false_ne_true

theorem op_lt : OpR X (compareOp .Lt) (rI0 fun i j => .bl (decide (i < j))) := opB0 fun _ _ _ _ _ _ _ q => lt_int q
theorem op_gt : OpR X (compareOp .Gt) (rI0 fun i j => .bl (decide (j < i))) := opB0 fun _ _ _ _ _ _ _ q => gt_int q
theorem op_ge : OpR X (compareOp .GtE) (rI0 fun i j => .bl (decide (j ≤ i))) := opB0 fun _ _ _ _ _ _ _ q => ge_int q
theorem op_lt_str : OpR X (compareOp .Lt) (fun x y H Q => ∃ i j, x = .str i ∧ y = .str j ∧ Q (.bl (decide (i.cps.toList < j.cps.toList))) H) := by
  intro pins s σ H x y v u Q I rx ry h
  obtain ⟨i, j, rfl, rfl, q⟩ := h
  obtain ⟨t, rfl⟩ := rx
  obtain ⟨t', rfl⟩ := ry
  exact lt_str (fin_bl I q rfl)
theorem op_notN : OpR X (compareOp .IsNot) (fun x y H Q => y = .non ∧ Q (.bl (!decide (x = .non))) H) := by
  intro pins s σ H x y v u Q I rx ry h
  obtain ⟨rfl, q⟩ := h
  cases ry
  refine isnot_none_gen (fin_bl I q ?_)
  cases x <;> first
    | (cases rx; rfl)
    | (obtain ⟨t, rfl⟩ := rx; rfl)

/-- is, is not of two objects that are tracked lists or instances -/
def isObj : HO → Bool
  | .lst _ => true
  | .ins _ _ _ => true
  | _ => false
/-- two rules for one operation: by cases -/
theorem OpR.or {f : Value → Value → Sem Value} {r r' : R2} (h : OpR X f r) (h' : OpR X f r') : OpR X f (fun x y H Q => r x y H Q ∨ r' x y H Q) := by
  intro pins s σ H x y v u Q I rx ry q
  rcases q with q | q
  · exact h pins s σ H x y v u Q I rx ry q
  · exact h' pins s σ H x y v u Q I rx ry q

theorem nomark (b : Expr) {op : CmpOp} (h : op ≠ .In := by decide) (h2 : op ≠ .NotIn := by decide) : behindInMarks op b = false := by
  have e1 : (op == CmpOp.In) = false := by cases op <;> first | rfl | exact absurd rfl h
  have e2 : (op == CmpOp.NotIn) = false := by cases op <;> first | rfl | exact absurd rfl h2
  cases b <;> simp [behindInMarks, e1, e2]
/-- a comparison as a value; hm: nomark b, or (for in, not in) by with_unfolding_all rfl -/
theorem pe_cmpR {op : CmpOp} {r : R2} (ho : OpR X (compareOp op) r) (ha : PE X a ta) (hb : PE X b tb) (hm : behindInMarks op b = false) : PE X (.Compare a [op] [b] pos) (tOp r ta tb) := by
  intro pins s σ H Q I h
  exact wpAny_Compare1 (binT ha hb I h fun v u s2 x y H2 I2 rx ry q => ho pins s2 σ H2 x y v u Q I2 rx ry q) hm
/-- a reading of a value as a test -/
def tTest (t : TE) : TT := fun σ H Q => t σ H fun x H' => ∃ k, x = .bl k ∧ Q k H'
theorem pt_cmpR {op : CmpOp} {r : R2} (ho : OpR X (compareOp op) r) (ha : PE X a ta) (hb : PE X b tb) (hm : behindInMarks op b = false) : PT X (.Compare a [op] [b] pos) (tTest (tOp r ta tb)) := by
  intro pins s σ H Q I h
  refine wpAny_isTrue_Compare1 (thn (ha pins s σ H _ I h) fun v s1 ⟨x, H1, I1, r1, q1⟩ => thn (hb pins s1 σ H1 _ I1 q1) fun u s2 ⟨y, H2, I2, r2, q2⟩ =>
    thn (ho pins s2 σ H2 x y v u _ I2 r1 r2 q2) fun c s3 ⟨z, H3, I3, r3, k, e, q3⟩ => ?_) hm
  subst e
  cases r3
  exact wpAny_truthy_bool ⟨H3, I3, q3⟩
/-- a op1 b op2 c -/
def tChain (r r' : R2) (ta tb tc : TE) : TE := fun σ H Q => ta σ H fun x H1 => tb σ H1 fun y H2 => r x y H2 fun z H3 => ∃ k, z = .bl k ∧
  (if k = true then tc σ H3 fun w' H4 => r' y w' H4 Q else Q (.bl false) H3)
/-! ### truth -/
/-- a value's truth by the abstract heap -/
def TruV (K : PySem.W.Frag) (x : V) (H : Hp) (k : Bool) : Prop :=
  match x with
  | .non => k = false
  | .bl b => k = b
  | .int i => k = (i != 0)
  | .str y => y.length ≤ sizeLine ∧ k = ((y.length : Int) != 0)
  | .byt y => y.size ≤ sizeLine ∧ k = ((y.size : Int) != 0)
  | .ref p => (∃ xs, SqL K H p xs ∧ k = !xs.isEmpty) ∨ (∃ xs, SqT K H p xs ∧ k = !xs.isEmpty) ∨ ∃ kvs, H p = some (.dK kvs) ∧ k = !kvs.isEmpty
  | _ => False
theorem isEmpty_kv {κ : Type} {kvs : List (κ × V)} {vs : List (κ × Value)} (r : KV kvs vs) : (!vs.isEmpty) = !kvs.isEmpty := by
  cases r <;> rfl
theorem isEmpty_of {xs : List V} {its : List Value} (r : Vals xs its) : (!its.toArray.isEmpty) = !xs.isEmpty := by
  cases r <;> simp
theorem line63 : (sizeLine : Nat) < 2 ^ 63 := by rw [sizeLine_eq]; decide
theorem tru_ok : TruR X (fun x H Q => ∃ k, TruV X.K x H k ∧ Q k H) := by
  intro pins s σ H x v Q I rx h
  obtain ⟨k, e, q⟩ := h
  have hl := line63
  have hs : sizeLine = 16777216 := sizeLine_eq
  cases x with
  | non =>
    cases rx
    have e' : k = false := e
    subst e'
    exact truthy_none ⟨H, I, q⟩
  | bl b =>
    cases rx
    have e' : k = b := e
    subst e'
    exact wpAny_truthy_bool ⟨H, I, q⟩
  | int i =>
    obtain ⟨t, rfl⟩ := rx
    have e' : k = (i != 0) := e
    subst e'
    exact PySem.P.truthy_int ⟨H, I, q⟩
  | str y =>
    obtain ⟨t, rfl⟩ := rx
    obtain ⟨hy, e'⟩ : y.length ≤ sizeLine ∧ k = ((y.length : Int) != 0) := e
    subst e'
    exact PySem.P.truthy_str (by omega) ⟨H, I.tok _, q⟩
  | byt y =>
    obtain ⟨t, rfl⟩ := rx
    obtain ⟨hy, e'⟩ : y.size ≤ sizeLine ∧ k = ((y.size : Int) != 0) := e
    subst e'
    exact PySem.W.truthy_bytes (by omega) ⟨H, I.tok _, q⟩
  | ref p =>
    cases rx
    have e' : (∃ xs, SqL X.K H p xs ∧ k = !xs.isEmpty) ∨ (∃ xs, SqT X.K H p xs ∧ k = !xs.isEmpty) ∨ ∃ kvs, H p = some (.dK kvs) ∧ k = !kvs.isEmpty := e
    rcases e' with ⟨xs, hx, e'⟩ | ⟨xs, hx, e'⟩ | ⟨kvs, hx, e'⟩
    · subst e'
      obtain ⟨its, r, pl, hz⟩ := I.list hx
      have hlen := r.length
      exact wpAny_truthy_list pl.isList (by simp only [List.size_toArray]; omega) ⟨H, I.tok _, by rw [isEmpty_of r]; exact q⟩
    · subst e'
      obtain ⟨its, r, pl, hz⟩ := I.tuple hx
      have hlen := r.length
      exact truthy_tuple pl (by simp only [List.size_toArray]; omega) ⟨H, I.tok _, by rw [isEmpty_of r]; exact q⟩
    · subst e'
      obtain ⟨hz, hS, vs, r, m⟩ : kvs.length ≤ sizeLine ∧ (p == sysModules) = false ∧ ∃ vs, KV kvs vs ∧ s.heap.DictOf (mixKind X.prog X.w) p vs := I.hok p _ hx
      have hlen : kvs.length = vs.length := Paired.length r
      exact wpAny_truthy_dict hS m (by omega) ⟨H, I.tok _, by rw [isEmpty_kv r]; exact q⟩
  | _ => exact (show False from e).elim
/-- any expression whose test is its value's truth (a name, a call, a subscript, a field ..: he by fun _ => rfl) -/
theorem pt_truth (ha : PE X a ta) (he : ∀ whole, isTrue a X.env whole = (do let v ← whole; standAt a.pos; holding [v] (truthy v))) :
    PT X a (fun σ H Q => ta σ H fun x H' => ∃ k, TruV X.K x H' k ∧ Q k H') := by
  intro pins s σ H Q I h
  exact isTrue_plain (thn (ha pins s σ H _ I h) fun v s1 ⟨x, H1, I1, r1, q1⟩ => tru_ok pins s1 σ H1 x v Q I1 r1 q1) (he _)

/-! ### strs and bytes -/
theorem op_add_str : OpR X (binaryOp .Add) (fun x y H Q => ∃ i j, x = .str i ∧ y = .str j ∧ i.length + j.length ≤ sizeLine ∧ Q (.str (i ++ j)) H) := by
  intro pins s σ H x y v u Q I rx ry h
  obtain ⟨i, j, rfl, rfl, hz, q⟩ := h
  obtain ⟨t, rfl⟩ := rx
  obtain ⟨t', rfl⟩ := ry
  exact add_str (fun t' tk => ⟨.str (i ++ j), H, I.tok _, ⟨_, rfl⟩, q⟩) hz
def PlainIxT (b : Expr) : Prop := ∀ o i, subscripted b false o i = operate [o, i] (getItem o i)
/-! ### scalar builtins, by CallR -/
theorem vals1 {x : V} {us : List Value} (r : Vals [x] us) : ∃ u, us = [u] ∧ RelV x u := by
  cases r with
  | cons r1 r2 => cases r2; exact ⟨_, rfl, r1⟩
theorem vals2 {x y : V} {us : List Value} (r : Vals [x, y] us) : ∃ u w', us = [u, w'] ∧ RelV x u ∧ RelV y w' := by
  cases r with
  | cons r1 r2 =>
    cases r2 with
    | cons r3 r4 => cases r4; exact ⟨_, _, rfl, r1, r3⟩
theorem call_abs : CallR X (.builtin "abs") (fun xs H Q => ∃ i, xs = [.int i] ∧ Q (.int (if i < 0 then -i else i)) H) := by
  intro pins s σ H xs us Q I r h
  obtain ⟨i, rfl, q⟩ := h
  obtain ⟨u, rfl, t, rfl⟩ := vals1 r
  exact call_abs_int fun u tk => ⟨.int (if i < 0 then -i else i), H, I.tok _, ⟨_, rfl⟩, q⟩
theorem call_int1 : CallR X (.type "int") (fun xs H Q => (∃ i, xs = [.int i] ∧ Q (.int i) H) ∨ ∃ k, xs = [.bl k] ∧ Q (.int (if k then 1 else 0)) H) := by
  intro pins s σ H xs us Q I r h
  rcases h with ⟨i, rfl, q⟩ | ⟨k, rfl, q⟩
  · obtain ⟨u, rfl, t, rfl⟩ := vals1 r
    exact call_int_int ⟨.int i, H, I, ⟨_, rfl⟩, q⟩
  · obtain ⟨u, rfl, r1⟩ := vals1 r
    cases r1
    exact call_int_bool ⟨.int (if k then 1 else 0), H, I.tok _, ⟨_, rfl⟩, q⟩
/-- len of a str, a bytes, a list, a tuple -/
def LenV (K : PySem.W.Frag) (x : V) (H : Hp) (n : Nat) : Prop :=
  match x with
  | .str y => y.length ≤ sizeLine ∧ n = y.length
  | .byt y => y.size ≤ sizeLine ∧ n = y.size
  | .ref p => (∃ xs, SqL K H p xs ∧ n = xs.length) ∨ ∃ xs, SqT K H p xs ∧ n = xs.length
  | _ => False
end
end L2

namespace L2
open PySem PySem.Spec PyProof.Rows

/-! ### an instance, its attributes a map -/
structure ObjM (h : Heap) (x dx C : Addr) (mA : Str → Option Value) : Prop where
  obj : h.get? x = some (PySem.W.instObj C dx)
  ns : h.Ns1 dx mA
  ne : dx ≠ x

theorem lookIn_ns {h : Heap} {dx : Addr} {mA : Str → Option Value} (n : h.Ns1 dx mA) : ∃ od, h.get? dx = some od ∧ ∀ name, PySem.W.lookIn name od = some (mA name) := by
  obtain ⟨o, es, ep, ho, hd, hk, _, hm⟩ := n
  refine ⟨o, ho, fun name => ?_⟩
  have e := hm name
  unfold nsFind findBy at e
  rw [← Array.find?_toList] at e
  unfold PySem.W.lookIn
  rw [hd]
  dsimp only
  split
  · rename_i y q
    rw [q] at e
    exact congrArg some e
  · rename_i q
    rw [q] at e
    have a : es.toList.any (·.refKey) = false := by
      rw [List.any_eq_false]
      intro y hy
      obtain ⟨z, t, hkey⟩ := hk y (Array.mem_toList_iff.mp hy)
      simp [DictEntry.refKey, hkey]
    have a' : ¬ es.toList.any (·.refKey) = true := by rw [a]; exact Bool.false_ne_true
    rw [if_neg a']
    exact congrArg some e

theorem ObjM.look {h : Heap} {x dx C : Addr} {mA : Str → Option Value} (I : ObjM h x dx C mA) : ∃ od, PySem.W.InstAt h x (PySem.W.instObj C dx) C (some od) ∧ ∀ name, PySem.W.lookIn name od = some (mA name) :=
  let ⟨od, ho, hl⟩ := lookIn_ns I.ns
  ⟨od, ⟨I.obj, rfl, rfl, ho⟩, hl⟩

section
variable {prog : Program} {w : World} {A : Around} {E : Value → Shared → Prop} {s : Shared} {K : PySem.W.Frag} {x dx C f : Addr} {mA : Str → Option Value} {name : Str} {v : Value}

theorem get_map {expr : Bool} {Q : Value → Shared → Prop} (X : K.In s.heap) (I : ObjM s.heap x dx C mA) (hg : PySem.W.plainGet K C name = true) (hh : PySem.W.hasDictIn K C = true)
    (ha : PySem.W.findIn K (.ref C) name = some none) (hv : mA name = some v) (hv' : PySem.W.handedIn v = true) (h : Q v { s with toks := s.toks + 1 }) :
    wpAny (model prog w) A (getAttr (.ref x) name expr) Q E s := by
  obtain ⟨od, J, hl⟩ := I.look
  exact PySem.W.get_value X J (PySem.W.plainGet_of hg).1 (PySem.W.findObj_own hh ha rfl (by rw [hl, hv])) hv' h

theorem get_meth {pl : Sem Bool} {Q : Value × List Value → Shared → Prop} (X : K.In s.heap) (I : ObjM s.heap x dx C mA) (hg : PySem.W.plainGet K C name = true)
    (hf : PySem.W.findIn K (.ref C) name = some (some (.ref f))) (ht : PySem.W.isFn K (.ref f) = true) (hv : mA name = none) (h : Q (.ref f, [.ref x]) s) :
    wpAny (model prog w) A (getMethod (.ref x) name pl) Q E s := by
  obtain ⟨od, J, hl⟩ := I.look
  exact PySem.W.method_fn X J (PySem.W.plainGet_of hg).1 (PySem.W.plainGet_of hg).2 hf (beq_iff_eq.mp ht) (by show (PySem.W.lookIn name od).map (·.isSome) = some false; rw [hl, hv]; rfl) h

theorem set_map {ns : List Str} {Q : Unit → Shared → Prop} (X : K.In s.heap) (I : ObjM s.heap x dx C mA)
    (hs : PySem.W.findIn K (.ref C) "__setattr__" = some (some (.builtin "object.__setattr__"))) (hp : PySem.W.plainOver K C = true) (ht : PySem.W.takerIn K C name = some none) (hh : PySem.W.hasDictIn K C = true)
    (hw : PySem.Within mA ns) (hsz : ns.length ≤ sizeLine)
    (h : ∀ h', ObjM h' x dx C (fun y => if y = name then some v else mA y) → Heap.SameBut dx s.heap h' → Q () { s with heap := h', toks := s.toks + 2 }) :
    wpAny (model prog w) A (setAttr (.ref x) name v) Q E s := by
  obtain ⟨od, J, hl⟩ := I.look
  refine PySem.W.set_plain X J hs (PySem.W.osa_open (s := { s with toks := s.toks + 1 }) (r := none) X J hp ht fun b => ?_)
  obtain ⟨cd, hc, hd'⟩ := PySem.W.any_some hh
  have hx : s.heap.get? x = some ⟨.ref C, some dx, .plain, #[]⟩ := I.obj
  refine wpAny_bind (wpAny_pure (wpAny_bind (wpAny_bind (wpAny_loadPart hx (wpAny_bind (PySem.W.Looks.here (s := { s with toks := s.toks + 1 }) (PySem.W.looks_clsIn X hc) ?_))))))
  rw [hd']
  refine wpAny_pure (a := some dx) (wpAny_bind (wpAny_pure (wpAny_bind ?_)))
  refine wpAny_nsSet1 (s := { s with toks := s.toks + 1 }) I.ns fun h' hn2 hs2 => ?_
  obtain ⟨oD, esD, epD, hoD, hdD, hcD⟩ := hn2.count (PySem.Within.cons name v hw)
  refine wpAny_bind (wpAny_lookBehind hoD (by rw [hdD]; exact pastItsLine_dict (Nat.le_trans hcD (by rw [List.length_cons]; omega))) ?_)
  exact wpAny_pure (h _ ⟨(hs2.2 _ (Ne.symm I.ne)).trans I.obj, hn2, I.ne⟩ hs2)

/-- C(..): the dict at the heap's end, the instance behind it; then its __init__ -/
theorem make_map {R : Result → Shared → Prop} {vs : List Value} {kw : List (Str × Value)} (X : K.In s.heap) (hm : PySem.W.makesIn K C = true)
    (hi : PySem.W.findIn K (.ref C) "__init__" = some (some (.ref f))) (hf : PySem.W.typeIn K (.ref f) = some (.type "function"))
    (h : codeAny (model prog w) (A.under (.builtin "type.__call__" ⟨.ref C :: vs, kw⟩)) (.call (.ref f) ⟨.ref (s.heap.objs.size + 1) :: vs, kw⟩) (PySem.W.InitBack (s.heap.objs.size + 1) R)
      { s with heap := (s.heap.push PySem.W.emptyDict).push (PySem.W.instObj C s.heap.objs.size) }) :
    codeAny (model prog w) A (.call (.ref C) ⟨vs, kw⟩) R s := by
  obtain ⟨hh, g, d, t, os⟩ := s
  exact PySem.W.make_core (PySem.W.makes_of X hm) (PySem.W.looks_findIn X hi) (fun self => PySem.W.bind_fn X self hf) (.inl rfl) h
end

/-! ### the attributes as a list of pairs -/
def putF (f : Str) (v : V) : List (Str × V) → List (Str × V)
  | [] => [(f, v)]
  | (g, x) :: r => if g = f then (g, v) :: r else (g, x) :: putF f v r
theorem lookup_putF (f g : Str) (v : V) : ∀ fs : List (Str × V), (putF f v fs).lookup g = if g = f then some v else fs.lookup g
  | [] => by
    show List.lookup g [(f, v)] = _
    by_cases h : g = f
    · have hb : (g == f) = true := beq_iff_eq.mpr h
      simp only [List.lookup, hb, if_pos h]
    · have hb : (g == f) = false := beq_eq_false_iff_ne.mpr h
      simp only [List.lookup, hb, if_neg h]
  | (k, x) :: r => by
    have ih := lookup_putF f g v r
    rw [show putF f v ((k, x) :: r) = (if k = f then (k, v) :: r else (k, x) :: putF f v r) from rfl]
    by_cases hk : k = f
    · rw [if_pos hk]
      by_cases h : g = k
      · have hb : (g == k) = true := beq_iff_eq.mpr h
        simp only [List.lookup, hb, if_pos (h.trans hk)]
      · have hb : (g == k) = false := beq_eq_false_iff_ne.mpr h
        simp only [List.lookup, hb, if_neg (fun e : g = f => h (e.trans hk.symm))]
    · rw [if_neg hk]
      by_cases h : g = k
      · have hb : (g == k) = true := beq_iff_eq.mpr h
        simp only [List.lookup, hb, if_neg (fun e : g = f => hk (h.symm.trans e))]
      · have hb : (g == k) = false := beq_eq_false_iff_ne.mpr h
        simp only [List.lookup, hb]
        exact ih
theorem keys_putF (f : Str) (v : V) : ∀ fs : List (Str × V), f ∈ (putF f v fs).map (·.1) ∧ ∀ g, g ∈ fs.map (·.1) → g ∈ (putF f v fs).map (·.1)
  | [] => ⟨by simp [putF], fun g h => by simp at h⟩
  | (k, x) :: r => by
    obtain ⟨i1, i2⟩ := keys_putF f v r
    rw [show putF f v ((k, x) :: r) = (if k = f then (k, v) :: r else (k, x) :: putF f v r) from rfl]
    by_cases hk : k = f
    · rw [if_pos hk]
      subst hk
      exact ⟨by simp, fun g h => by simpa using h⟩
    · rw [if_neg hk]
      refine ⟨?_, fun g h => ?_⟩
      · rw [List.map_cons]
        exact List.mem_cons_of_mem _ i1
      · rw [List.map_cons] at h ⊢
        rcases List.mem_cons.mp h with e | e
        · exact List.mem_cons.mpr (.inl e)
        · exact List.mem_cons_of_mem _ (i2 g e)
theorem length_putF (f : Str) (v : V) : ∀ fs : List (Str × V), (putF f v fs).length ≤ fs.length + 1
  | [] => by simp [putF]
  | (k, x) :: r => by
    have ih := length_putF f v r
    rw [show putF f v ((k, x) :: r) = (if k = f then (k, v) :: r else (k, x) :: putF f v r) from rfl]
    by_cases hk : k = f
    · rw [if_pos hk, List.length_cons, List.length_cons]; omega
    · rw [if_neg hk, List.length_cons, List.length_cons]; omega

theorem RelO.some_of {v : V} {o : Option Value} (r : RelO (some v) o) : ∃ u, o = some u ∧ RelV v u := by
  cases o with
  | none => exact (show False from r).elim
  | some u => exact ⟨u, rfl, r⟩
theorem RelO.none_of {o : Option Value} (r : RelO none o) : o = none := by
  cases o with
  | none => rfl
  | some u => exact (show False from r).elim
theorem handed_of {v : V} {u : Value} (r : RelV v u) : PySem.W.handedIn u = true := by
  cases v with
  | non => cases (show u = Value.none from r); rfl
  | bl b => cases (show u = Value.bool b from r); rfl
  | int i => obtain ⟨t, e⟩ := (show ∃ t, u = Value.int i t from r); cases e; rfl
  | str x => obtain ⟨t, e⟩ := (show ∃ t, u = Value.str x t from r); cases e; rfl
  | byt b => obtain ⟨t, e⟩ := (show ∃ t, u = Value.bytes b t from r); cases e; rfl
  | flt b => obtain ⟨t, e⟩ := (show ∃ t, u = Value.float b t from r); cases e; rfl
  | ref a => cases (show u = Value.ref a from r); rfl
  | ty n => cases (show u = Value.type n from r); rfl

section
variable {P : Program} {w : World} {H H' : Hp} {h h' : Heap} {a C dx : Addr} {fs fs' : List (Str × V)}
theorem ins_get (hok : HOk P w H h) (e : H a = some (.ins C dx fs)) : ∃ mA, ObjM h a dx C mA ∧ (∀ f, RelO (fs.lookup f) (mA f)) ∧ PySem.Within mA (fs.map (·.1)) ∧ fs.length ≤ 1000 ∧ H dx = some (.own a) := by
  obtain ⟨d, z, ne, ob, mA, n, r, q⟩ := (show ObjOk P w H h a (.ins C dx fs) from hok a _ e)
  exact ⟨mA, ⟨ob, n, ne⟩, r, q, z, d⟩
end

/-! ### what of the text a class must have -/
structure Cls (K : PySem.W.Frag) (C : Addr) : Prop where
  pg : PySem.W.plainGet K C Str.empty = true
  hd : PySem.W.hasDictIn K C = true
  po : PySem.W.plainOver K C = true
  sa : PySem.W.findIn K (.ref C) "__setattr__" = some (some (.builtin "object.__setattr__"))
theorem Cls.get {K : PySem.W.Frag} {C : Addr} (c : Cls K C) (f : Str) : PySem.W.plainGet K C f = true := c.pg
/-- no class of it has the name -/
def NoAttr (K : PySem.W.Frag) (C : Addr) (f : Str) : Prop := PySem.W.findIn K (.ref C) f = some none
theorem NoAttr.taker {K : PySem.W.Frag} {C : Addr} {f : Str} (n : NoAttr K C f) : PySem.W.takerIn K C f = some none := by
  unfold PySem.W.takerIn
  rw [show PySem.W.findIn K (.ref C) f = some none from n]
  rfl
/-- a constant of the class -/
structure Con (K : PySem.W.Frag) (C : Addr) (f : Str) (v : V) (u : Value) : Prop where
  at_ : PySem.W.findIn K (.ref C) f = some (some u)
  rel : RelV v u
  get : PySem.W.specialIn K u "__get__" = some none
  cp : PySem.W.copiedNames.contains f = false
/-- a method: a plain def of the class or of one above it -/
structure Meth (K : PySem.W.Frag) (C : Addr) (m : Str) (f : Addr) : Prop where
  at_ : PySem.W.findIn K (.ref C) m = some (some (.ref f))
  fn : PySem.W.isFn K (.ref f) = true
  kp : PySem.W.keepIn K (.ref f) = true

section
variable {X : Cx} {pins : List (Addr × Obj)} {σ : St} {H : Hp} {s : Shared} {a C dx : Addr} {fs : List (Str × V)} {f : Str} {v : V} {A : Around} {E : Value → Shared → Prop}

theorem getattr_ok {b : Bool} {Q : Value → Shared → Prop} (I : Inv X pins σ H s) (e : H a = some (.ins C dx fs)) (c : Cls X.K C) (n : NoAttr X.K C f) (l : fs.lookup f = some v)
    (h : ∀ u s', Inv X pins σ H s' → RelV v u → Q u s') : wpAny (model X.prog X.w) A (getAttr (.ref a) f b) Q E s := by
  obtain ⟨mA, O, r, _, _, _⟩ := ins_get I.hok e
  obtain ⟨u, hu, ru⟩ := RelO.some_of (v := v) (o := mA f) (by rw [← l]; exact r f)
  exact get_map I.kIn O (c.get f) c.hd n hu (handed_of ru) (h u _ (I.tok _) ru)

theorem getmeth_ok {m : Str} {g : Addr} {pl : Sem Bool} {Q : Value × List Value → Shared → Prop} (I : Inv X pins σ H s) (e : H a = some (.ins C dx fs)) (c : Cls X.K C) (k : Meth X.K C m g) (l : fs.lookup m = none)
    (h : Q (.ref g, [.ref a]) s) : wpAny (model X.prog X.w) A (getMethod (.ref a) m pl) Q E s := by
  obtain ⟨mA, O, r, _, _, _⟩ := ins_get I.hok e
  have hn : mA m = none := RelO.none_of (by rw [← l]; exact r m)
  exact get_meth I.kIn O (c.get m) k.at_ k.fn hn h

theorem setattr_ok {y : V} {u : Value} {Q : Unit → Shared → Prop} (I : Inv X pins σ H s) (e : H a = some (.ins C dx fs)) (c : Cls X.K C) (n : NoAttr X.K C f) (hl : fs.length < 1000) (ry : RelV y u)
    (h : ∀ s', Inv X pins σ (upd H a (.ins C dx (putF f y fs))) s' → Q () s') : wpAny (model X.prog X.w) A (setAttr (.ref a) f u) Q E s := by
  obtain ⟨mA, O, r, wi, _, ho⟩ := ins_get I.hok e
  have hz : (fs.map (·.1)).length ≤ sizeLine := by rw [List.length_map, sizeLine_eq]; omega
  refine set_map I.kIn O c.sa c.po n.taker c.hd wi hz fun h' O' sb => h _ ?_
  have hd : ∃ o, h'.get? dx = some o := let ⟨o, _, _, e', _⟩ := O'.ns; ⟨o, e'⟩
  refine I.write (x := a) (e := dx) (by rw [e]; exact True.intro) (.inr ho) (fun b q hb z => (sb.2 b hb).trans z) hd ?_
  refine ⟨by rw [upd_ne O.ne]; exact ho, ?_, O.ne, O'.obj, _, O'.ns, fun g => ?_, fun g hg => ?_⟩
  · have := length_putF f y fs; omega
  · show RelO ((putF f y fs).lookup g) (if g = f then some u else mA g)
    rw [lookup_putF]
    by_cases q : g = f
    · rw [if_pos q, if_pos q]; exact ry
    · rw [if_neg q, if_neg q]; exact r g
  · by_cases q : g = f
    · rw [q]; exact (keys_putF f y fs).1
    · refine (keys_putF f y fs).2 g (wi g fun z => hg ?_)
      show (if g = f then some u else mA g) = none
      rw [if_neg q]; exact z

/-- a new instance, tracked, without attributes -/
theorem Inv.made (I : Inv X pins σ H s) : Inv X pins σ (upd (upd H s.heap.objs.size (.own (s.heap.objs.size + 1))) (s.heap.objs.size + 1) (.ins C s.heap.objs.size []))
    { s with heap := (s.heap.push PySem.W.emptyDict).push (PySem.W.instObj C s.heap.objs.size) } := by
  have e1 : (s.heap.push PySem.W.emptyDict).get? s.heap.objs.size = some PySem.W.emptyDict := Heap.get?_push_size s.heap rfl
  have e2 : ((s.heap.push PySem.W.emptyDict).push (PySem.W.instObj C s.heap.objs.size)).get? (s.heap.objs.size + 1) = some (PySem.W.instObj C s.heap.objs.size) := by
    have := Heap.get?_push_size (s.heap.push PySem.W.emptyDict) (o := PySem.W.instObj C s.heap.objs.size) rfl
    rwa [Heap.size_push] at this
  have e3 : (s.heap.push PySem.W.emptyDict).Ns s.heap.objs.size (fun _ => none) := ⟨PySem.W.emptyDict, #[], _, e1, rfl, (fun e he => absurd he (by simp)), fun _ => rfl⟩
  have I1 := I.laid (a := s.heap.objs.size) (o := .own (s.heap.objs.size + 1)) (h' := s.heap.push PySem.W.emptyDict) (t' := s.toks) (fun b u q => Heap.get?_push_of_some _ q) (Nat.le_refl _) ⟨_, e1⟩
  refine I1.laid (a := s.heap.objs.size + 1) (o := .ins C s.heap.objs.size []) (t' := s.toks) (fun b u q => Heap.get?_push_of_some _ q) (Nat.le_of_eq (Heap.size_push _ _)) ?_
  have ne : s.heap.objs.size ≠ s.heap.objs.size + 1 := Nat.ne_of_lt (Nat.lt_succ_self _)
  refine ⟨by rw [upd_ne ne, upd_same], Nat.zero_le _, ne, e2, fun _ => none, (Heap.Ns1.of_empty e3).at fun o q => Heap.get?_push_of_some _ q, fun _ => True.intro, fun y hy => absurd rfl hy⟩

/-- e.f where nothing but the object is asked: through attributeBase (super) and the last hold -/
theorem attr_of {prog : Program} {w : World} {env : Env} {e : Expr} {f : Str} {pos : Pos} {s : Shared} {Q : Value → Shared → Prop} (hb : attributeBase e f env (eval e env) = eval e env)
    (h : wpAny (model prog w) A (eval e env) (fun o s₁ => wpAny (model prog w) A (getAttr o f true) Q E s₁) E s) : wpAny (model prog w) A (eval (.Attribute e f pos) env) Q E s :=
  Attribute_any_ h (by rw [arm_eval_Attribute, hb])
end

/-! ### readings and rules -/
/-- e.f, an attribute of the instance -/
def tFld (K : PySem.W.Frag) (ta : TE) (f : Str) : TE := fun σ H Q => ta σ H fun x H1 => ∃ a C dx fs v, x = .ref a ∧ H1 a = some (.ins C dx fs) ∧ Cls K C ∧ NoAttr K C f ∧ fs.lookup f = some v ∧ Q v H1
/-- e.f, a constant of the class -/
def tCon (K : PySem.W.Frag) (ta : TE) (f : Str) : TE := fun σ H Q => ta σ H fun x H1 => ∃ a C dx fs v u, x = .ref a ∧ H1 a = some (.ins C dx fs) ∧ Cls K C ∧ Con K C f v u ∧ fs.lookup f = none ∧ Q v H1
/-- e.f = value -/
def sFld (K : PySem.W.Frag) (ta tv : TE) (f : Str) : TS := fun D σ H => tv σ H fun y H1 => ta σ H1 fun x H2 => ∃ a C dx fs, x = .ref a ∧ H2 a = some (.ins C dx fs) ∧ Cls K C ∧ NoAttr K C f ∧ fs.length < 1000 ∧
  D.nx σ (upd H2 a (.ins C dx (putF f y fs)))
/-- an augmented operator on two values -/
def InOp (X : Cx) (op : Operator) (rd : V → V → Hp → VK → Prop) : Prop :=
  ∀ (pins : List (Addr × Obj)) (s : Shared) (σ : St) (H : Hp) (x y : V) (u v : Value) (Q : VK), Inv X pins σ H s → RelV x u → RelV y v → rd x y H Q → wpAny (model X.prog X.w) X.A (inplaceOp op u v) (EP X pins σ Q) X.xe s
/-- e.f op= value -/
def sFldAug (K : PySem.W.Frag) (ta tv : TE) (rd : V → V → Hp → VK → Prop) (f : Str) : TS := fun D σ H => ta σ H fun x H1 => ∃ a C dx fs v, x = .ref a ∧ H1 a = some (.ins C dx fs) ∧ Cls K C ∧ NoAttr K C f ∧ fs.lookup f = some v ∧
  tv σ H1 fun y H2 => rd v y H2 fun z H3 => ∃ dx' fs', H3 a = some (.ins C dx' fs') ∧ fs'.length < 1000 ∧ D.nx σ (upd H3 a (.ins C dx' (putF f z fs')))

section
variable {X : Cx} {o e value : Expr} {f : Str} {pos pos' tpos : Pos} {ta tv : TE}
theorem pe_fld (he : PE X e ta) (hb : attributeBase e f X.env (eval e X.env) = eval e X.env) : PE X (.Attribute e f pos) (tFld X.K ta f) := by
  intro pins s σ H Q I h
  refine attr_of hb (thn (he pins s σ H _ I h) fun u s1 ⟨x, H1, I1, rx, a, C, dx, fs, v, ex, ea, c, n, l, q⟩ => ?_)
  subst ex
  obtain rfl : u = Value.ref a := rx
  exact getattr_ok I1 ea c n l fun u' s2 I2 ru => ⟨v, H1, I2, ru, q⟩
theorem ps_fld (ha : PE X o ta) (hv : PE X value tv) (hs : swapsWith value (some (.Attribute o f pos')) pos.line X.env = pure false) : PS X (.Assign [.Attribute o f pos'] value pos) (sFld X.K ta tv f) := by
  intro pins s σ H D I h
  refine plainObj_wpAny_Assign_Attribute (thn (hv pins s σ H _ I h) fun u s1 ⟨y, H1, I1, ry, q⟩ => thn (ha pins s1 σ H1 _ I1 q) fun ov s2 ⟨x, H2, I2, rx, a, C, dx, fs, ex, ea, c, n, l, q2⟩ => ?_) hs
  subst ex
  obtain rfl : ov = Value.ref a := rx
  exact setattr_ok I2 ea c n l ry fun s3 I3 => ⟨σ, _, I3, q2⟩
theorem ps_fldaug {op : Operator} {rd : V → V → Hp → VK → Prop} (ha : PE X o ta) (hv : PE X value tv) (hop : InOp X op rd) : PS X (.AugAssign (.Attribute o f tpos) op value pos) (sFldAug X.K ta tv rd f) := by
  intro pins s σ H D I h
  refine wpAny_AugAssign_AttributeAny (thn (ha pins s σ H _ I h) fun ov s1 ⟨x, H1, I1, rx, a, C, dx, fs, v, ex, ea, c, n, l, q⟩ => ?_)
  subst ex
  obtain rfl : ov = Value.ref a := rx
  refine getattr_ok I1 ea c n l fun u s2 I2 ru => thn (hv pins s2 σ H1 _ I2 q) fun w3 s3 ⟨y, H2, I3, ry, q3⟩ => thn (hop pins s3 σ H2 v y u w3 _ I3 ru ry q3) fun w4 s4 ⟨z, H3, I4, rz, dx', fs', ea', l', q4⟩ => ?_
  exact setattr_ok I4 ea' c n l' rz fun s5 I5 => ⟨σ, _, I5, q4⟩
def rAdd : V → V → Hp → VK → Prop := fun x y H Q => ∃ i j, x = .int i ∧ y = .int j ∧ Q (.int (i + j)) H
def rSub : V → V → Hp → VK → Prop := fun x y H Q => ∃ i j, x = .int i ∧ y = .int j ∧ Q (.int (i - j)) H
theorem in_add : InOp X .Add rAdd := by
  rintro pins s σ H x y u v Q I rx ry ⟨i, j, rfl, rfl, q⟩
  obtain ⟨t, rfl⟩ := (show ∃ t, u = Value.int i t from rx)
  obtain ⟨t', rfl⟩ := (show ∃ t', v = Value.int j t' from ry)
  exact PyProof.Rows.iadd_int ⟨.int (i + j), H, I.tok _, ⟨_, rfl⟩, q⟩
/-- what is between an instance and its method: the tree of a method call -/
theorem methcall_of {pl : Sem Bool} {m : Str} {apos : Pos} {args : List Expr} {pins : List (Addr × Obj)} {s : Shared} {σ : St} {H : Hp} {Q : Value → Shared → Prop} {te : TE} (he : PE X e te) (I : Inv X pins σ H s)
    (h : te σ H fun x H1 => ∃ a C dx fs g, x = .ref a ∧ H1 a = some (.ins C dx fs) ∧ Cls X.K C ∧ Meth X.K C m g ∧ fs.lookup m = none ∧
      ∀ s1, Inv X pins σ H1 s1 → wpAny (model X.prog X.w) X.A (callWith pos (.ref g) [.ref a] (backTo pos (starEach args X.env)) (backToKw pos (keywordEach [] X.env))) Q X.xe s1)
    (ht : eval (.Call (.Attribute e m apos) args [] pos) X.env = (do
      let ov ← eval e X.env
      standAt apos.atName
      let (f, first) ← holding [ov] (getMethod ov m pl)
      callWith pos f first (backTo pos (starEach args X.env)) (backToKw pos (keywordEach [] X.env)))) :
    wpAny (model X.prog X.w) X.A (eval (.Call (.Attribute e m apos) args [] pos) X.env) Q X.xe s := by
  refine PySem.W.methodCall_KW (pl := pl) (thn (he pins s σ H _ I h) fun u s1 ⟨x, H1, I1, rx, a, C, dx, fs, g, ex, ea, c, k, l, q⟩ => ?_) ht
  subst ex
  obtain rfl : u = Value.ref a := rx
  exact getmeth_ok I1 ea c k l (q s1 I1)
end

/-! ### isinstance -/
section
variable {X : Cx} {pins : List (Addr × Obj)} {σ : St} {H : Hp} {s : Shared} {A : Around} {E : Value → Shared → Prop} {Q : Value → Shared → Prop} {c : Value} {b : Bool}
/-- the type of a value, as the fragment's deciders take it; for an instance its class -/
inductive TyOf (K : PySem.W.Frag) (H : Hp) : V → Value → Prop where
  | non : TyOf K H .non (.type "NoneType")
  | bl (x : Bool) : TyOf K H (.bl x) (.type "bool")
  | int (i : Int) : TyOf K H (.int i) (.type "int")
  | str (x : Str) : TyOf K H (.str x) (.type "str")
  | flt (x : UInt64) : TyOf K H (.flt x) (.type "float")
  | lst {a : Addr} {xs : List V} (e : H a = some (.lst xs)) : TyOf K H (.ref a) (.type "list")
  | frz {a : Addr} {o : Obj} {xs : List V} (e : H a = some (.frz o (.lst xs))) : TyOf K H (.ref a) (.type "list")
  | tup {a : Addr} {xs : List V} (e : H a = some (.tup xs)) : TyOf K H (.ref a) (.type "tuple")
  | dK {a : Addr} {kvs : List (Key × V)} (e : H a = some (.dK kvs)) : TyOf K H (.ref a) (.type "dict")
  | dT {a : Addr} {kvs : List (List Key × V)} (e : H a = some (.dT kvs)) : TyOf K H (.ref a) (.type "dict")
  | ins {a C dx : Addr} {fs : List (Str × V)} (e : H a = some (.ins C dx fs)) (cl : Cls K C) (ha : PySem.W.findIn K (.ref C) "__class__" = some (some (.builtin "object.__class__")))
      (hn : PySem.W.specialIn K (.builtin "object.__class__") "__get__" = some (some (.builtin "getset_descriptor.__get__"))) (htk : PySem.W.takesIn K (.builtin "object.__class__") = some true)
      (hm : PySem.W.mroIn K C (.type "object") = some true) : TyOf K H (.ref a) (.ref C)
end
end L2

namespace L2
open PySem PySem.Spec PyProof.Rows

/-! ### room -/
structure Room (k : Nat) (A : Around) : Prop where
  hd : A.handled = none
  dp : A.depth + 3 * k + 5 < recursionLimit
  un : A.units + 16 * k + 200 < cLine
theorem Room.mono {j k : Nat} {A : Around} (r : Room k A) (h : j ≤ k) : Room j A := ⟨r.hd, by have := r.dp; omega, by have := r.un; omega⟩
theorem Room.deeper {k : Nat} {A : Around} (r : Room (k + 1) A) (env : Env) : Room k (A.deeper env) :=
  ⟨r.hd, by have := r.dp; show A.depth + 1 + 3 * k + 5 < _; omega, by have := r.un; show A.units + 3 + 16 * k + 200 < _; omega⟩
theorem make_depth {A : Around} {C : Addr} {us : List Value} {kw : List (Str × Value)} : (A.under (.builtin "type.__call__" ⟨.ref C :: us, kw⟩)).depth = A.depth + 1 := by
  first | rfl | simp [Around.under, Code.weight, Code.isCreation, Code.isGuard, Code.isCaller, Code.frames, Code.isFrame, guardIds]
theorem make_units {A : Around} {C : Addr} {us : List Value} {kw : List (Str × Value)} : (A.under (.builtin "type.__call__" ⟨.ref C :: us, kw⟩)).units = A.units + 1 := by
  first | rfl | simp [Around.under, Code.cUnits, Code.frames, Code.isFrame]
theorem Room.make {k : Nat} {A : Around} (r : Room (k + 1) A) (C : Addr) (us : List Value) (kw : List (Str × Value)) : Room k (A.under (.builtin "type.__call__" ⟨.ref C :: us, kw⟩)) :=
  ⟨r.hd, by have := r.dp; rw [make_depth]; omega, by have := r.un; rw [make_units]; omega⟩
theorem Room.depth {k : Nat} {A : Around} (r : Room k A) : A.depth < recursionLimit := by have := r.dp; omega
theorem Room.units {k : Nat} {A : Around} (r : Room k A) : A.units + 64 < cLine := by have := r.un; omega
/-! ### argument lists and displays -/
def tNil : TA := fun _ H Q => Q [] H
def tCons (ta : TE) (tr : TA) : TA := fun σ H Q => ta σ H fun x H1 => tr σ H1 fun xs H2 => Q (x :: xs) H2
section
variable {X : Cx} {e : Expr} {es : List Expr} {te : TE} {t : TA} {pos : Pos}
theorem pa_nil : PA X [] tNil := fun _ _ _ _ H Q I h => Calls.spliced_nil ⟨[], H, I, .nil, h⟩
theorem pa_cons (ha : PE X e te) (hr : PA X es t) (hs : starEach (e :: es) X.env = (false, eval e X.env) :: starEach es X.env := by rfl) : PA X (e :: es) (tCons te t) := by
  intro pos pins s σ H Q I h
  rw [hs]
  show wpAny _ _ (spliced ((false, eval e X.env) :: backTo pos (starEach es X.env))) _ _ s
  refine Calls.spliced_cons (thn (ha pins s σ H _ I h) fun u s1 ⟨x, H1, I1, r1, q1⟩ => ?_)
  exact thn (hr pos pins s1 σ H1 _ I1 q1) fun us s2 ⟨xs, H2, I2, r2, q2⟩ => ⟨x :: xs, H2, I2, .cons r1 r2, q2⟩

/-- a tuple, a list of written items -/
def tTup (t : TA) : TE := fun σ H Q => t σ H fun xs H1 => xs.length ≤ sizeLine ∧ ∀ p, H1 p = none → Q (.ref p) (upd H1 p (.tup xs))
def tLst (t : TA) : TE := fun σ H Q => t σ H fun xs H1 => xs.length ≤ sizeLine ∧ ∀ p, H1 p = none → Q (.ref p) (upd H1 p (.lst xs))
theorem pe_tup {x1} (h : PA X es t) : PE X (.Tuple es x1 pos) (tTup t) := by
  intro pins s σ H Q I hq
  refine wpAny_Tuple_spliced (thn (h pos pins s σ H _ I hq) fun us s1 ⟨xs, H1, I1, r, z, q⟩ => ⟨by rw [← r.length]; exact z, ?_⟩)
  have hf : H1 s1.heap.objs.size = none := I1.hok.fresh (Nat.le_refl _)
  refine ⟨.ref s1.heap.objs.size, upd H1 s1.heap.objs.size (.tup xs), I1.laid (t' := s1.toks) (fun b u e => Heap.get?_push_of_some _ e) (Nat.le_refl _) ?_, rfl, q _ hf⟩
  exact ⟨z, us, r, ⟨_, Heap.get?_push_size _ rfl, rfl, _, rfl⟩⟩
theorem pe_lst (h : PA X es t) : PE X (.List es pos) (tLst t) := by
  intro pins s σ H Q I hq
  refine wpAny_List_spliced (thn (h pos pins s σ H _ I hq) fun us s1 ⟨xs, H1, I1, r, z, q⟩ => ⟨by rw [← r.length]; exact z, ?_⟩)
  have hf : H1 s1.heap.objs.size = none := I1.hok.fresh (Nat.le_refl _)
  refine ⟨.ref s1.heap.objs.size, upd H1 s1.heap.objs.size (.lst xs), I1.laid (t' := s1.toks) (fun b u e => Heap.get?_push_of_some _ e) (Nat.le_refl _) ?_, rfl, q _ hf⟩
  exact ⟨z, us, 0, r, Heap.get?_push_size _ rfl⟩
end

/-! ### what a def promises -/
/-- a def's promise: the bound arguments in the parameters' order, the heap, the wanted end, the wanted exception -/
abbrev Sp := List V → Hp → VK → XK → Prop
/-- how an exception lies behind a call (file 08 gives it): the callers' frames, abstract heap and state ahead of the call, the wish, the exception, the state -/
abbrev CXT := List Env → Hp → Shared → XK → Value → Shared → Prop

/-- the state at a call -/
structure Env0 (P : Program) (w : World) (K : PySem.W.Frag) (mg : Str → Option Value) (base : Heap) (A : Around) (outer : List Env) (s : Shared) (H : Hp) : Prop where
  frames : A.frames = some outer
  mod : Mod K mg base
  bs : ∀ b o, base.get? b = some o → s.heap.get? b = some o ∧ H b = none
  bsz : base.objs.size ≤ s.heap.objs.size
  funs : s.heap.FunFrames base outer
  frf : ∀ b ∈ frs outer, H b = none
  hok : HOk P w H s.heap
  bare : AllBare s.gens
/-- a call's end -/
def CE (outer : List Env) (P : Program) (w : World) (H : Hp) (s : Shared) (Q : VK) (u : Value) (s' : Shared) : Prop :=
  ∃ v H', s'.os = s.os ∧ AllBare s'.gens ∧ Un (frs outer) [] H H' s.heap s'.heap ∧ HOk P w H' s'.heap ∧ RelV v u ∧ Q v H'
def CR (CX : CXT) (outer : List Env) (P : Program) (w : World) (H : Hp) (s : Shared) (Q : VK) (E : XK) (r : Result) (s' : Shared) : Prop :=
  match r with
  | .ok (.ret u) => CE outer P w H s Q u s'
  | .ok _ => False
  | .error e => CX outer H s E e s'
structure FnOk (P : Program) (w : World) (K : PySem.W.Frag) (mg : Str → Option Value) (base : Heap) (CX : CXT) (k : Nat) (f : Addr) (fd : FuncData) (ps : List Str) (sp : Sp) : Prop where
  len : ∀ vs H Q E, sp vs H Q E → vs.length = ps.length
  run : ∀ (A : Around) (outer : List Env) (s : Shared) (H : Hp) (args : Args) (us : List Value) (vs : List V) (Q : VK) (E : XK), Room k A → Env0 P w K mg base A outer s H → BindsTo s fd args (ps.zip us) → Vals vs us → sp vs H Q E →
    codeAny (model P w) A (.call (.ref f) args) (CR CX outer P w H s Q E) s
theorem FnOk.mono {P : Program} {w : World} {K : PySem.W.Frag} {mg : Str → Option Value} {base : Heap} {CX : CXT} {j k : Nat} {f : Addr} {fd : FuncData} {ps : List Str} {sp : Sp} (F : FnOk P w K mg base CX j f fd ps sp) (h : j ≤ k) :
    FnOk P w K mg base CX k f fd ps sp := ⟨F.len, fun A outer s H args us vs Q E hr => F.run A outer s H args us vs Q E (hr.mono h)⟩
/-- a weaker promise -/
theorem FnOk.imp {P : Program} {w : World} {K : PySem.W.Frag} {mg : Str → Option Value} {base : Heap} {CX : CXT} {k : Nat} {f : Addr} {fd : FuncData} {ps : List Str} {sp sp' : Sp} (F : FnOk P w K mg base CX k f fd ps sp)
    (h : ∀ vs H Q E, sp' vs H Q E → sp vs H Q E) : FnOk P w K mg base CX k f fd ps sp' :=
  ⟨fun vs H Q E q => F.len vs H Q E (h _ _ _ _ q), fun A outer s H args us vs Q E hr he hb hv hs => F.run A outer s H args us vs Q E hr he hb hv (h _ _ _ _ hs)⟩

theorem Env0.make {P : Program} {w : World} {K : PySem.W.Frag} {mg : Str → Option Value} {base : Heap} {A : Around} {outer : List Env} {s : Shared} {H : Hp} (e : Env0 P w K mg base A outer s H) (C : Addr) (us : List Value) (kw : List (Str × Value)) :
    Env0 P w K mg base (A.under (.builtin "type.__call__" ⟨.ref C :: us, kw⟩)) outer s H := ⟨by first | exact e.frames | (simpa [Around.under, Code.envs, Code.isFrame, pushEnvs] using e.frames), e.mod, e.bs, e.bsz, e.funs, e.frf, e.hok, e.bare⟩
section
variable {X : Cx} {pins : List (Addr × Obj)} {σ : St} {H : Hp} {s s' : Shared}
/-- from a body: what a callee wants -/
theorem Inv.env0 (I : Inv X pins σ H s) : Env0 X.prog X.w X.K X.mg X.base X.A X.stack s H :=
  ⟨I.ok.frames, I.ok.mod, I.bs, Nat.le_trans I.ok.bsz I.sz, I.stack, I.stkFree, I.hok, I.bare⟩
/-- behind a call -/
theorem Inv.after {Q : VK} {u : Value} (I : Inv X pins σ H s) (h : CE X.stack X.prog X.w H s Q u s') : EP X pins σ Q u s' := by
  obtain ⟨v, H', os, bare, un, hok, r, q⟩ := h
  obtain ⟨hh, g, d, t, os'⟩ := s'
  obtain rfl : os' = s.os := os
  exact ⟨v, H', I.call (h' := hh) (g' := g) (d' := d) (t' := t) (ch := []) un hok bare (fun b z => absurd z (by simp)), r, q⟩
end

/-! ### calls -/
/-- f(..): the written arguments, then the defaults dvs; E: what is wanted of an exception -/
def tCall (sp : Sp) (dvs : List V) (E : XK) (t : TA) : TE := fun σ H Q => t σ H fun vs H1 => sp (vs ++ dvs) H1 Q E
/-- o.m(..) of an instance of the class at C -/
def tMeth (C : Addr) (m : Str) (sp : Sp) (dvs : List V) (E : XK) (ta : TE) (t : TA) : TE := fun σ H Q => ta σ H fun x H1 => ∃ a dx fs, x = .ref a ∧ H1 a = some (.ins C dx fs) ∧ fs.lookup m = none ∧
  t σ H1 fun vs H2 => sp (x :: (vs ++ dvs)) H2 Q E
/-- C(..): a new instance and its dict, then __init__ -/
def tMake (C : Addr) (sp : Sp) (dvs : List V) (E : XK) (t : TA) : TE := fun σ H Q => t σ H fun vs H1 => ∀ x dx, H1 x = none → H1 dx = none → dx ≠ x →
  sp (.ref x :: (vs ++ dvs)) (upd (upd H1 dx (.own x)) x (.ins C dx [])) (fun v H2 => v = .non ∧ Q (.ref x) H2) E

/-- how the parameters are bound: us the positional arguments, kw the keywords' values by name, ds the defaults that fill up -/
def Binds (K : PySem.W.Frag) (fd : FuncData) (ps : List Str) (ds : List Value) : Prop :=
  ∀ (s : Shared) (us : List Value), K.In s.heap → (us ++ ds).length = ps.length → BindsTo s fd ⟨us, []⟩ (ps.zip (us ++ ds))
/-- every parameter is given -/
theorem Binds.all {K : PySem.W.Frag} {fd : FuncData} {ps : List Str} (h : ∀ us : List Value, us.length = ps.length → bindArgs fd ⟨us, []⟩ = pure (ps.zip us)) : Binds K fd ps [] := fun s us _ hl => by
  rw [List.append_nil] at hl ⊢
  exact .of_eq (h us hl)

/-- an exception of a callee reaches what this body wants of exceptions -/
def Passes (CX : CXT) (X : Cx) (E : XK) : Prop := ∀ (pins : List (Addr × Obj)) (σ : St) (H : Hp) (s : Shared) (e : Value) (s' : Shared), Inv X pins σ H s → CX X.stack H s E e s' → X.xe e s'

section
variable {X : Cx} {CX : CXT} {k : Nat} {f C : Addr} {fd : FuncData} {ps : List Str} {sp : Sp} {dvs : List V} {ds : List Value} {E : XK} {x m : Str} {p pos apos : Pos} {e o : Expr} {es : List Expr} {ta : TE} {t : TA}

/-- the callee runs -/
theorem run_fn {pins : List (Addr × Obj)} {σ : St} {H : Hp} {s : Shared} {Q : VK} {us : List Value} {vs : List V} (F : FnOk X.prog X.w X.K X.mg X.base CX k f fd ps sp) (hr : Room k X.A) (hb : Binds X.K fd ps ds) (hd : Vals dvs ds) (hx : Passes CX X E)
    (I : Inv X pins σ H s) (r : Vals vs us) (h : sp (vs ++ dvs) H Q E) : wpAny (model X.prog X.w) X.A (call (.ref f) us) (EP X pins σ Q) X.xe s := by
  have r2 : Vals (vs ++ dvs) (us ++ ds) := r.append hd
  have hl : (us ++ ds).length = ps.length := by rw [← r2.length]; exact F.len _ _ _ _ h
  refine wpAny_call (codeAny_mono (F.run X.A X.stack s H ⟨us, []⟩ (us ++ ds) (vs ++ dvs) Q E hr I.env0 (hb s us I.kIn hl) r2 h) fun r s' hq => ?_)
  cases r with
  | error e => exact hx pins σ H s e s' I hq
  | ok fl =>
    cases fl with
    | ret u => exact I.after hq
    | next => exact False.elim hq
    | brk => exact False.elim hq
    | cont => exact False.elim hq

theorem pe_call (F : FnOk X.prog X.w X.K X.mg X.base CX k f fd ps sp) (hr : Room k X.A) (hg : Gl X x) (hm : X.mg x = some (.ref f)) (hk : PySem.W.keepIn X.K (.ref f) = true) (hb : Binds X.K fd ps ds) (hd : Vals dvs ds) (hx : Passes CX X E)
    (ha : PA X (e :: es) t) (hdb : (x == ("__debug__" : Str)) = false := by decide) (he : starEach (e :: es) X.env = (false, eval e X.env) :: starEach es X.env := by rfl) (hpl : (backTo pos (starEach es X.env)).any (·.1) = false := by rfl) :
    PE X (.Call (.Name x p) (e :: es) [] pos) (tCall sp dvs E t) := by
  intro pins s σ H Q I h
  refine wpAny_Call_Name_kw (ld_glob I hg hm ?_ hdb)
  refine PySem.W.callWith_K (h₀ := X.base) I.ok.mod.kin hk (thn (ha pos pins s σ H _ I h) fun us s1 ⟨vs, H1, I1, r, q⟩ => ⟨I1.kIn, ?_⟩) he hpl
  exact run_fn F hr hb hd hx I1 r q
/-- o.m() -/
theorem pe_meth0 {pl : Sem Bool} (he : PE X o ta) (c : Cls X.K C) (hm : Meth X.K C m f) (F : FnOk X.prog X.w X.K X.mg X.base CX k f fd ps sp) (hr : Room k X.A) (hb : Binds X.K fd ps ds) (hd : Vals dvs ds) (hx : Passes CX X E)
    (ht : eval (.Call (.Attribute o m apos) [] [] pos) X.env = (do
      let ov ← eval o X.env
      standAt apos.atName
      let (f, first) ← holding [ov] (getMethod ov m pl)
      callWith pos f first (backTo pos (starEach [] X.env)) (backToKw pos (keywordEach [] X.env))) := by rfl) :
    PE X (.Call (.Attribute o m apos) [] [] pos) (tMeth C m sp dvs E ta tNil) := by
  intro pins s σ H Q I h
  refine PySem.W.methodCall_KW (pl := pl) (thn (he pins s σ H _ I h) fun u s1 ⟨x, H1, I1, rx, a, dx, fs, ex, ea, l, q⟩ => ?_) ht
  subst ex
  obtain rfl : u = Value.ref a := rx
  refine getmeth_ok I1 ea c hm l ?_
  exact PySem.W.callWith_K0 (first := [.ref a]) I1.kIn hm.kp (run_fn (us := [.ref a]) (vs := [.ref a]) F hr hb hd hx I1 (.cons rfl .nil) q)

/-- what a class must have to be made -/
structure Mk (K : PySem.W.Frag) (C f : Addr) : Prop where
  makes : PySem.W.makesIn K C = true
  init : PySem.W.findIn K (.ref C) "__init__" = some (some (.ref f))
  fn : PySem.W.isFn K (.ref f) = true
  kp : PySem.W.keepIn K (.ref C) = true

theorem run_make {pins : List (Addr × Obj)} {σ : St} {H : Hp} {s : Shared} {Q : VK} {us : List Value} {vs : List V} (M : Mk X.K C f) (F : FnOk X.prog X.w X.K X.mg X.base CX k f fd ps sp) (hr : Room (k + 1) X.A) (hb : Binds X.K fd ps ds) (hd : Vals dvs ds)
    (hx : Passes CX X E) (I : Inv X pins σ H s) (r : Vals vs us)
    (h : ∀ x dx, H x = none → H dx = none → dx ≠ x → sp (.ref x :: (vs ++ dvs)) (upd (upd H dx (.own x)) x (.ins C dx [])) (fun v H2 => v = .non ∧ Q (.ref x) H2) E) :
    wpAny (model X.prog X.w) X.A (call (.ref C) us) (EP X pins σ Q) X.xe s := by
  have hq := h (s.heap.objs.size + 1) s.heap.objs.size (I.hok.fresh (Nat.le_succ _)) (I.hok.fresh (Nat.le_refl _)) (Nat.ne_of_lt (Nat.lt_succ_self _))
  have I2 := Inv.made (C := C) I
  have r2 : Vals (V.ref (s.heap.objs.size + 1) :: (vs ++ dvs)) (Value.ref (s.heap.objs.size + 1) :: (us ++ ds)) := .cons rfl (r.append hd)
  have hl : (Value.ref (s.heap.objs.size + 1) :: us ++ ds).length = ps.length := by
    have e := r2.length
    rw [F.len _ _ _ _ hq] at e
    exact e.symm
  refine wpAny_call (make_map (f := f) I.kIn M.makes M.init (beq_iff_eq.mp M.fn) (codeAny_mono (F.run _ X.stack _ _ ⟨Value.ref (s.heap.objs.size + 1) :: us, []⟩ (Value.ref (s.heap.objs.size + 1) :: (us ++ ds)) _ _ E (hr.make C us [])
    (I2.env0.make C us []) (hb _ (Value.ref (s.heap.objs.size + 1) :: us) I2.kIn hl) r2 hq) fun r s' hq' => ?_))
  cases r with
  | error e => exact hx pins σ _ _ e s' I2 hq'
  | ok fl =>
    cases fl with
    | ret u =>
      obtain ⟨v, H', I3, rv, ev, q3⟩ := I2.after hq'
      subst ev
      exact ⟨rv, ⟨V.ref (s.heap.objs.size + 1), H', I3, rfl, q3⟩⟩
    | next => exact False.elim hq'
    | brk => exact False.elim hq'
    | cont => exact False.elim hq'
theorem pe_make (M : Mk X.K C f) (F : FnOk X.prog X.w X.K X.mg X.base CX k f fd ps sp) (hr : Room (k + 1) X.A) (hg : Gl X x) (hm : X.mg x = some (.ref C)) (hb : Binds X.K fd ps ds) (hd : Vals dvs ds) (hx : Passes CX X E)
    (ha : PA X (e :: es) t) (hdb : (x == ("__debug__" : Str)) = false := by decide) (he : starEach (e :: es) X.env = (false, eval e X.env) :: starEach es X.env := by rfl) (hpl : (backTo pos (starEach es X.env)).any (·.1) = false := by rfl) :
    PE X (.Call (.Name x p) (e :: es) [] pos) (tMake C sp dvs E t) := by
  intro pins s σ H Q I h
  refine wpAny_Call_Name_kw (ld_glob I hg hm ?_ hdb)
  refine PySem.W.callWith_K (h₀ := X.base) I.ok.mod.kin M.kp (thn (ha pos pins s σ H _ I h) fun us s1 ⟨vs, H1, I1, r, q⟩ => ⟨I1.kIn, ?_⟩) he hpl
  exact run_make M F hr hb hd hx I1 r q
end

/-! ### keywords -/
/-- the values of the keywords, from the left -/
def PK (X : Cx) (kws : List Keyword) (t : TA) : Prop :=
  ∀ (pos : Pos) (pins : List (Addr × Obj)) (s : Shared) (σ : St) (H : Hp) (Q : List V → Hp → Prop), Inv X pins σ H s → t σ H Q → wpAny (model X.prog X.w) X.A (evalAll ((backToKw pos (keywordEach kws X.env)).map (·.2))) (AP X pins σ Q) X.xe s
section
variable {X : Cx} {CX : CXT} {k : Nat} {f C : Addr} {fd : FuncData} {ps ks : List Str} {sp : Sp} {E : XK} {x m : Str} {p pos apos kpos : Pos} {e o : Expr} {es : List Expr} {kws : List Keyword} {te ta : TE} {t tk : TA} {nm : Option Str}
/-- how a call with keywords binds: g puts the positional values us and the keywords' values ws (names ks) in the parameters' order, defaults among them -/
structure KBinds (K : PySem.W.Frag) (fd : FuncData) (ps ks : List Str) (g : List Value → List Value → List Value) (gV : List V → List V → List V) : Prop where
  to : ∀ (s : Shared) (us ws : List Value), K.In s.heap → (g us ws).length = ps.length → BindsTo s fd ⟨us, ks.zip ws⟩ (ps.zip (g us ws))
  rel : ∀ {vs : List V} {us : List Value} {zs : List V} {ws : List Value}, Vals vs us → Vals zs ws → Vals (gV vs zs) (g us ws)
def tCallK (sp : Sp) (gV : List V → List V → List V) (E : XK) (t tk : TA) : TE := fun σ H Q => t σ H fun vs H1 => tk σ H1 fun zs H2 => sp (gV vs zs) H2 Q E
variable {g : List Value → List Value → List Value} {gV : List V → List V → List V}
end

/-! ### a def's body keeps its promise -/
/-- names: the parameters first -/
structure FnScope (N P : List Str) (sc : Scope) : Prop where
  kind : sc.kind = .function
  co : sc.isCoroutine = false
  gen : sc.isGenerator = false
  nd : N.Nodup
  pre : N.take P.length = P
  par : ∀ x ∈ P, sc.names.lookup x = some .local ∨ sc.names.lookup x = some .cell
  nofree : ∀ y ∈ sc.names, y.2 ≠ .free

theorem bindL_out {kindOf : Str → Option NameKind} {x : Str} : ∀ {binds : List (Str × Value)} {m : Str → Option Value}, (∀ v, (x, v) ∉ binds) → bindL kindOf binds m x = m x
  | [], _, _ => rfl
  | (n, v) :: r, m, h => by
    unfold bindL
    rw [bindL_out fun w hw => h w (List.mem_cons_of_mem _ hw)]
    split
    · have : x ≠ n := by rintro rfl; exact h v List.mem_cons_self
      simp [this]
    · rfl
theorem bindC_out {kindOf : Str → Option NameKind} {x : Str} : ∀ {binds : List (Str × Value)} {m : Str → Option Value}, (∀ v, (x, v) ∉ binds) → bindC kindOf binds m x = m x
  | [], _, _ => rfl
  | (n, v) :: r, m, h => by
    unfold bindC
    rw [bindC_out fun w hw => h w (List.mem_cons_of_mem _ hw)]
    split
    · rfl
    · have : x ≠ n := by rintro rfl; exact h v List.mem_cons_self
      simp [this]
theorem bindL_get {kindOf : Str → Option NameKind} {x : Str} {v : Value} : ∀ {P : List Str} {vs : List Value} {i : Nat} {m : Str → Option Value}, P.Nodup → P[i]? = some x → vs[i]? = some v → kindOf x = some .local →
    bindL kindOf (P.zip vs) m x = some v
  | [], _, _, _, _, h, _, _ => by simp at h
  | _ :: _, [], _, _, _, _, h, _ => by simp at h
  | p :: P, w :: vs, 0, m, nd, h1, h2, hk => by
    simp at h1 h2; subst h1; subst h2
    show bindL kindOf ((p, w) :: P.zip vs) m p = _
    unfold bindL
    rw [bindL_out fun v hv => (List.nodup_cons.mp nd).1 (List.of_mem_zip hv).1, if_pos hk]
    simp
  | p :: P, w :: vs, i + 1, m, nd, h1, h2, hk => by
    show bindL kindOf ((p, w) :: P.zip vs) m x = _
    unfold bindL
    exact bindL_get (i := i) (List.nodup_cons.mp nd).2 (by simpa using h1) (by simpa using h2) hk
theorem bindC_get {kindOf : Str → Option NameKind} {x : Str} {v : Value} : ∀ {P : List Str} {vs : List Value} {i : Nat} {m : Str → Option Value}, P.Nodup → P[i]? = some x → vs[i]? = some v → kindOf x ≠ some .local →
    bindC kindOf (P.zip vs) m x = some v
  | [], _, _, _, _, h, _, _ => by simp at h
  | _ :: _, [], _, _, _, _, h, _ => by simp at h
  | p :: P, w :: vs, 0, m, nd, h1, h2, hk => by
    simp at h1 h2; subst h1; subst h2
    show bindC kindOf ((p, w) :: P.zip vs) m p = _
    unfold bindC
    rw [bindC_out fun v hv => (List.nodup_cons.mp nd).1 (List.of_mem_zip hv).1, if_neg hk]
    simp
  | p :: P, w :: vs, i + 1, m, nd, h1, h2, hk => by
    show bindC kindOf ((p, w) :: P.zip vs) m x = _
    unfold bindC
    exact bindC_get (i := i) (List.nodup_cons.mp nd).2 (by simpa using h1) (by simpa using h2) hk

/-- the names' values at the entry -/
def start (N : List Str) (vs : List V) : St := vs.map some ++ List.replicate (N.length - vs.length) none

/-- the context of a def's body, at its entry; an exception leaves the frame, then lies as CX says -/
def cxOf (CX : CXT) (P : Program) (w : World) (K : PySem.W.Frag) (mg : Str → Option Value) (base : Heap) (N : List Str) (qual : Str) (scope : Scope) (f : Addr) (cd : Value) (A : Around) (outer : List Env) (s : Shared) (H : Hp) (E : XK) : Cx where
  prog := P
  w := w
  K := K
  mg := mg
  base := base
  A := A.deeper (envOfC qual scope s.heap.objs.size f cd)
  N := N
  s_0 := s
  H_0 := H
  env := envOfC qual scope s.heap.objs.size f cd
  outer := outer
  stack := envOfC qual scope s.heap.objs.size f cd :: outer
  ex := []
  calm := true
  fn := fun _ => true
  pn := []
  xe := fun e s' => wpAny (model P w) (A.deeper (envOfC qual scope s.heap.objs.size f cd)) (leaving (envOfC qual scope s.heap.objs.size f cd) e) (fun _ s'' => CX outer H s E e s'') (fun e' s'' => CX outer H s E e' s'') s'

theorem cell_has {sc : Scope} {n : Nat} {x : Str} (h : sc.names.lookup x = some .cell) : ∃ c, (cellsFrom n sc.names []).lookup x = some c := by
  have q := PySem.W.cellsFrom_some sc.names n [] (.inl h)
  exact Option.isSome_iff_exists.mp q

theorem inv_start {CX : CXT} {P : Program} {w : World} {K : PySem.W.Frag} {mg : Str → Option Value} {base : Heap} {N ps : List Str} {qual : Str} {scope : Scope} {f : Addr} {cd : Value} {A : Around} {outer : List Env} {s s1 : Shared} {H : Hp} {E : XK} {us : List Value} {vs : List V}
    (S : FnScope N ps scope) (hd : A.handled = none) (e0 : Env0 P w K mg base A outer s H) (hl : vs.length = ps.length) (r : Vals vs us)
    (x : InCallC s s.heap.objs.size (bindL (envOfC qual scope s.heap.objs.size f cd).kindOf (ps.zip us) fun _ => none) (cellsFrom (s.heap.objs.size + 1) scope.names []) (bindC (envOfC qual scope s.heap.objs.size f cd).kindOf (ps.zip us) fun _ => none) s1) :
    Inv (cxOf CX P w K mg base N qual scope f cd A outer s H E) [] (start N vs) H s1 := by
  have hpl : ps.length ≤ N.length := by have := congrArg List.length S.pre; rw [List.length_take] at this; omega
  obtain ⟨h1, tk, rfl, hk⟩ := x.done
  have noA : ∀ b : Addr, b ∉ (cxOf CX P w K mg base N qual scope f cd A outer s H E).ex := fun b z => absurd (show b ∈ ([] : List Addr) from z) (by simp)
  refine ⟨⟨e0.mod, S.kind, rfl, rfl, Nat.le_refl _, fun y z c h1 h2 => ?_, fun y hy => ?_, fun y c _ h => ?_, fun _ => hd, Around.frames_deeper e0.frames, .inr ⟨rfl, rfl⟩, fun b z => absurd z (noA b), e0.bs, e0.bsz, fun b _ _ => noA b, fun b z => absurd z (noA b), e0.funs, e0.frf⟩,
    rfl, e0.bare, Un.kept hk, ⟨_, x.toInCall.ns, fun i y v h1 h2 h3 => ?_⟩, fun y c h => ⟨_, x.cell y c h⟩, e0.hok.fresh (Nat.le_refl _), fun y c h => ?_, fun p hp => absurd (show p ∈ ([] : List (Addr × Obj)) from hp) (by simp), e0.hok.kept hk, ?_⟩
  · exact name_of_addr x.apart (PySem.mem_of_lookup h1) (PySem.mem_of_lookup h2)
  · have hy : scope.names.lookup y = some .cell ∨ scope.names.lookup y = some .free := hy
    rcases hy with hy | hy
    · exact cell_has hy
    · exact absurd rfl (S.nofree _ (PySem.mem_of_lookup hy))
  · exact Nat.le_of_lt (x.above y c (PySem.mem_of_lookup h))
  · have hi : i < vs.length := by
      unfold start at h2
      by_cases hi : i < vs.length
      · exact hi
      · rw [List.getElem?_append_right (by simpa using hi)] at h2
        rw [List.getElem?_replicate] at h2
        split at h2 <;> cases h2
    have ha : vs[i]? = some v := by
      unfold start at h2
      rw [List.getElem?_append_left (by simpa using hi), List.getElem?_map] at h2
      cases e : vs[i]? with
      | none => rw [e] at h2; cases h2
      | some a => rw [e] at h2; cases h2; rfl
    obtain ⟨u, hu, rv⟩ := r.get ha
    have hp : ps[i]? = some y := by
      rw [← S.pre, List.getElem?_take_of_lt (by omega)]; exact h1
    have ndP : ps.Nodup := by rw [← S.pre]; exact S.nd.sublist (List.take_sublist _ _)
    refine ⟨u, rv, ?_⟩
    rcases S.par y (List.mem_of_getElem? hp) with k | k
    · exact .inl ⟨k, bindL_get ndP hp hu k⟩
    · obtain ⟨c, e⟩ := cell_has (n := s.heap.objs.size + 1) k
      refine .inr ⟨.inl k, c, e, ?_⟩
      have q := x.cell y c e
      rw [bindC_get ndP hp hu (by show scope.names.lookup y ≠ _; rw [k]; decide)] at q
      exact q
  · exact e0.hok.fresh (Nat.le_of_lt (x.above y c (PySem.mem_of_lookup h)))
  · unfold start
    show _ = N.length
    rw [List.length_append, List.length_map, List.length_replicate]
    omega

/-- THE RULE: a def (or a method) of the text, by its body. The body's reading t is chosen for each entry; it is run at the parameters' values -/
theorem fn_of {CX : CXT} {P : Program} {w : World} {K : PySem.W.Frag} {mg : Str → Option Value} {base : Heap} {k : Nat} {f : Addr} {name qual : Str} {params : Arguments} {body : List Stmt} {scope : Scope} {dV kV doc pm cdv ct oc : Value} {an od : Option Addr}
    {osl : Array (Option Value)} {N ps : List Str} {sp : Sp} (lk : K.lookup f = some ⟨oc, od, .func (PySem.W.fnOf name qual params body scope dV kV doc pm an cdv ct), osl⟩) (hcd : PySem.W.codeIn K cdv qual = true) (S : FnScope N ps scope)
    (len : ∀ vs H Q E, sp vs H Q E → vs.length = ps.length)
    (hbody : ∀ (A : Around) (outer : List Env) (s : Shared) (H : Hp) (vs : List V) (Q : VK) (E : XK), Room k (A.deeper (envOfC qual scope s.heap.objs.size f cdv)) → sp vs H Q E →
      ∃ t, PSs (cxOf CX P w K mg base N qual scope f cdv A outer s H E) body t ∧ t { nx := fun _ H' => Q .non H', rt := Q } (start N vs) H) :
    FnOk P w K mg base CX (k + 1) f (PySem.W.fnOf name qual params body scope dV kV doc pm an cdv ct) ps sp := by
  refine ⟨len, fun A outer s H args us vs Q E hr e0 hb r hsp => ?_⟩
  have hl := len _ _ _ _ hsp
  have KX : K.In s.heap := e0.mod.kin.keeps fun b o e => (e0.bs b o e).1
  have lim : s.heap.NoLimit := e0.mod.nolimit.keeps fun b o e => (e0.bs b o e).1
  have hkind : ∀ y ∈ ps.zip us, scope.names.lookup y.1 = some .local ∨ (scope.names.lookup y.1 = some .cell ∧ ((cellsFrom (s.heap.objs.size + 1) scope.names []).lookup y.1).isSome = true) := fun ⟨n, v⟩ hy => by
    rcases S.par n (List.of_mem_zip hy).1 with q | q
    · exact .inl q
    · exact .inr ⟨q, PySem.W.cellsFrom_some _ _ _ (.inl q)⟩
  refine codeAny_call_function hr.depth (KX _ _ lk) rfl S.co S.gen rfl (PySem.W.codeRec_of KX hcd) (hb _ _ _ _ ?_)
  refine wpAny_newFunctionEnv_cells S.kind hkind fun env he s1 x => ?_
  subst he
  refine ⟨lim.keeps x.toInCall.keep, codeAny_func ?_⟩
  obtain ⟨t, ht, hq⟩ := hbody A outer s H vs Q E (hr.deeper _) hsp
  have I : Inv (cxOf CX P w K mg base N qual scope f cdv A outer s H E) [] (start N vs) H s1 := inv_start S hr.hd e0 hl r x
  refine wpAny_mono (ht [] s1 (start N vs) H _ I hq) (fun fl s' hs => ?_) fun e s' hs => hs
  have fin : ∀ {σ' : St} {H' : Hp} {v : V} {u : Value}, Inv (cxOf CX P w K mg base N qual scope f cdv A outer s H E) [] σ' H' s' → RelV v u → Q v H' → CE outer P w H s Q u s' :=
    fun {σ' H' v u} J rv q => ⟨v, H', J.os, J.bare, J.base, J.hok, rv, q⟩
  cases fl with
  | ret u =>
    obtain ⟨v, σ', H', J, rv, q⟩ := hs
    exact fin J rv q
  | next =>
    obtain ⟨σ', H', J, q⟩ := hs
    exact fin (v := V.non) (u := Value.none) J rfl q
  | brk =>
    obtain ⟨_, _, _, q⟩ := hs
    exact False.elim q
  | cont =>
    obtain ⟨_, _, _, q⟩ := hs
    exact False.elim q
end L2

namespace L2
open PySem PySem.Spec PyProof.Rows
section
variable {X : Cx} {x : Str} {p pos : Pos} {e : Expr} {es : List Expr} {t : TA} {id T : String} {r : List V → Hp → VK → Prop}

def tCB (r : List V → Hp → VK → Prop) (t : TA) : TE := fun σ H Q => t σ H fun vs H1 => r vs H1 Q
/-- f(e, ..), f a built-in function -/
theorem pe_callB (hc : CallR X (.builtin id) r) (hg : Gl X x) (hm : X.mg x = none) (hv : bootBuiltins x = some (.builtin id)) (ha : PA X (e :: es) t) (hn : x ≠ "__name__" := by decide) (hdb : (x == ("__debug__" : Str)) = false := by decide)
    (he : starEach (e :: es) X.env = (false, eval e X.env) :: starEach es X.env := by rfl) (hpl : (backTo pos (starEach es X.env)).any (·.1) = false := by rfl) : PE X (.Call (.Name x p) (e :: es) [] pos) (tCB r t) := by
  intro pins s σ H Q I h
  refine wpAny_Call_Name_kw (ld_blt I hg hm hv ?_ hn hdb)
  exact PyProof.Rows.callWith_builtin1 (thn (ha pos pins s σ H _ I h) fun us s1 ⟨vs, H1, I1, r1, q1⟩ => hc pins s1 σ H1 vs us Q I1 r1 q1) he hpl
/-- T(e, ..), T a built-in type -/
theorem pe_callTy (hc : CallR X (.type T) r) (hg : Gl X x) (hm : X.mg x = none) (hv : bootBuiltins x = some (.type T)) (ha : PA X (e :: es) t) (hn : x ≠ "__name__" := by decide) (hdb : (x == ("__debug__" : Str)) = false := by decide)
    (he : starEach (e :: es) X.env = (false, eval e X.env) :: starEach es X.env := by rfl) (hpl : (backTo pos (starEach es X.env)).any (·.1) = false := by rfl) : PE X (.Call (.Name x p) (e :: es) [] pos) (tCB r t) := by
  intro pins s σ H Q I h
  refine wpAny_Call_Name_kw (ld_blt I hg hm hv ?_ hn hdb)
  exact PyProof.Rows.callWith_type1 (thn (ha pos pins s σ H _ I h) fun us s1 ⟨vs, H1, I1, r1, q1⟩ => hc pins s1 σ H1 vs us Q I1 r1 q1) he hpl
end
end L2

namespace HT
open PySem PyProof.Rows

/-- t < u of tuples of ints -/
def lexLt : List Int → List Int → Bool
  | [], [] => false
  | [], _ :: _ => true
  | _ :: _, [] => false
  | x :: xs, y :: ys => if x = y then lexLt xs ys else decide (x < y)
section
open PySem.SeqAt
open PySem.AutoSeq1 (wpAny_loadPart')
open PySem.MeetsSeq PySem.MeetsSeq2 PySem.MeetsSeq3

end

section
variable {prog : Program} {w : World} {A : Around} {E : Value → Shared → Prop} {s : Shared}

/-- t + u, t not empty -/
theorem cat_tup {t b : Addr} {vs ws : List Value} {Q : Value → Shared → Prop} (ht : IsTup s.heap t vs.toArray) (hb : IsTup s.heap b ws.toArray) (hv : vs ≠ [])
    (h1 : ws = [] → Q (.ref t) s) (h2 : ws ≠ [] → Q (.ref s.heap.objs.size) { s with heap := s.heap.push { cls := .type "tuple", data := .seq (vs ++ ws).toArray } })
    (hsz : vs.length + ws.length ≤ sizeLine) : wpAny (model prog w) A (binaryOp .Add (.ref t) (.ref b)) Q E s := by
  obtain ⟨⟨cls, dd, data, sl⟩, ho, hc, n, hd⟩ := id ht
  obtain ⟨⟨cls2, dd2, data2, sl2⟩, ho2, hc2, n2, hd2⟩ := id hb
  simp only at hc hd hc2 hd2
  subst hc hd hc2 hd2
  have e : vs.toArray ++ ws.toArray = (vs ++ ws).toArray := by simp
  by_cases hw : ws = []
  · exact concat_meets ⟨_, ho, rfl⟩ ⟨_, ho2, rfl⟩ noFill_tuple_add seq_tuple_add PySem.F.slot_tuple_add PySem.F.entry_tuple_add (PySem.F.args_tuple_add_2 _ _)
      (tuple_addW1 t b vs.toArray ws.toArray n n2 dd dd2 sl sl2 (by simpa using hv) (by simp [hw])) ⟨ho, ho2, h1 hw⟩
  · refine concat_meets ⟨_, ho, rfl⟩ ⟨_, ho2, rfl⟩ noFill_tuple_add seq_tuple_add PySem.F.slot_tuple_add PySem.F.entry_tuple_add (PySem.F.args_tuple_add_2 _ _)
      (tuple_addW2 t b vs.toArray ws.toArray n n2 dd dd2 sl sl2 (by simpa using hv) (by simpa using hw) (by rw [List.size_toArray, List.size_toArray]; exact hsz)) ⟨ho, ho2, ?_⟩
    rw [e]
    exact h2 hw

/-! ### t[a:b], not the whole -/
/-- a slice's bound as a place among n (d where it is left out) -/
def sIx (n d : Nat) : Option Int → Nat
  | none => d
  | some v => if v < 0 then (v + (n : Int)).toNat else min v.toNat n
theorem sIx_none (n d : Nat) : sIx n d none = d := rfl
theorem sIx_nat (n d k : Nat) : sIx n d (some (k : Int)) = min k n := by
  show (if (k : Int) < 0 then ((k : Int) + (n : Int)).toNat else min (k : Int).toNat n) = min k n
  rw [if_neg (by omega), Int.toNat_natCast]
theorem sIx_le (n d : Nat) (hd : d ≤ n) (o : Option Int) : sIx n d o ≤ n := by
  cases o with
  | none => exact hd
  | some v =>
    show (if v < 0 then (v + (n : Int)).toNat else min v.toNat n) ≤ n
    by_cases hv : v < 0
    · rw [if_pos hv]; omega
    · rw [if_neg hv]; exact Nat.min_le_right _ _
theorem clip_eq (v : Int) (n d : Nat) : (if v < 0 then max (v + (n : Int)) 0 else min v (n : Int)) = ((sIx n d (some v) : Nat) : Int) := by
  show (if v < 0 then max (v + (n : Int)) 0 else min v (n : Int)) = (((if v < 0 then (v + (n : Int)).toNat else min v.toNat n) : Nat) : Int)
  by_cases hv : v < 0
  · simp only [if_pos hv]; omega
  · simp only [if_neg hv]; omega
theorem adjust_gen (lo hi : Option Int) (n : Nat) : Builtin.Slice.sliceAdjust lo hi 1 (n : Int) = (((sIx n 0 lo : Nat) : Int), ((sIx n n hi : Nat) : Int)) := by
  have h1 : ¬ ((1 : Int) < 0) := by omega
  unfold Builtin.Slice.sliceAdjust
  simp only [h1, if_false]
  refine Prod.ext ?_ ?_
  · cases lo with
    | none => rfl
    | some v => exact clip_eq v n 0
  · cases hi with
    | none => rfl
    | some v => exact clip_eq v n n
theorem places_gen (i j : Nat) : Builtin.Slice.slicePlaces (i : Int) (j : Int) 1 = j - i := by
  unfold Builtin.Slice.slicePlaces
  have h1 : (1 : Int) > 0 := by omega
  simp only [h1, if_true, Int.ediv_one]
  split <;> omega
theorem slicePart_ {v : Value} {o : Option Int} {Q : Option Int → Shared → Prop} (p : IsPart v o) (h : Q o s) : wpAny (model prog w) A (Builtin.Slice.slicePartIndex v) Q E s := by
  cases p with
  | none => exact slicePart_none h
  | int i t => exact slicePart_int h
theorem sliceApplied_gen {sl : Addr} {vl vu : Value} {lo hi : Option Int} {n : Nat} {Q : Int × Int × Nat → Shared → Prop} (hs : s.heap.IsSliceOf sl vl vu .none) (pl : IsPart vl lo) (pu : IsPart vu hi)
    (h : Q (((sIx n 0 lo : Nat) : Int), 1, sIx n n hi - sIx n 0 lo) s) : wpAny (model prog w) A (Builtin.Slice.sliceApplied (.ref sl) (pure (n : Int))) Q E s := by
  obtain ⟨os, hos, hcs, hds⟩ := id hs
  unfold Builtin.Slice.sliceApplied Builtin.Slice.sliceFields
  refine wpAny_bind (wpAny_bind (wpAny_field hos hds (x := vl) rfl (wpAny_bind (wpAny_field hos hds (x := vu) rfl (wpAny_bind (wpAny_field hos hds (x := .none) rfl (wpAny_pure ?_)))))))
  refine wpAny_bind (slicePart_none ?_)
  show wpAny _ _ (if ((1 : Int) == 0) = true then _ else _) _ _ s
  rw [if_neg (by decide)]
  refine wpAny_bind (slicePart_ pl (wpAny_bind (slicePart_ pu (wpAny_bind (wpAny_pure ?_)))))
  show wpAny _ _ (match Builtin.Slice.sliceAdjust lo hi 1 (n : Int) with | (lo, hi) => pure (lo, (1 : Int), Builtin.Slice.slicePlaces lo hi 1)) _ _ s
  rw [adjust_gen lo hi n]
  show wpAny _ _ (pure (((sIx n 0 lo : Nat) : Int), (1 : Int), Builtin.Slice.slicePlaces ((sIx n 0 lo : Nat) : Int) ((sIx n n hi : Nat) : Int) 1)) _ _ s
  rw [places_gen]
  exact wpAny_pure h
theorem pick_gen (xs : Array Value) (i k : Nat) : ((List.range k).filterMap fun (m : Nat) => xs[((i : Int) + (m : Int) * 1).toNat]?).toArray = ((xs.toList.drop i).take k).toArray := by
  have e : (fun (m : Nat) => xs[((i : Int) + (m : Int) * 1).toNat]?) = fun m => xs[i + m]? := by
    funext m
    have : ((i : Int) + (m : Int) * 1).toNat = i + m := by omega
    rw [this]
  rw [e]
  have := pick_run xs i k
  rw [List.filterMap_map] at this
  have e2 : ((fun x => xs[x]?) ∘ fun x => i + x) = fun m => xs[i + m]? := rfl
  rw [e2] at this
  rw [this]

theorem getItem_tuple_cut {t sl : Addr} {items : Array Value} {vl vu : Value} {lo hi : Option Int} {Q : Value → Shared → Prop} (ht : IsTup s.heap t items) (hs : s.heap.IsSliceOf sl vl vu .none) (pl : IsPart vl lo) (pu : IsPart vu hi)
    (hw : ¬ (sIx items.size 0 lo = 0 ∧ sIx items.size items.size hi = items.size))
    (h : Q (.ref s.heap.objs.size) { s with heap := s.heap.push { cls := .type "tuple", data := .seq ((items.toList.drop (sIx items.size 0 lo)).take (sIx items.size items.size hi - sIx items.size 0 lo)).toArray } })
    (hsz : items.size ≤ sizeLine) : wpAny (model prog w) A (getItem (.ref t) (.ref sl)) Q E s := by
  have htake : sizeOk (.seq ((items.toList.drop (sIx items.size 0 lo)).take (sIx items.size items.size hi - sIx items.size 0 lo)).toArray) := by
    show ((items.toList.drop (sIx items.size 0 lo)).take (sIx items.size items.size hi - sIx items.size 0 lo)).toArray.size ≤ sizeLine
    rw [List.size_toArray, List.length_take, List.length_drop, Array.length_toList]
    omega
  have hj : sIx items.size items.size hi ≤ items.size := sIx_le _ _ (Nat.le_refl _) hi
  obtain ⟨os, hos, hcs, hds⟩ := id hs
  have hTs : s.TypeIs (.ref sl) "slice" := ⟨os, hos, hcs⟩
  unfold getItem
  try with_reducible refine wpAny_holding ?_
  first | refine wpAny_bind (wpAny_pure ?_) | skip
  refine wpAny_bind (wpAny_sequenceKey ht.typeIs (by decide) ?_)
  refine wpAny_bind (wpAny_callSpecial?_slot (name := Str.ofString "__getitem__") ht.typeIs PyProof.Rows.slot_tuple_getitem
    (wpAny_call_entry PyProof.Rows.slot_tuple_getitem ht.typeIs entry_tuple_getitem ?_ (args_tuple_getitem _ _)))
  show wpAny _ _ (Builtin.Tuple.tupleItemsOf (.ref t) >>= _) _ _ s
  refine wpAny_bind (tupleItemsOf_ ht ?_)
  refine wpAny_bind (wpAny_typeOf hTs ?_)
  rw [if_pos (by decide)]
  refine wpAny_bind (sliceApplied_gen hs pl pu ?_)
  have hno : ¬ ((((sIx items.size 0 lo : Nat) : Int) == 0 && (1 : Int) == 1 && (sIx items.size items.size hi - sIx items.size 0 lo) == items.size) = true) := by
    intro q
    rw [Bool.and_eq_true, Bool.and_eq_true] at q
    have q1 : ((sIx items.size 0 lo : Nat) : Int) = 0 := eq_of_beq q.1.1
    have q2 : sIx items.size items.size hi - sIx items.size 0 lo = items.size := eq_of_beq q.2
    exact hw ⟨by omega, by omega⟩
  show wpAny _ _ (if (((sIx items.size 0 lo : Nat) : Int) == 0 && (1 : Int) == 1 && (sIx items.size items.size hi - sIx items.size 0 lo) == items.size) = true then _ else _) _ _ s
  rw [if_neg hno, pick_gen]
  first
    | exact wpAny_bind (m := Builtin.Tuple.tupleExact _) (wpAny_newObj_type (wpAny_pure ⟨_, rfl, wpAny_pure h⟩) htake)
    | exact wpAny_bind (m := Builtin.Tuple.tupleExact _) (wpAny_newObj_type (wpAny_bind (wpAny_pure (wpAny_pure ⟨_, rfl, wpAny_pure h⟩))) htake)
    | exact wpAny_bind (wpAny_bind (m := Builtin.Tuple.tupleExact _) (wpAny_newObj_type (wpAny_pure (wpAny_pure ⟨_, rfl, wpAny_pure h⟩)) htake))
    | exact wpAny_bind (wpAny_bind (m := Builtin.Tuple.tupleExact _) (wpAny_newObj_type (wpAny_pure ⟨_, rfl, wpAny_pure h⟩) htake))
end
end HT

namespace L2
open PySem PySem.Spec PyProof.Rows

/-! ### the parts of a slice -/
abbrev TO := St → Hp → (Option Int → Hp → Prop) → Prop
/-- a slice's part (left out, or an int) -/
def PO (X : Cx) (e : Option Expr) (t : TO) : Prop :=
  ∀ (pins : List (Addr × Obj)) (s : Shared) (σ : St) (H : Hp) (Q : Option Int → Hp → Prop), Inv X pins σ H s → t σ H Q →
    wpAny (model X.prog X.w) X.A (evalPart e X.env) (fun u s' => ∃ o H', Inv X pins σ H' s' ∧ IsPart u o ∧ Q o H') X.xe s
def tNoPart : TO := fun _ H Q => Q none H
def tPart (t : TE) : TO := fun σ H Q => t σ H fun x H1 => ∃ i, x = .int i ∧ Q (some i) H1

section
variable {X : Cx} {e : Expr} {te : TE} {lo hi : Option Expr} {tl th : TO} {pos p2 : Pos}

theorem po_none : PO X none tNoPart := by
  intro pins s σ H Q I h
  rw [evalPart_none]
  exact wpAny_pure ⟨none, H, I, .none, h⟩
theorem po_some (h : PE X e te) : PO X (some e) (tPart te) := by
  intro pins s σ H Q I hw
  rw [evalPart_some]
  refine thn (h pins s σ H _ I hw) fun u s1 ⟨x, H1, I1, r1, q1⟩ => ?_
  obtain ⟨i, rfl, q⟩ := q1
  obtain ⟨t, rfl⟩ := r1
  exact ⟨some i, H1, I1, .int i t, q⟩

/-- what a slice of a value is, by values: the slice object stands at sl -/
def SlR (X : Cx) (r : V → Option Int → Option Int → Hp → VK → Prop) : Prop :=
  ∀ (pins : List (Addr × Obj)) (s : Shared) (σ : St) (H : Hp) (x : V) (v vl vu : Value) (lo hi : Option Int) (sl : Addr) (Q : VK), Inv X pins σ H s → RelV x v → s.heap.IsSliceOf sl vl vu .none → IsPart vl lo → IsPart vu hi → r x lo hi H Q →
    ∃ T id, typeLookup (.type T) "__getitem__" = pure (some (.builtin id)) ∧ s.TypeIs v T ∧ wpAny (model X.prog X.w) X.A (getItem v (.ref sl)) (EP X pins σ Q) X.xe s
theorem SlR.or {r r' : V → Option Int → Option Int → Hp → VK → Prop} (h : SlR X r) (h' : SlR X r') : SlR X (fun x lo hi H Q => r x lo hi H Q ∨ r' x lo hi H Q) := by
  intro pins s σ H x v vl vu lo hi sl Q I rx hs pl pu q
  rcases q with q | q
  · exact h pins s σ H x v vl vu lo hi sl Q I rx hs pl pu q
  · exact h' pins s σ H x v vl vu lo hi sl Q I rx hs pl pu q
def tSl (r : V → Option Int → Option Int → Hp → VK → Prop) (te : TE) (tl th : TO) : TE := fun σ H Q => te σ H fun x H1 => tl σ H1 fun l H2 => th σ H2 fun u H3 => r x l u H3 Q
/-- a[lo:hi], any a -/
theorem pe_slice {r : V → Option Int → Option Int → Hp → VK → Prop} (hr : SlR X r) (he : PE X e te) (hl : PO X lo tl) (hu : PO X hi th) : PE X (.Subscript e (.Slice lo hi none p2) pos) (tSl r te tl th) := by
  intro pins s σ H Q I h
  refine Subscript_ (thn (he pins s σ H _ I h) fun v s1 ⟨x, H1, I1, r1, q1⟩ => ?_)
  refine wpAny_Slice (thn (hl pins s1 σ H1 _ I1 q1) fun vl s2 ⟨l, H2, I2, pl, q2⟩ => thn (hu pins s2 σ H2 _ I2 q2) fun vu s3 ⟨u, H3, I3, pu, q3⟩ => ?_)
  rw [evalPart_none]
  refine wpAny_pure ?_
  have I4 : Inv X pins σ H3 { s3 with heap := s3.heap.push { cls := .type "slice", data := .fields #[vl, vu, .none] } } := I3.kept (t' := s3.toks) fun b ob q => Heap.get?_push_of_some _ q
  obtain ⟨T, id, hT, ht, hg⟩ := hr pins { s3 with heap := s3.heap.push { cls := .type "slice", data := .fields #[vl, vu, .none] } } σ H3 x v vl vu l u s3.heap.objs.size Q I4 r1 (Heap.IsSliceOf.new ..) pl pu q3
  show wpAny (model X.prog X.w) X.A (subscriptTail e (.Slice lo hi none p2) v (.ref s3.heap.objs.size)) (EP X pins σ Q) X.xe { s3 with heap := s3.heap.push { cls := .type "slice", data := .fields #[vl, vu, .none] } }
  exact tail_any (ops := [.ref s3.heap.objs.size, v]) ht hT hg (by with_unfolding_all rfl)

/-- the items of xs[lo:hi] -/
def cutV (xs : List V) (lo hi : Option Int) : List V := (xs.drop (HT.sIx xs.length 0 lo)).take (HT.sIx xs.length xs.length hi - HT.sIx xs.length 0 lo)
theorem cutV_length (xs : List V) (lo hi : Option Int) : (cutV xs lo hi).length ≤ xs.length := by
  unfold cutV
  rw [List.length_take, List.length_drop]
  omega
/-- t[lo:hi], not the whole of it (the whole would be t itself) -/
def rSlT (K : PySem.W.Frag) : V → Option Int → Option Int → Hp → VK → Prop := fun x lo hi H Q => ∃ a xs, x = .ref a ∧ SqT K H a xs ∧
  ¬ (HT.sIx xs.length 0 lo = 0 ∧ HT.sIx xs.length xs.length hi = xs.length) ∧ ∀ p, H p = none → Q (.ref p) (upd H p (.tup (cutV xs lo hi)))
theorem sl_tup : SlR X (rSlT X.K) := by
  intro pins s σ H x v vl vu lo hi sl Q I rx hs pl pu h
  obtain ⟨a, xs, rfl, hx, hw, q⟩ := h
  cases rx
  obtain ⟨its, r, ht, hz⟩ := I.tuple hx
  have hlen : its.toArray.size = xs.length := by rw [List.size_toArray]; exact r.length.symm
  refine ⟨"tuple", _, PyProof.Rows.slot_tuple_getitem.lookup, ht.typeIs, ?_⟩
  refine HT.getItem_tuple_cut ht hs pl pu (by rw [hlen]; exact hw) ?_ (by rw [hlen]; exact hz)
  rw [hlen]
  refine ⟨.ref s.heap.objs.size, _, I.laid (t' := s.toks) (o := .tup (cutV xs lo hi)) (fun b ob q => Heap.get?_push_of_some _ q) (Nat.le_refl _) ?_, rfl, q _ (I.hok.fresh (Nat.le_refl _))⟩
  exact ⟨Nat.le_trans (cutV_length xs lo hi) hz, _, (r.drop (HT.sIx xs.length 0 lo)).take (HT.sIx xs.length xs.length hi - HT.sIx xs.length 0 lo), IsTup.new _ _⟩

/-! ### t < u, t + u -/
def rLtT (K : PySem.W.Frag) : R2 := fun x y H Q => ∃ a b ns ms, x = .ref a ∧ y = .ref b ∧ SqT K H a (ns.map V.int) ∧ SqT K H b (ms.map V.int) ∧ Q (.bl (HT.lexLt ns ms)) H
/-- t + u, t not empty: u empty gives t itself -/
def rCatT (K : PySem.W.Frag) : R2 := fun x y H Q => ∃ a b xs ys, x = .ref a ∧ y = .ref b ∧ SqT K H a xs ∧ SqT K H b ys ∧ xs ≠ [] ∧ xs.length + ys.length ≤ sizeLine ∧
  (ys = [] → Q (.ref a) H) ∧ (ys ≠ [] → ∀ p, H p = none → Q (.ref p) (upd H p (.tup (xs ++ ys))))
theorem Vals.nil_iff {xs : List V} {us : List Value} (r : Vals xs us) : us = [] ↔ xs = [] := by
  cases r with
  | nil => simp
  | cons _ _ => simp
theorem op_catT : OpR X (binaryOp .Add) (rCatT X.K) := by
  intro pins s σ H x y v u Q I rx ry h
  obtain ⟨a, b, xs, ys, rfl, rfl, ha, hb, hx, hz, q1, q2⟩ := h
  cases rx
  cases ry
  obtain ⟨its, r1, p1, _⟩ := I.tuple ha
  obtain ⟨its2, r2, p2, _⟩ := I.tuple hb
  refine HT.cat_tup p1 p2 (fun z => hx (r1.nil_iff.mp z)) (fun z => ⟨.ref a, H, I, rfl, q1 (r2.nil_iff.mp z)⟩) (fun z => ?_) (by rw [← r1.length, ← r2.length]; exact hz)
  refine ⟨.ref s.heap.objs.size, _, I.laid (t' := s.toks) (o := .tup (xs ++ ys)) (fun b ob q => Heap.get?_push_of_some _ q) (Nat.le_refl _) ?_, rfl, q2 (fun w => z (r2.nil_iff.mpr w)) _ (I.hok.fresh (Nat.le_refl _))⟩
  exact ⟨by rw [List.length_append]; exact hz, _, r1.append r2, IsTup.new _ _⟩
end
end L2

namespace L2
open PySem PySem.Spec PyProof.Rows

/-! ### places -/
/-- the place that an index of any sign means -/
def ixN (n : Nat) (i : Int) : Option Nat := if 0 ≤ i then (if i < n then some i.toNat else none) else if -(n : Int) ≤ i then some (i + n).toNat else none
def atI {α : Type} (xs : List α) (i : Int) : Option α := (ixN xs.length i).bind fun j => xs[j]?
theorem ixN_seq {n : Nat} {i : Int} {j : Nat} (h : ixN n i = some j) : seqIndex? i n = some j ∧ j < n ∧ -(n : Int) ≤ i ∧ i < n := by
  unfold ixN at h
  by_cases h0 : 0 ≤ i
  · rw [if_pos h0] at h
    by_cases h1 : i < n
    · rw [if_pos h1] at h
      have e : i.toNat = j := Option.some.inj h
      exact ⟨by rw [seqIndex_of h0 h1, e], by omega, by omega, h1⟩
    · rw [if_neg h1] at h; cases h
  · rw [if_neg h0] at h
    by_cases h1 : -(n : Int) ≤ i
    · rw [if_pos h1] at h
      have e : (i + n).toNat = j := Option.some.inj h
      exact ⟨by rw [seqIndex_neg (by omega) h1, e], by omega, h1, by omega⟩
    · rw [if_neg h1] at h; cases h
theorem atI_get {α : Type} {xs : List α} {i : Int} {v : α} (h : atI xs i = some v) : ∃ j, seqIndex? i xs.length = some j ∧ xs[j]? = some v ∧ j < xs.length ∧ -(xs.length : Int) ≤ i ∧ i < xs.length := by
  unfold atI at h
  cases e : ixN xs.length i with
  | none => rw [e] at h; cases h
  | some j =>
    rw [e] at h
    obtain ⟨h1, h2, h3, h4⟩ := ixN_seq e
    exact ⟨j, h1, h, h2, h3, h4⟩
theorem atI_nat {α : Type} {xs : List α} {j : Nat} {v : α} (h : xs[j]? = some v) : atI xs (j : Int) = some v := by
  have hj : j < xs.length := (List.getElem?_eq_some_iff.mp h).1
  have e : ixN xs.length (j : Int) = some j := by
    unfold ixN
    rw [if_pos (by omega), if_pos (by omega)]; simp
  unfold atI; rw [e]; exact h
/-! ### what may be subscripted -/
/-- what stands as an index of a plain subscript -/
def PlainIx (b : Expr) : Prop := ∀ o i, subscripted b false o i = operate [o, i] (getItem o i)
/-- a subscript by values -/
def IxR (X : Cx) (r : R2) : Prop :=
  ∀ (value slice : Expr) (pins : List (Addr × Obj)) (s : Shared) (σ : St) (H : Hp) (x y : V) (v u : Value) (Q : VK), Inv X pins σ H s → RelV x v → RelV y u → r x y H Q →
    subscripted slice false v u = operate [v, u] (getItem v u) → wpAny (model X.prog X.w) X.A (subscriptTail value slice v u) (EP X pins σ Q) X.xe s
/-- a call of a builtin's method by values: the receiver, the arguments -/
def MtR (X : Cx) (id : String) (r : V → List V → Hp → VK → Prop) : Prop :=
  ∀ (pins : List (Addr × Obj)) (s : Shared) (σ : St) (H : Hp) (x : V) (xs : List V) (v : Value) (us : List Value) (Q : VK), Inv X pins σ H s → RelV x v → Vals xs us → r x xs H Q →
    wpAny (model X.prog X.w) X.A (call (.builtin id) (v :: us)) (EP X pins σ Q) X.xe s
section
variable {X : Cx} {a b : Expr} {ta tb : TE} {pos : Pos}
theorem IxR.or {r r' : R2} (h : IxR X r) (h' : IxR X r') : IxR X (fun x y H Q => r x y H Q ∨ r' x y H Q) := by
  intro value slice pins s σ H x y v u Q I rx ry q hs
  rcases q with q | q
  · exact h value slice pins s σ H x y v u Q I rx ry q hs
  · exact h' value slice pins s σ H x y v u Q I rx ry q hs
theorem MtR.or {id : String} {r r' : V → List V → Hp → VK → Prop} (h : MtR X id r) (h' : MtR X id r') : MtR X id (fun x xs H Q => r x xs H Q ∨ r' x xs H Q) := by
  intro pins s σ H x xs v us Q I rx rs q
  rcases q with q | q
  · exact h pins s σ H x xs v us Q I rx rs q
  · exact h' pins s σ H x xs v us Q I rx rs q
/-- a[b] -/
theorem pe_ix {r : R2} (hr : IxR X r) (ha : PE X a ta) (hb : PE X b tb) (hs : PlainIx b) : PE X (.Subscript a b pos) (tOp r ta tb) := by
  intro pins s σ H Q I h
  exact Subscript_ (binT ha hb I h fun v u s2 x y H2 I2 rx ry q => hr a b pins s2 σ H2 x y v u Q I2 rx ry q (hs _ _))

def rIxL (K : PySem.W.Frag) : R2 := fun x y H Q => ∃ p xs i v, x = .ref p ∧ y = .int i ∧ SqL K H p xs ∧ atI xs i = some v ∧ Q v H
def rIxT (K : PySem.W.Frag) : R2 := fun x y H Q => ∃ p xs i v, x = .ref p ∧ y = .int i ∧ SqT K H p xs ∧ atI xs i = some v ∧ Q v H
def rIxS : R2 := fun x y H Q => ∃ z i c, x = .str z ∧ y = .int i ∧ z.length ≤ sizeLine ∧ atI z.cps.toList i = some c ∧ Q (.str ⟨#[c]⟩) H
theorem ix_list : IxR X (rIxL X.K) := by
  intro value slice pins s σ H x y v u Q I rx ry h hs
  obtain ⟨p, xs, i, z, rfl, rfl, hq, he, q⟩ := h
  cases rx
  obtain ⟨t, rfl⟩ := ry
  obtain ⟨its, r, pl, hz⟩ := I.list hq
  obtain ⟨j, h1, h2, h3, h4, h5⟩ := atI_get he
  obtain ⟨w, ew, rw'⟩ := r.get h2
  have hl := r.length
  have hn := line63
  have fin : EP X pins σ Q w s := ⟨z, H, I, rw', q⟩
  by_cases h0 : 0 ≤ i
  · have hj : i.toNat = j := by
      rw [seqIndex_of h0 h5] at h1
      exact Option.some.inj h1
    exact item_listR pl.isList h0 (by omega) (by rw [hj]; simpa using ew) fin hs
  · have hj : (i + (its.toArray.size : Int)).toNat = j := by
      rw [seqIndex_neg (by omega) h4] at h1
      rw [List.size_toArray, ← hl]
      exact Option.some.inj h1
    exact subscriptTail_builtinR (x := w) pl.isList.typeIs slot_list_getitem.lookup
      (wpAny_getItem_list_neg (Q := fun r s' => r = w ∧ EP X pins σ Q r s') pl.isList (by omega) (by rw [List.size_toArray] <;> omega) (by omega) (by rw [hj]; simpa using ew) ⟨rfl, fin⟩) hs
theorem ix_tup : IxR X (rIxT X.K) := by
  intro value slice pins s σ H x y v u Q I rx ry h hs
  obtain ⟨p, xs, i, z, rfl, rfl, hq, he, q⟩ := h
  cases rx
  obtain ⟨t, rfl⟩ := ry
  obtain ⟨its, r, pl, hz⟩ := I.tuple hq
  obtain ⟨j, h1, h2, h3, h4, h5⟩ := atI_get he
  obtain ⟨w, ew, rw'⟩ := r.get h2
  have hl := r.length
  have hn := line63
  have fin : EP X pins σ Q w s := ⟨z, H, I, rw', q⟩
  exact subscriptTail_builtinR (x := w) pl.typeIs slot_tuple_getitem.lookup
    (getItem_tuple (j := j) (Q := fun r s' => r = w ∧ EP X pins σ Q r s') pl (by omega) (by omega) (by rw [List.size_toArray, ← hl]; exact h1) (by simpa using ew) ⟨rfl, fin⟩) hs
theorem ix_str : IxR X rIxS := by
  intro value slice pins s σ H x y v u Q I rx ry h hs
  obtain ⟨z, i, c, rfl, rfl, hz, he, q⟩ := h
  obtain ⟨t, rfl⟩ := rx
  obtain ⟨t', rfl⟩ := ry
  obtain ⟨j, h1, h2, h3, h4, h5⟩ := atI_get he
  have hl : z.cps.toList.length = z.length := by simp [Str.length]
  rw [hl] at h1 h4 h5
  have hn := line63
  exact tail_any (typeIs_str s z t) slot_str_getitem.lookup (getItem_str (c := c) (by
    have e1 : decide (i < -(2 ^ 63 : Int)) = false := decide_eq_false (by omega)
    have e2 : decide (i ≥ 2 ^ 63) = false := decide_eq_false (by omega)
    rw [e1, e2, Bool.or_false]) (by rw [h1]; simpa using h2) ⟨.str ⟨#[c]⟩, H, I.tok _, ⟨_, rfl⟩, q⟩) hs
/-- list, tuple or str -/
def rIx (K : PySem.W.Frag) : R2 := fun x y H Q => rIxL K x y H Q ∨ rIxT K x y H Q ∨ rIxS x y H Q
/-! ### xs[i] = v, any sign -/
/-- the list's object behind a store -/
theorem mapSeq_set (its : List Value) (n j : Nat) (u : Value) : Obj.mapSeq (·.setIfInBounds j u) { cls := .type "list", data := .seq its.toArray n } = { cls := .type "list", data := .seq (its.set j u).toArray n } := by
  simp [Obj.mapSeq]
theorem Inv.lst {pins : List (Addr × Obj)} {σ : St} {H : Hp} {s : Shared} {p : Addr} {xs : List V} (I : Inv X pins σ H s) (h : H p = some (.lst xs)) :
    ∃ (its : List Value) (n : Nat), Vals xs its ∧ s.heap.get? p = some { cls := .type "list", data := .seq its.toArray n } ∧ xs.length ≤ sizeLine := by
  obtain ⟨z, its, n, r, e⟩ := I.hok p _ h
  exact ⟨its, n, r, e, z⟩
/-- the list at p is written by an update of its object -/
theorem Inv.lstUpd {pins : List (Addr × Obj)} {σ : St} {H : Hp} {s : Shared} {p : Addr} {xs ys : List V} {its its' : List Value} {n n' : Nat} {f : Obj → Obj} (I : Inv X pins σ H s) (h : H p = some (.lst xs))
    (ho : s.heap.get? p = some { cls := .type "list", data := .seq its.toArray n }) (hf : f { cls := .type "list", data := .seq its.toArray n } = { cls := .type "list", data := .seq its'.toArray n' }) (r : Vals ys its') (hz : ys.length ≤ sizeLine) (t : Nat) :
    Inv X pins σ (upd H p (.lst ys)) { s with heap := s.heap.update p f, toks := t } := by
  have e : (s.heap.update p f).get? p = some { cls := .type "list", data := .seq its'.toArray n' } := by
    rw [Heap.get?_update_self f ho (by rw [hf] <;> rfl), hf]
  refine I.write (x := p) (e := p) (by rw [h]; trivial) (.inl rfl) (fun b u hb q => (Heap.get?_update_other _ _ (Ne.symm hb)).trans q) ⟨_, e⟩ ?_
  exact ⟨hz, its', n', r, e⟩
def rSetL : V → V → V → Hp → (Hp → Prop) → Prop := fun o i v H Q => ∃ p xs k j, o = .ref p ∧ i = .int k ∧ H p = some (.lst xs) ∧ ixN xs.length k = some j ∧ Q (upd H p (.lst (xs.set j v)))
theorem set_list : PSet X rSetL := by
  intro pins s σ H o i v ov iv u Q I ro ri rv h
  obtain ⟨p, xs, k, j, rfl, rfl, hp, hj, q⟩ := h
  cases ro
  obtain ⟨t, rfl⟩ := ri
  obtain ⟨its, n, r, ho, hz⟩ := I.lst hp
  obtain ⟨h1, h2, h3, h4⟩ := ixN_seq hj
  have hl := r.length
  have hn := line63
  have I' : Inv X pins σ (upd H p (.lst (xs.set j v))) { s with heap := s.heap.update p (Obj.mapSeq (·.setIfInBounds j u)) } :=
    I.lstUpd hp ho (mapSeq_set its n j u) (r.set rv j) (by rw [List.length_set]; exact hz) s.toks
  by_cases h0 : 0 ≤ k
  · have hk : k.toNat = j := by
      rw [seqIndex_of h0 h4] at h1
      exact Option.some.inj h1
    exact PySem.W.ki_setAt ho h0 (by omega) (by rw [List.size_toArray, ← hl]; exact h4) (by rw [hk]; exact ⟨_, I', q⟩)
  · have hk : (k + (its.toArray.size : Int)).toNat = j := by
      rw [seqIndex_neg (by omega) h3] at h1
      rw [List.size_toArray, ← hl]
      exact Option.some.inj h1
    exact PySem.W.ki_setBack ho (by omega) (by rw [List.size_toArray, ← hl]; exact h3) (by omega) (by rw [hk]; exact ⟨_, I', q⟩)

/-! ### slices -/
theorem slice_bounds (lo hi : Option Int) (n : Nat) : (sliceBounds lo hi none n).1 = ((HT.sIx n 0 lo : Nat) : Int) ∧ (sliceBounds lo hi none n).2.1 = ((HT.sIx n n hi : Nat) : Int) ∧ (sliceBounds lo hi none n).2.2 = 1 := by
  refine ⟨?_, ?_, rfl⟩
  · cases lo with
    | none => simp [sliceBounds, HT.sIx]
    | some i =>
      simp only [sliceBounds, HT.sIx, Option.getD_none, show (1 : Int) > 0 by decide, if_true]
      by_cases h : i < 0
      · simp only [h, if_true] <;> omega
      · simp only [h, if_false] <;> omega
  · cases hi with
    | none => simp [sliceBounds, HT.sIx]
    | some i =>
      simp only [sliceBounds, HT.sIx, Option.getD_none, show (1 : Int) > 0 by decide, if_true]
      by_cases h : i < 0
      · simp only [h, if_true] <;> omega
      · simp only [h, if_false] <;> omega
theorem slicePick_cut (its : List Value) (lo hi : Option Int) : slicePick its.toArray lo hi none = ((its.drop (HT.sIx its.length 0 lo)).take (HT.sIx its.length its.length hi - HT.sIx its.length 0 lo)).toArray := by
  obtain ⟨h1, h2, h3⟩ := slice_bounds lo hi its.toArray.size
  unfold slicePick
  rw [h1, h2, h3]
  simp only [sliceRange_one, pick_run, List.size_toArray] <;> rfl
/-- xs[lo:hi] of a list: a new list -/
def rSlL (K : PySem.W.Frag) : V → Option Int → Option Int → Hp → VK → Prop := fun x lo hi H Q => ∃ a xs, x = .ref a ∧ SqL K H a xs ∧ ∀ p, H p = none → Q (.ref p) (upd H p (.lst (cutV xs lo hi)))
theorem sl_list : SlR X (rSlL X.K) := by
  intro pins s σ H x v vl vu lo hi sl Q I rx hs pl pu h
  obtain ⟨a, xs, rfl, hx, q⟩ := h
  cases rx
  obtain ⟨its, r, ht, hz⟩ := I.list hx
  have hlen := r.length
  refine ⟨"list", _, slot_list_getitem.lookup, ht.isList.typeIs, ?_⟩
  refine wpAny_getItem_list_slice ht.isList hs pl pu .none (by simp) ?_ (by rw [List.size_toArray] <;> omega)
  rw [slicePick_cut, ← hlen]
  refine ⟨.ref s.heap.objs.size, _, I.laid (t' := s.toks) (o := .lst (cutV xs lo hi)) (fun b ob q => Heap.get?_push_of_some _ q) (Nat.le_refl _) ?_, rfl, q _ (I.hok.fresh (Nat.le_refl _))⟩
  exact ⟨Nat.le_trans (cutV_length xs lo hi) hz, _, 0, (r.drop (HT.sIx xs.length 0 lo)).take (HT.sIx xs.length xs.length hi - HT.sIx xs.length 0 lo), Heap.get?_push_size _ rfl⟩

/-! ### in, not in: flat items -/
def flatV : V → Bool
  | .non => true
  | .bl _ => true
  | .int _ => true
  | .str _ => true
  | _ => false
/-- == of flat values -/
def eqV : V → V → Bool
  | .non, .non => true
  | .bl a, .bl b => a == b
  | .bl a, .int b => (if a then 1 else 0) == b
  | .int a, .bl b => a == (if b then 1 else 0)
  | .int a, .int b => a == b
  | .str a, .str b => a == b
  | _, _ => false
theorem eqAt_V {A : Around} {s : Shared} {y x : V} {u v : Value} (ry : RelV y u) (rx : RelV x v) (fy : flatV y = true) (fx : flatV x = true) : SeqAt.EqAt A s u v (eqV y x) := by
  cases y with
  | non =>
    cases ry
    cases x with
    | non => cases rx; exact SeqAt.EqAt.same _
    | bl b => cases rx; exact SeqAt.EqAt.none_bool b
    | int b => obtain ⟨t, rfl⟩ := rx; exact SeqAt.EqAt.none_int b t
    | str b => obtain ⟨t, rfl⟩ := rx; exact SeqAt.EqAt.none_str b t
    | _ => exact absurd (show false = true from fx) Bool.false_ne_true
  | bl a =>
    cases ry
    cases x with
    | non => cases rx; exact SeqAt.EqAt.bool_none a
    | bl b => cases rx; exact SeqAt.EqAt.bool_bool a b
    | int b => obtain ⟨t, rfl⟩ := rx; exact SeqAt.EqAt.bool_int a b t
    | str b => obtain ⟨t, rfl⟩ := rx; exact SeqAt.EqAt.bool_str a b t
    | _ => exact absurd (show false = true from fx) Bool.false_ne_true
  | int a =>
    obtain ⟨t', rfl⟩ := ry
    cases x with
    | non => cases rx; exact SeqAt.EqAt.int_none a t'
    | bl b => cases rx; exact SeqAt.EqAt.int_bool a t' b
    | int b => obtain ⟨t, rfl⟩ := rx; exact SeqAt.EqAt.int_int a t' b t
    | str b => obtain ⟨t, rfl⟩ := rx; exact SeqAt.EqAt.int_str a t' b t
    | _ => exact absurd (show false = true from fx) Bool.false_ne_true
  | str a =>
    obtain ⟨t', rfl⟩ := ry
    cases x with
    | non => cases rx; exact SeqAt.EqAt.str_none a t'
    | bl b => cases rx; exact SeqAt.EqAt.str_bool a t' b
    | int b => obtain ⟨t, rfl⟩ := rx; exact SeqAt.EqAt.str_int a t' b t
    | str b => obtain ⟨t, rfl⟩ := rx; exact SeqAt.EqAt.str_str a t' b t
    | _ => exact absurd (show false = true from fx) Bool.false_ne_true
  | _ => exact absurd (show false = true from fy) Bool.false_ne_true
/-- the items' answers, read off the values (a value's own answer does not lean on its token) -/
def eqU (x : V) (u : Value) : Bool := match u with
  | .none => eqV .non x
  | .bool b => eqV (.bl b) x
  | .int i _ => eqV (.int i) x
  | .str z _ => eqV (.str z) x
  | _ => false
theorem eqU_of {x y : V} {u : Value} (r : RelV y u) (f : flatV y = true) : eqU x u = eqV y x := by
  cases y with
  | non => cases r; rfl
  | bl b => cases r; rfl
  | int i => obtain ⟨t, rfl⟩ := r; rfl
  | str z => obtain ⟨t, rfl⟩ := r; rfl
  | _ => exact absurd (show false = true from f) Bool.false_ne_true
theorem any_eqU {x : V} : ∀ {xs : List V} {us : List Value}, Vals xs us → xs.all flatV = true → us.any (eqU x) = xs.any fun y => eqV y x
  | _, _, .nil, _ => rfl
  | y :: xs, u :: us, .cons r t, f => by
    rw [List.all_cons, Bool.and_eq_true] at f
    rw [List.any_cons, List.any_cons, eqU_of r f.1, any_eqU t f.2]
theorem mem_eqAt {A : Around} {s : Shared} {x : V} {v : Value} (rx : RelV x v) (fx : flatV x = true) : ∀ {xs : List V} {us : List Value}, Vals xs us → xs.all flatV = true → ∀ u ∈ us, SeqAt.EqAt A s u v (eqU x u)
  | _, _, .nil, _ => fun u hu => by cases hu
  | y :: xs, u :: us, .cons r t, f => fun u' hu => by
    rw [List.all_cons, Bool.and_eq_true] at f
    rcases List.mem_cons.mp hu with rfl | hu
    · rw [eqU_of r f.1]; exact eqAt_V r rx f.1 fx
    · exact mem_eqAt rx fx t f.2 u' hu
def inV (x : V) (xs : List V) : Bool := xs.any fun y => eqV y x
/-- x in a list or tuple of flat items -/
def rIn (K : PySem.W.Frag) (neg : Bool) : R2 := fun x y H Q => ∃ p xs, y = .ref p ∧ (SqL K H p xs ∨ SqT K H p xs) ∧ flatV x = true ∧ xs.all flatV = true ∧ Q (.bl (if neg then !inV x xs else inV x xs)) H
theorem op_in_seq : OpR X (compareOp .In) (rIn X.K false) := by
  intro pins s σ H x y v u Q I rx ry h
  obtain ⟨p, xs, rfl, hq, fx, fs, q⟩ := h
  cases ry
  rcases hq with hq | hq
  · obtain ⟨its, r, pl, hz⟩ := I.list hq
    refine SeqAt.in_listAt (eqU x) pl.isList (fun w hw => mem_eqAt rx fx r fs w (by simpa using hw)) ⟨.bl _, H, I, rfl, ?_⟩
    rw [show its.toArray.any (eqU x) = its.any (eqU x) by simp, any_eqU r fs]
    exact q
  · obtain ⟨its, r, pl, hz⟩ := I.tuple hq
    refine SeqAt.in_tupleAt (eqU x) pl (fun w hw => mem_eqAt rx fx r fs w (by simpa using hw)) ⟨.bl _, H, I, rfl, ?_⟩
    rw [show its.toArray.any (eqU x) = its.any (eqU x) by simp, any_eqU r fs]
    exact q
theorem op_notIn_seq : OpR X (compareOp .NotIn) (rIn X.K true) := by
  intro pins s σ H x y v u Q I rx ry h
  obtain ⟨p, xs, rfl, hq, fx, fs, q⟩ := h
  cases ry
  rcases hq with hq | hq
  · obtain ⟨its, r, pl, hz⟩ := I.list hq
    refine SeqAt.notIn_listAt (eqU x) pl.isList (fun w hw => mem_eqAt rx fx r fs w (by simpa using hw)) ⟨.bl _, H, I, rfl, ?_⟩
    rw [show its.toArray.any (eqU x) = its.any (eqU x) by simp, any_eqU r fs]
    exact q
  · obtain ⟨its, r, pl, hz⟩ := I.tuple hq
    refine SeqAt.notIn_tupleAt (eqU x) pl (fun w hw => mem_eqAt rx fx r fs w (by simpa using hw)) ⟨.bl _, H, I, rfl, ?_⟩
    rw [show its.toArray.any (eqU x) = its.any (eqU x) by simp, any_eqU r fs]
    exact q
/-! ### len, list(x), tuple(x) of any list or tuple that is read -/
theorem call_len_seq : CallR X (.builtin "len") (fun xs H Q => ∃ p ys, xs = [.ref p] ∧ (SqL X.K H p ys ∨ SqT X.K H p ys) ∧ Q (.int ys.length) H) := by
  intro pins s σ H xs us Q I r h
  obtain ⟨p, ys, rfl, hq, q⟩ := h
  obtain ⟨u, rfl, rx⟩ := vals1 r
  cases rx
  have hn := line63
  rcases hq with hq | hq
  · obtain ⟨its, r', pl, hz⟩ := I.list hq
    have hlen := r'.length
    exact Calls.call_len_list pl.isList (by simp only [List.size_toArray] <;> omega) ⟨.int ys.length, H, I.tok _, ⟨s.toks + 1, by rw [List.size_toArray, hlen]⟩, q⟩
  · obtain ⟨its, r', pl, hz⟩ := I.tuple hq
    have hlen := r'.length
    exact len_tuple pl (by simp only [List.size_toArray] <;> omega) ⟨.int ys.length, H, I.tok _, ⟨s.toks + 1, by rw [List.size_toArray, hlen]⟩, q⟩
theorem CallR.or {f : Value} {r r' : List V → Hp → VK → Prop} (h : CallR X f r) (h' : CallR X f r') : CallR X f (fun xs H Q => r xs H Q ∨ r' xs H Q) := by
  intro pins s σ H xs us Q I rs q
  rcases q with q | q
  · exact h pins s σ H xs us Q I rs q
  · exact h' pins s σ H xs us Q I rs q
theorem call_list_of : CallR X (.type "list") (fun xs H Q => ∃ p ys, xs = [.ref p] ∧ (SqL X.K H p ys ∨ SqT X.K H p ys) ∧ ∀ l, H l = none → Q (.ref l) (upd H l (.lst ys))) := by
  intro pins s σ H xs us Q I r h
  obtain ⟨p, ys, rfl, hq, q⟩ := h
  obtain ⟨u, rfl, rx⟩ := vals1 r
  cases rx
  have fin : ∀ (its : List Value), Vals ys its → ys.length ≤ sizeLine → ∀ (h' : Heap) (c' : Nat), (∀ b o', s.heap.get? b = some o' → h'.get? b = some o') →
      h'.get? s.heap.objs.size = some { cls := .type "list", dict := none, data := .seq its.toArray c', slots := #[] } → EP X pins σ Q (.ref s.heap.objs.size) { s with heap := h' } := fun its r' hz h' c' kp e =>
    ⟨.ref s.heap.objs.size, _, I.laid (t' := s.toks) kp (Nat.le_refl _) (show ObjOk X.prog X.w _ h' _ (.lst ys) from ⟨hz, its, c', r', e⟩), rfl, q _ (I.hok.fresh (Nat.le_refl _))⟩
  rcases hq with hq | hq
  · obtain ⟨its, r', pl, hz⟩ := I.list hq
    have hlen := r'.length
    obtain ⟨o, ho, hc, n, hd⟩ := pl.isList
    exact call_list_seq p (.inl rfl) ho hc hd (fun h' c' kp e => fin its r' hz h' c' kp e) (by simp only [List.size_toArray] <;> omega)
  · obtain ⟨its, r', pl, hz⟩ := I.tuple hq
    have hlen := r'.length
    obtain ⟨o, ho, hc, n, hd⟩ := pl
    exact call_list_seq p (.inr rfl) ho hc hd (fun h' c' kp e => fin its r' hz h' c' kp e) (by simp only [List.size_toArray] <;> omega)
theorem call_tuple_of : CallR X (.type "tuple") (fun xs H Q => ∃ p ys, xs = [.ref p] ∧ ((SqL X.K H p ys ∧ ∀ l, H l = none → Q (.ref l) (upd H l (.tup ys))) ∨ (SqT X.K H p ys ∧ Q (.ref p) H))) := by
  intro pins s σ H xs us Q I r h
  obtain ⟨p, ys, rfl, h⟩ := h
  obtain ⟨u, rfl, rx⟩ := vals1 r
  cases rx
  rcases h with ⟨hq, q⟩ | ⟨hq, q⟩
  · obtain ⟨its, r', pl, hz⟩ := I.list hq
    have hlen := r'.length
    refine call_tuple_list pl.isList (fun h' kp => ?_) (by simp only [List.size_toArray] <;> omega)
    have I1 : Inv X pins σ H { s with heap := h' } := I.kept (t' := s.toks) kp
    have I2 : Inv X pins σ (upd H h'.objs.size (.tup ys)) { s with heap := h'.push { cls := .type "tuple", data := .seq its.toArray } } :=
      I1.laid (t' := s.toks) (fun b o e => Heap.get?_push_of_some _ e) (Nat.le_refl _) (show ObjOk X.prog X.w _ _ _ (.tup ys) from ⟨hz, its, r', IsTup.new _ _⟩)
    exact ⟨.ref h'.objs.size, _, I2, rfl, q _ (I1.hok.fresh (Nat.le_refl _))⟩
  · obtain ⟨its, r', pl, hz⟩ := I.tuple hq
    exact call_tuple_same pl ⟨.ref p, H, I, rfl, q⟩

/-! ### the call of a builtin's method: o.m(..) -/
/-- the value is of that builtin type -/
def tyV (K : PySem.W.Frag) (T : String) (x : V) (H : Hp) : Prop := match x with
  | .str _ => T = "str"
  | .int _ => T = "int"
  | .ref p => (T = "list" ∧ ∃ xs, SqL K H p xs) ∨ (T = "tuple" ∧ ∃ o, K.lookup p = some o ∧ o.cls = .type "tuple" ∧ o.dict = none) ∨
      (T = "dict" ∧ ((∃ kvs, H p = some (.dK kvs)) ∨ ∃ kvs, H p = some (.dT kvs))) ∨ (T = "set" ∧ ∃ S n, H p = some (.set S n))
  | _ => False
theorem tyV_is {pins : List (Addr × Obj)} {σ : St} {H : Hp} {s : Shared} {T : String} {x : V} {v : Value} (I : Inv X pins σ H s) (r : RelV x v) (ty : tyV X.K T x H) :
    s.TypeIs v T ∧ ∀ a, v = .ref a → ∃ ob, s.heap.get? a = some ob ∧ ob.dict = none := by
  cases x with
  | str z =>
    obtain ⟨t, rfl⟩ := r
    cases (show T = "str" from ty)
    exact ⟨typeIs_str s z t, fun _ e => nomatch e⟩
  | int i =>
    obtain ⟨t, rfl⟩ := r
    cases (show T = "int" from ty)
    exact ⟨typeIs_int s i t, fun _ e => nomatch e⟩
  | ref p =>
    cases r
    rcases ty with ⟨rfl, xs, hq⟩ | ⟨rfl, o, hk, hc, hd⟩ | ⟨rfl, hk⟩ | ⟨rfl, S, n, hk⟩
    · obtain ⟨its, _, pl, _⟩ := I.list hq
      refine ⟨pl.isList.typeIs, fun a e => ?_⟩
      cases e
      obtain ⟨o, n, e, c, hd, _⟩ := pl
      exact ⟨o, e, hd⟩
    · refine ⟨⟨o, I.kIn p o hk, hc⟩, fun a e => ?_⟩
      cases e
      exact ⟨o, I.kIn _ o hk, hd⟩
    · have z : ∃ o, s.heap.get? p = some o ∧ o.ExactDict := by
        rcases hk with ⟨kvs, hk⟩ | ⟨kvs, hk⟩
        · obtain ⟨_, _, _, _, o, _, _, e, ex, _⟩ := I.hok p _ hk
          exact ⟨o, e, ex⟩
        · obtain ⟨_, _, _, _, o, _, _, e, ex, _⟩ := I.hok p _ hk
          exact ⟨o, e, ex⟩
      obtain ⟨o, e, ex⟩ := z
      refine ⟨⟨o, e, ex.1⟩, fun a e2 => ?_⟩
      cases e2
      exact ⟨o, e, ex.2.1⟩
    · obtain ⟨o, _, _, _, e, ex, _⟩ := I.hok p _ hk
      refine ⟨⟨o, e, ex.1⟩, fun a e2 => ?_⟩
      cases e2
      exact ⟨o, e, ex.2.1⟩
  | _ => exact False.elim ty
def tBM0 (K : PySem.W.Frag) (T : String) (r : V → List V → Hp → VK → Prop) (to : TE) : TE := fun σ H Q => to σ H fun x H1 => tyV K T x H1 ∧ r x [] H1 Q
def tBM (K : PySem.W.Frag) (T : String) (r : V → List V → Hp → VK → Prop) (to : TE) (t : TA) : TE := fun σ H Q => to σ H fun x H1 => tyV K T x H1 ∧ t σ H1 fun xs H2 => r x xs H2 Q
variable {o e : Expr} {es : List Expr} {to : TE} {t : TA} {name : Str} {apos cpos : Pos} {T id : String} {r : V → List V → Hp → VK → Prop}
theorem pe_bm (pa : PlainAttrs T) (slot : Slot T name id) (hty : typeOf (.builtin id) = pure (.type "method_descriptor")) (hm : MtR X id r) (ho : PE X o to) (ha : PA X (e :: es) t)
    (hbase : attributeBase o name X.env (eval o X.env) = eval o X.env := by rfl)
    (hfew : ((backTo cpos (starEach (e :: es) X.env)).all (fun x => !x.1) && (backToKw cpos (keywordEach [] X.env)).all (fun x => x.1.isSome)
      && decide ((e :: es).length + ([] : List Keyword).length + (if ([] : List Keyword).isEmpty then 0 else 1) < 30)) = true := by rfl)
    (hline : (apos.endLine == cpos.line) = true := by rfl) (hs : starEach (e :: es) X.env = (false, eval e X.env) :: starEach es X.env := by rfl) (hplain : (backTo cpos (starEach es X.env)).any (·.1) = false := by rfl) :
    PE X (.Call (.Attribute o name apos) (e :: es) [] cpos) (tBM X.K T r to t) := by
  intro pins s σ H Q I h
  refine wpAny_Call_method_late hbase hfew hline rfl (thn (ho pins s σ H _ I h) fun v s1 ⟨x, H1, I1, r1, ty, q1⟩ => ?_)
  obtain ⟨h1, h2⟩ := tyV_is I1 r1 ty
  refine ⟨T, id, pa, slot, hty, h1, h2, ?_⟩
  have hA := ha cpos pins s1 σ H1 _ I1 q1
  rw [hs] at hA ⊢
  refine Calls.callWith_builtin (by show (false || (backTo cpos (starEach es X.env)).any (·.1)) = false; rw [hplain] <;> rfl) (Calls.evalArgs_plain ?_)
  exact thn hA fun us s2 ⟨vs, H2, I2, r2, q2⟩ => hm pins s2 σ H2 x vs v us Q I2 r1 r2 q2
/- xs.append(e), list.index on a module's tuple .. are MtR facts of 06m -/
end
end L2

namespace L2
open PySem PySem.Spec PyProof.Rows

def MtM (X : Cx) (id : String) (r : V → List V → Hp → VK → Prop) : Prop :=
  ∀ (pins : List (Addr × Obj)) (s : Shared) (σ : St) (H : Hp) (x : V) (xs : List V) (v : Value) (us : List Value) (Q : VK), Inv X pins σ H s → RelV x v → Vals xs us → r x xs H Q →
    wpAny (model X.prog X.w) X.A (call (.builtin id) (v :: us)) (EP X pins σ Q) X.xe s

/-! ### lists of values -/
theorem Vals.one : ∀ {x : V} {us : List Value}, Vals [x] us → ∃ u, us = [u] ∧ RelV x u
  | _, _, .cons r .nil => ⟨_, rfl, r⟩
theorem Vals.two : ∀ {x y : V} {us : List Value}, Vals [x, y] us → ∃ u v, us = [u, v] ∧ RelV x u ∧ RelV y v
  | _, _, _, .cons r (.cons q .nil) => ⟨_, _, rfl, r, q⟩
theorem Vals.zero : ∀ {us : List Value}, Vals [] us → us = []
  | _, .nil => rfl
theorem Vals.reverse {xs : List V} {us : List Value} (h : Vals xs us) : Vals xs.reverse us.reverse := by
  induction h with
  | nil => exact .nil
  | cons r t ih => rw [List.reverse_cons, List.reverse_cons]; exact Vals.append ih (.cons r .nil)
theorem Vals.rep {xs : List V} {us : List Value} (h : Vals xs us) : ∀ k : Nat, Vals (List.replicate k xs).flatten (List.replicate k us).flatten
  | 0 => .nil
  | k + 1 => by
    rw [List.replicate_succ, List.replicate_succ, List.flatten_cons, List.flatten_cons]
    exact Vals.append h (Vals.rep h k)
theorem foldl_rep (its : List Value) : ∀ (k : Nat) (acc : List Value),
    List.foldl (fun x1 x2 => x1 ++ x2) acc.toArray (List.replicate k its.toArray) = (acc ++ (List.replicate k its).flatten).toArray
  | 0, acc => by simp
  | k + 1, acc => by
    have e : acc.toArray ++ its.toArray = (acc ++ its).toArray := by simp
    have e2 : (acc ++ its) ++ (List.replicate k its).flatten = acc ++ (List.replicate (k + 1) its).flatten := by
      rw [List.replicate_succ, List.flatten_cons, List.append_assoc]
    rw [← e2, ← foldl_rep its k (acc ++ its), ← e, List.replicate_succ, List.foldl_cons]

section
variable {X : Cx} {pins : List (Addr × Obj)} {σ : St} {H : Hp} {s : Shared} {l b : Addr} {xs ys zs : List V}

/-! ### the two steps: a tracked list is rewritten, a new list is laid -/
theorem Inv.lset {its its' : List Value} {n : Nat} {f : Array Value → Array Value} {t' : Nat} (I : Inv X pins σ H s) (hH : H l = some (.lst xs))
    (e : s.heap.get? l = some { cls := .type "list", data := .seq its.toArray n }) (hf : f its.toArray = its'.toArray) (hv : Vals ys its') (hz : ys.length ≤ sizeLine) :
    Inv X pins σ (upd H l (.lst ys)) { s with heap := s.heap.update l (Obj.mapSeq f), toks := t' } := by
  have q := PySem.IsL.update e f
  rw [hf] at q
  refine I.write (x := l) (e := l) (by rw [hH]; exact trivial) (.inl rfl) (fun b' u hb hu => (Heap.get?_update_other s.heap (Obj.mapSeq f) (Ne.symm hb)).trans hu) ⟨_, q⟩ ?_
  exact ⟨hz, its', _, hv, q⟩
theorem Inv.lnew {its : List Value} {t' : Nat} (I : Inv X pins σ H s) (hv : Vals ys its) (hz : ys.length ≤ sizeLine) :
    Inv X pins σ (upd H s.heap.objs.size (.lst ys)) { s with heap := s.heap.push { cls := .type "list", data := .seq its.toArray }, toks := t' } :=
  I.laid (fun _ _ q => Heap.get?_push_of_some _ q) (Nat.le_refl _) ⟨hz, its, 0, hv, Heap.get?_push_size _ rfl⟩
theorem Inv.fresh (I : Inv X pins σ H s) : H s.heap.objs.size = none := I.hok.fresh (Nat.le_refl _)
theorem Inv.lstM (I : Inv X pins σ H s) (hH : H l = some (.lst xs)) : xs.length ≤ sizeLine ∧ ∃ (its : List Value) (n : Nat), Vals xs its ∧ xs.length = its.length ∧ s.heap.get? l = some { cls := .type "list", data := .seq its.toArray n } := by
  obtain ⟨z, its, n, r, e⟩ := I.hok l _ hH
  exact ⟨z, its, n, r, r.length, e⟩

theorem notLongL {n : Nat} (h : n ≤ sizeLine) : Builtin.List.listTooLong n = false := by
  unfold Builtin.List.listTooLong
  exact decide_eq_false (by omega)
end

section
variable {X : Cx}

/-! ### methods -/
def rAppend : V → List V → Hp → VK → Prop := fun x vs H Q => ∃ l xs y, x = .ref l ∧ vs = [y] ∧ H l = some (.lst xs) ∧ xs.length < sizeLine ∧ Q .non (upd H l (.lst (xs ++ [y])))
theorem mt_append : MtM X "list.append" rAppend := by
  intro pins s σ H x vs v us Q I rx rv h
  obtain ⟨l, xs, y, rfl, rfl, hH, hz, q⟩ := h
  cases rx
  obtain ⟨u, rfl, ru⟩ := rv.one
  obtain ⟨z, its, n, r, hl, e⟩ := I.lstM hH
  refine call_meets F.slot_list_append ⟨_, e, rfl⟩ F.entry_list_append (F.args_list_append_2 _ _) (PySem.list_append l its.toArray n u (by rw [List.size_toArray]; omega)) ⟨e, ?_⟩
  refine ⟨.non, _, I.lset (its' := its ++ [u]) hH e (by simp) (r.append (.cons ru .nil)) ?_, rfl, q⟩
  rw [List.length_append, List.length_singleton]
  omega

def rExtend : V → List V → Hp → VK → Prop := fun x vs H Q => ∃ l b xs zs, x = .ref l ∧ vs = [.ref b] ∧ H l = some (.lst xs) ∧ H b = some (.lst zs) ∧ xs.length + zs.length ≤ sizeLine ∧ Q .non (upd H l (.lst (xs ++ zs)))
theorem mt_extend : MtM X "list.extend" rExtend := by
  intro pins s σ H x vs v us Q I rx rv h
  obtain ⟨l, b, xs, zs, rfl, rfl, hH, hB, hz, q⟩ := h
  cases rx
  obtain ⟨u, rfl, ru⟩ := rv.one
  cases ru
  obtain ⟨z, its, n, r, hl, e⟩ := I.lstM hH
  obtain ⟨z2, its2, n2, r2, hl2, e2⟩ := I.lstM hB
  have hsz : its.toArray.size + its2.toArray.size ≤ sizeLine := by rw [List.size_toArray, List.size_toArray]; omega
  have hlong : ¬ (!its.toArray.isEmpty && Builtin.List.listTooLong (its.toArray.size + its2.toArray.size)) = true := by
    rw [notLongL hsz, Bool.and_false]
    exact Bool.false_ne_true
  refine call_meets F.slot_list_extend ⟨_, e, rfl⟩ F.entry_list_extend (F.args_list_extend_2 _ _)
    (AutoSeq1.list_extend_list_list_0 l its.toArray n b its2.toArray n2 hlong (by rw [List.size_toArray]; omega) (by omega)) ⟨e, e2, ?_⟩
  refine ⟨.non, _, I.lset (its' := its ++ its2) hH e (by simp) (r.append r2) ?_, rfl, q⟩
  rw [List.length_append]
  omega

def rPop : V → List V → Hp → VK → Prop := fun x vs H Q => ∃ l xs y, x = .ref l ∧ vs = [] ∧ H l = some (.lst xs) ∧ xs[xs.length - 1]? = some y ∧ Q y (upd H l (.lst xs.dropLast))
def rPopAt : V → List V → Hp → VK → Prop := fun x vs H Q => ∃ l xs i k y, x = .ref l ∧ vs = [.int i] ∧ H l = some (.lst xs) ∧ -(2 ^ 63) ≤ i ∧ i < 2 ^ 63 ∧ seqIndex? i xs.length = some k ∧ xs[k]? = some y ∧ Q y (upd H l (.lst (xs.eraseIdx k)))
def rReverse : V → List V → Hp → VK → Prop := fun x vs H Q => ∃ l xs, x = .ref l ∧ vs = [] ∧ H l = some (.lst xs) ∧ Q .non (upd H l (.lst xs.reverse))
def rClear : V → List V → Hp → VK → Prop := fun x vs H Q => ∃ l xs, x = .ref l ∧ vs = [] ∧ H l = some (.lst xs) ∧ Q .non (upd H l (.lst []))
/-! ### list + list, list += list, list * int -/
def rCat : R2 := fun x y H Q => ∃ l b xs zs, x = .ref l ∧ y = .ref b ∧ H l = some (.lst xs) ∧ H b = some (.lst zs) ∧ xs.length + zs.length ≤ sizeLine ∧ ∀ p, H p = none → Q (.ref p) (upd H p (.lst (xs ++ zs)))
theorem op_cat : OpR X (binaryOp .Add) rCat := by
  intro pins s σ H x y v u Q I rx ry h
  obtain ⟨l, b, xs, zs, rfl, rfl, hH, hB, hz, q⟩ := h
  cases rx
  cases ry
  obtain ⟨z, its, n, r, hl, e⟩ := I.lstM hH
  obtain ⟨z2, its2, n2, r2, hl2, e2⟩ := I.lstM hB
  refine PySem.P.add_list e e2 ?_ (by rw [List.size_toArray, List.size_toArray]; omega)
  have ea : its.toArray ++ its2.toArray = (its ++ its2).toArray := by simp
  rw [ea]
  exact ⟨.ref _, _, I.lnew (t' := s.toks) (r.append r2) (by rw [List.length_append]; omega), rfl, q _ I.fresh⟩
/-- a list times an int (a negative one is nothing) -/
def rRep : R2 := fun x y H Q => ∃ l k xs, x = .ref l ∧ y = .int k ∧ H l = some (.lst xs) ∧ -(2 ^ 63) ≤ k ∧ k < 2 ^ 63 ∧ xs.length * k.toNat ≤ sizeLine ∧
  ∀ p, H p = none → Q (.ref p) (upd H p (.lst (List.replicate k.toNat xs).flatten))
theorem len_rep {α : Type} (xs : List α) (k : Nat) : (List.replicate k xs).flatten.length = k * xs.length := by
  induction k with
  | zero => simp
  | succ k ih => rw [List.replicate_succ, List.flatten_cons, List.length_append, ih, Nat.succ_mul, Nat.add_comm]
theorem op_rep : OpR X (binaryOp .Mult) rRep := by
  intro pins s σ H x y v u Q I rx ry h
  obtain ⟨l, k, xs, rfl, rfl, hH, h1, h2, hz, q⟩ := h
  cases rx
  obtain ⟨t, rfl⟩ := ry
  obtain ⟨z, its, n, r, hl, e⟩ := I.lstM hH
  have hlen : its.toArray.size * k.toNat ≤ sizeLine := by rw [List.size_toArray, ← hl]; exact hz
  have hcap : ¬ its.toArray.size * k.toNat > (2 ^ 63 - 1) / 8 := by
    have : (sizeLine : Nat) ≤ (2 ^ 63 - 1) / 8 := by decide
    omega
  have hfit : ¬ (!Builtin.List.listFitsIndex k) = true := by
    rw [fitsIndex_both h1 h2]
    exact Bool.false_ne_true
  have hlong : ¬ Builtin.List.listTooLong (its.toArray.size * k.toNat) = true := by
    rw [notLongL hlen]
    exact Bool.false_ne_true
  have hnew : List.foldl (fun x1 x2 => x1 ++ x2) #[] (List.replicate (if its.toArray.isEmpty = true then 0 else k.toNat) its.toArray) = (List.replicate k.toNat its).flatten.toArray := by
    have f0 : ∀ m : Nat, List.foldl (fun x1 x2 => x1 ++ x2) #[] (List.replicate m its.toArray) = (List.replicate m its).flatten.toArray := fun m => by
      have := foldl_rep its m []
      rw [List.nil_append] at this
      exact this
    rw [f0]
    cases its with
    | nil => simp
    | cons a r' => rw [if_neg (by simp)]
  refine wpAny_binaryOp_repeat_ref (T := "list") (U := "int") (by decide) ⟨_, e, rfl⟩ (fun s' => typeIs_int s' k t) noFill_list_mul F.fills_int_mul F.slot_int_rmul repeat_list F.slot_int_index.lookup
    (call_meets F.slot_int_rmul (typeIs_int s k t) F.entry_int_rmul (F.args_int_rmul_2 _ _) (int___rmul___int_list k t l its.toArray n)
      ⟨e, rfl, ⟨_, e, rfl⟩, call_meets F.slot_list_mul ⟨_, e, rfl⟩ F.entry_list_mul (F.args_list_mul_2 _ _) (AutoListH.list___mul___list_int_3 l its.toArray n k t hfit hcap hlong) ⟨e, ?_⟩⟩)
  rw [hnew]
  exact ⟨.ref _, _, I.lnew (t' := s.toks) (r.rep k.toNat) (by rw [len_rep, Nat.mul_comm]; exact hz), rfl, q _ I.fresh⟩

/-! ### del xs[i] -/
end

/-! ### xs[a:b] = ys -/
section
variable {prog : Program} {w : World} {A : Around} {E : Value → Shared → Prop} {s : Shared}
set_option maxRecDepth 100000 in
end

section
variable {X : Cx}
end
end L2

namespace L2
open PySem PySem.Spec PyProof.Rows

theorem Vals.ints : ∀ {ns : List Int} {us : List Value}, Vals (ns.map V.int) us → IntsAre us ns
  | [], us, h => by
    rw [List.map_nil] at h
    cases h
    exact IntsAre.nil
  | n :: ns, us, h => by
    rw [List.map_cons] at h
    cases h with
    | cons r t =>
      obtain ⟨k, rfl⟩ := r
      exact IntsAre.cons n k (Vals.ints t)
theorem vals_of_ints : ∀ {us : List Value} {ns : List Int}, IntsAre us ns → Vals (ns.map V.int) us
  | _, _, .nil => by rw [List.map_nil]; exact Paired.nil
  | _, _, .cons n t h => by rw [List.map_cons]; exact Paired.cons (show RelV (V.int n) (Value.int n t) from ⟨t, rfl⟩) (vals_of_ints h)
theorem Vals.strs : ∀ {xs : List Str} {us : List Value}, Vals (xs.map V.str) us → StrsAre us xs
  | [], us, h => by
    rw [List.map_nil] at h
    cases h
    exact StrsAre.nil
  | x :: xs, us, h => by
    rw [List.map_cons] at h
    cases h with
    | cons r t =>
      obtain ⟨k, rfl⟩ := r
      exact StrsAre.cons x k (Vals.strs t)
theorem vals_of_strs : ∀ {us : List Value} {xs : List Str}, StrsAre us xs → Vals (xs.map V.str) us
  | _, _, .nil => by rw [List.map_nil]; exact Paired.nil
  | _, _, .cons x t h => by rw [List.map_cons]; exact Paired.cons (show RelV (V.str x) (Value.str x t) from ⟨t, rfl⟩) (vals_of_strs h)
theorem Vals.bls : ∀ {bs : List Bool} {us : List Value}, Vals (bs.map V.bl) us → us = bs.map Value.bool
  | [], us, h => by
    rw [List.map_nil] at h
    cases h
    rfl
  | b :: bs, us, h => by
    rw [List.map_cons] at h
    cases h with
    | cons r t =>
      cases r
      rw [Vals.bls t, List.map_cons]
theorem Vals.ref1 {a : Addr} {us : List Value} (r : Vals [V.ref a] us) : us = [Value.ref a] := by
  cases r with
  | cons r t =>
    cases t
    cases r
    rfl
/-! ### the library's walks over a list of ints, kept objects alone -/
section
variable {prog : Program} {w : World} {A : Around} {E : Value → Shared → Prop} {s : Shared} {l : Addr} {its : List Value} {ns : List Int} {Q : Value → Shared → Prop}
end

/-! ### the calls, by values (CallR of 03t; MtR of 06l) -/
section
variable {X : Cx}
/-- sum(xs) of a list of ints -/
def rSum (K : PySem.W.Frag) : List V → Hp → VK → Prop := fun vs H Q => ∃ (a : Addr) (ns : List Int), vs = [V.ref a] ∧ SqL K H a (ns.map V.int) ∧ Q (.int ns.sum) H
/-- max(xs), min(xs) of a list of ints -/
def rMax (K : PySem.W.Frag) : List V → Hp → VK → Prop := fun vs H Q => ∃ (a : Addr) (ns : List Int), vs = [V.ref a] ∧ SqL K H a (ns.map V.int) ∧ 0 < ns.length ∧ ∀ m, m ∈ ns → (∀ y, y ∈ ns → y ≤ m) → Q (.int m) H
def rMin (K : PySem.W.Frag) : List V → Hp → VK → Prop := fun vs H Q => ∃ (a : Addr) (ns : List Int), vs = [V.ref a] ∧ SqL K H a (ns.map V.int) ∧ 0 < ns.length ∧ ∀ m, m ∈ ns → (∀ y, y ∈ ns → m ≤ y) → Q (.int m) H
/-! sorted, sort (fewer than 64 items: the library's own bound) -/
def rSorted (K : PySem.W.Frag) : List V → Hp → VK → Prop := fun vs H Q => ∃ (a : Addr) (ns : List Int), vs = [V.ref a] ∧ SqL K H a (ns.map V.int) ∧ ns.length < 64 ∧
  ∀ (ns' : List Int) (p : Addr), ns'.Perm ns → ns'.Pairwise (· ≤ ·) → H p = none → Q (.ref p) (upd H p (.lst (ns'.map V.int)))
def rSortedS (K : PySem.W.Frag) : List V → Hp → VK → Prop := fun vs H Q => ∃ (a : Addr) (xs : List Str), vs = [V.ref a] ∧ SqL K H a (xs.map V.str) ∧ xs.length < 64 ∧
  ∀ (ys : List Str) (p : Addr), ys.Perm xs → sortedS ys = true → H p = none → Q (.ref p) (upd H p (.lst (ys.map V.str)))
theorem small64 {n : Nat} (h : n < 64) : n ≤ sizeLine := by rw [sizeLine_eq]; omega
theorem cr_sortedS : CallR X (.builtin "sorted") (rSortedS X.K) := by
  intro pins s σ H vs us Q I r h
  obtain ⟨a, xs, rfl, hs, h64, q⟩ := h
  obtain ⟨its, rv, hl, _⟩ := I.list hs
  rw [Vals.ref1 r]
  have hlen0 := rv.length
  rw [List.length_map] at hlen0
  refine PyProof.Rows.sorted_strs hl.isList rv.strs (by rw [← hlen0]; exact h64) fun out ys h1 h2 h3 => ?_
  obtain ⟨ep, he'⟩ := PyProof.Rows.sortedAll_at s.heap its out
  have hlen : (ys.map V.str).length ≤ sizeLine := by rw [List.length_map, h2.length_eq]; exact small64 h64
  exact ⟨.ref _, upd H (s.heap.objs.size + 1) (.lst (ys.map V.str)), I.laid (t' := s.toks) (fun _ _ => PyProof.Rows.sortedAll_old) (Nat.le_succ _) ⟨hlen, out.toList, ep, vals_of_strs h1, he'⟩, rfl, q ys _ h2 h3 (I.hok.fresh (Nat.le_succ _))⟩
/-- xs.sort(), ints -/
def rSort : V → List V → Hp → VK → Prop := fun x xs H Q => ∃ (a : Addr) (ns : List Int), x = V.ref a ∧ xs = [] ∧ H a = some (.lst (ns.map V.int)) ∧ ns.length < 64 ∧
  ∀ ns' : List Int, ns'.Perm ns → ns'.Pairwise (· ≤ ·) → Q .non (upd H a (.lst (ns'.map V.int)))
end

/-! ### list.index, flat items -/
section
variable {X : Cx}
def rIndex (K : PySem.W.Frag) : V → List V → Hp → VK → Prop := fun x xs H Q => ∃ (a : Addr) (ys : List V) (y : V) (j : Nat) (z : V), x = V.ref a ∧ xs = [y] ∧ SqL K H a ys ∧ flatV y = true ∧ ys.all flatV = true ∧ ys[j]? = some z ∧ eqV z y = true ∧
  (∀ (m : Nat) (z' : V), m < j → ys[m]? = some z' → eqV z' y = false) ∧ Q (.int (j : Nat)) H
end

/-! ### type(x) of an own instance; is, is not of a module's class -/
section
variable {X : Cx}
end

/-! ### any(xs), all(xs) of a list of bools -/
theorem iter_any {prog : Program} {w : World} {A : Around} {E : Value → Shared → Prop} {s : Shared} {l : Addr} {items : Array Value} {Q : Value → Shared → Prop} (hl : s.heap.IsList l items)
    (h : ∀ s₂ : Shared, s₂ = { s with heap := s.heap.push { cls := .type "list_iterator", data := .fields #[.ref l, .int 0 0] } } →
      (s₂.heap.IsListIter s.heap.objs.size l 0 ∧ s₂.heap.IsList l items) → l ≠ s.heap.objs.size → Q (.ref s.heap.objs.size) s₂) : wpAny (model prog w) A (pyIter (.ref l)) Q E s := by
  have hlt : l < s.heap.objs.size := by obtain ⟨_, e, _⟩ := hl; exact Heap.lt_size e
  exact wpAny_pyIter_list hl (h _ rfl ⟨⟨_, Heap.get?_push_size _ rfl, rfl, rfl⟩, hl.push _⟩ (Nat.ne_of_lt hlt))
theorem truth_bools {prog : Program} {w : World} {A : Around} {bs : List Bool} {its : List Value} (e : its = bs.map Value.bool) :
    TruthOf prog w A (fun i v => its.toArray[i]? = some v) (fun i => bs.getD i false) := fun i v s Q E hv hq => by
  have hv' : its[i]? = some v := by simpa using hv
  rw [e, List.getElem?_map] at hv'
  obtain ⟨b, hb, rfl⟩ := Option.map_eq_some_iff.mp hv'
  have hg : bs.getD i false = b := by rw [List.getD_eq_getElem?_getD, hb] <;> rfl
  have hq' : Q (bs.getD i false) s := hq
  rw [hg] at hq'
  exact wpAny_truthy_bool hq'
theorem any_range : ∀ bs : List Bool, (List.range bs.length).any (fun i => bs.getD i false) = bs.any id
  | [] => rfl
  | b :: bs => by
    rw [List.length_cons, List.range_succ_eq_map, List.any_cons, List.any_map, List.any_cons, ← any_range bs]
    all_goals rfl
theorem all_range : ∀ bs : List Bool, (List.range bs.length).all (fun i => bs.getD i false) = bs.all id
  | [] => rfl
  | b :: bs => by
    rw [List.length_cons, List.range_succ_eq_map, List.all_cons, List.all_map, List.all_cons, ← all_range bs]
    all_goals rfl
section
variable {X : Cx}
def rAny (K : PySem.W.Frag) : List V → Hp → VK → Prop := fun vs H Q => ∃ (a : Addr) (bs : List Bool), vs = [V.ref a] ∧ SqL K H a (bs.map V.bl) ∧ Q (.bl (bs.any id)) H
def rAll (K : PySem.W.Frag) : List V → Hp → VK → Prop := fun vs H Q => ∃ (a : Addr) (bs : List Bool), vs = [V.ref a] ∧ SqL K H a (bs.map V.bl) ∧ Q (.bl (bs.all id)) H
theorem cr_any (hc : X.calm = true) : CallR X (.builtin "any") (rAny X.K) := by
  intro pins s σ H vs us Q I r h
  obtain ⟨a, bs, rfl, hs, q⟩ := h
  obtain ⟨its, rv, hl, _⟩ := I.list hs
  rw [Vals.ref1 r]
  have hb := rv.bls
  refine call_any_walk (iter_any hl.isList fun s₂ e2 st hne => ?_)
  subst e2
  refine ⟨_, _, _, _, _, _, _, rfl, Walks.list (A := X.A.in1) (I.ok.hd hc) _ a hne its.toArray, st, truth_bools hb, fun h' tk hk => ?_⟩
  refine ⟨.bl _, H, I.kept fun b o eo => hk b o (fun hmem => ?_) (Heap.get?_push_of_some _ eo), ?_, q⟩
  · rcases List.mem_cons.mp hmem with e1 | hmem
    · exact absurd (e1 ▸ Heap.lt_size eo) (Nat.lt_irrefl _)
    · cases hmem
  · show Value.bool _ = Value.bool _
    rw [← any_range, hb, List.size_toArray, List.length_map]
theorem cr_all (hc : X.calm = true) : CallR X (.builtin "all") (rAll X.K) := by
  intro pins s σ H vs us Q I r h
  obtain ⟨a, bs, rfl, hs, q⟩ := h
  obtain ⟨its, rv, hl, _⟩ := I.list hs
  rw [Vals.ref1 r]
  have hb := rv.bls
  refine call_all_walk (iter_any hl.isList fun s₂ e2 st hne => ?_)
  subst e2
  refine ⟨_, _, _, _, _, _, _, rfl, Walks.list (A := X.A.in1) (I.ok.hd hc) _ a hne its.toArray, st, truth_bools hb, fun h' tk hk => ?_⟩
  refine ⟨.bl _, H, I.kept fun b o eo => hk b o (fun hmem => ?_) (Heap.get?_push_of_some _ eo), ?_, q⟩
  · rcases List.mem_cons.mp hmem with e1 | hmem
    · exact absurd (e1 ▸ Heap.lt_size eo) (Nat.lt_irrefl _)
    · cases hmem
  · show Value.bool _ = Value.bool _
    rw [← all_range, hb, List.size_toArray, List.length_map]
end

/-! ### == and != of data at any depth: none, bools, ints, texts, lists, tuples -/
mutual
inductive Dp (K : PySem.W.Frag) (H : Hp) : V → PyData → Prop
  | non : Dp K H .non .none
  | bl (b : Bool) : Dp K H (.bl b) (.bool b)
  | int (i : Int) : Dp K H (.int i) (.int i)
  | str (x : Str) : Dp K H (.str x) (.str x)
  | lst {a : Addr} {xs : List V} {ds : List PyData} : SqL K H a xs → DpAll K H xs ds → Dp K H (.ref a) (.list ds)
  | tup {a : Addr} {xs : List V} {ds : List PyData} : SqT K H a xs → DpAll K H xs ds → Dp K H (.ref a) (.tuple ds)
inductive DpAll (K : PySem.W.Frag) (H : Hp) : List V → List PyData → Prop
  | nil : DpAll K H [] []
  | cons {v : V} {vs : List V} {d : PyData} {ds : List PyData} : Dp K H v d → DpAll K H vs ds → DpAll K H (v :: vs) (d :: ds)
end
section
variable {X : Cx} {pins : List (Addr × Obj)} {σ : St} {H : Hp} {s : Shared}
mutual
theorem Dp.reads (I : Inv X pins σ H s) : ∀ (d : PyData) (v : V) (u : Value), Dp X.K H v d → RelV v u → ∃ as, Reads s.heap u d as
  | .none, _, _, h, r => by
    cases h
    cases r
    exact ⟨_, Reads.none⟩
  | .bool b, _, _, h, r => by
    cases h
    cases r
    exact ⟨_, Reads.bool b⟩
  | .int i, _, _, h, r => by
    cases h
    obtain ⟨t, rfl⟩ := r
    exact ⟨_, Reads.int i t⟩
  | .str x, _, _, h, r => by
    cases h
    obtain ⟨t, rfl⟩ := r
    exact ⟨_, Reads.str x t⟩
  | .list ds, _, _, h, r => by
    cases h with
    | lst hs ha =>
      cases r
      obtain ⟨its, rv, ⟨o, n, ho, hc, _, hd⟩, _⟩ := I.list hs
      obtain ⟨as, hr⟩ := Dp.readsAll I ds _ its ha rv
      exact ⟨_, Reads.list ho hc hd hr⟩
  | .tuple ds, _, _, h, r => by
    cases h with
    | tup hs ha =>
      cases r
      obtain ⟨its, rv, ⟨o, ho, hc, n, hd⟩, _⟩ := I.tuple hs
      obtain ⟨as, hr⟩ := Dp.readsAll I ds _ its ha rv
      exact ⟨_, Reads.tuple ho hc hd hr⟩
  | .dict _, _, _, h, _ => by cases h
theorem Dp.readsAll (I : Inv X pins σ H s) : ∀ (ds : List PyData) (vs : List V) (us : List Value), DpAll X.K H vs ds → Vals vs us → ∃ as, ReadsAll s.heap us ds as
  | [], _, _, h, r => by
    cases h
    cases r
    exact ⟨_, ReadsAll.nil⟩
  | d :: ds, _, _, h, r => by
    cases h with
    | cons h1 h2 =>
      cases r with
      | cons r1 r2 =>
        obtain ⟨as, q1⟩ := Dp.reads I d _ _ h1 r1
        obtain ⟨bs, q2⟩ := Dp.readsAll I ds _ _ h2 r2
        exact ⟨_, ReadsAll.cons q1 q2⟩
end
end
section
variable {X : Cx}
def rEqD (K : PySem.W.Frag) : R2 := fun x y H Q => ∃ d e, Dp K H x d ∧ Dp K H y e ∧ SeqAt.shaped d = true ∧ SeqAt.shaped e = true ∧ Q (.bl (PyData.eqv d e)) H
def rNeD (K : PySem.W.Frag) : R2 := fun x y H Q => ∃ d e, Dp K H x d ∧ Dp K H y e ∧ SeqAt.shaped d = true ∧ SeqAt.shaped e = true ∧ Q (.bl (!PyData.eqv d e)) H
theorem op_eqD (hu : X.A.units + 64 < cLine) : OpR X (compareOp .Eq) (rEqD X.K) := by
  intro pins s σ H x y v u Q I rx ry h
  obtain ⟨d, e, hd, he, sd, se, q⟩ := h
  obtain ⟨as, r1⟩ := Dp.reads I d x v hd rx
  obtain ⟨bs, r2⟩ := Dp.reads I e y u he ry
  exact SeqAt.compareEq_shaped r1 r2 sd se hu ⟨.bl _, H, I, rfl, q⟩
theorem op_neD (hu : X.A.units + 64 < cLine) : OpR X (compareOp .NotEq) (rNeD X.K) := by
  intro pins s σ H x y v u Q I rx ry h
  obtain ⟨d, e, hd, he, sd, se, q⟩ := h
  obtain ⟨as, r1⟩ := Dp.reads I d x v hd rx
  obtain ⟨bs, r2⟩ := Dp.reads I e y u he ry
  exact SeqAt.compareNe_shaped r1 r2 sd se hu ⟨.bl _, H, I, rfl, q⟩
end
end L2

namespace L2
open PySem PySem.Spec PyProof.Rows
abbrev CellAt (h : Heap) (c : Addr) (v : Option Value) : Prop := h.IsCell c v
def relS (scope sc : Scope) : Scope :=
  { scope with names := scope.names.map fun (n, k) => if (k == .free && sc.kind == .function && sc.names.lookup n == some .cell) then (n, .cell) else (n, k) }

def cloFrom (cells : List (Str × Addr)) : List (Str × NameKind) → List (Str × Addr) → List (Str × Addr)
  | [], acc => acc
  | (n, k) :: r, acc => if k == .free then cloFrom cells r ((n, (cells.lookup n).getD 0) :: acc) else cloFrom cells r acc

theorem closure_loop (env : Env) (f : Str × NameKind → List (Str × Addr) → Sem (ForInStep (List (Str × Addr))))
    (hf : ∀ n k c, f (n, k) c = if k == .free then (do let a ← cellOf env n; pure (.yield ((n, a) :: c))) else pure (.yield c)) :
    ∀ (names : List (Str × NameKind)) (acc : List (Str × Addr)), (∀ y ∈ names, y.2 = .free → ∃ c, env.cells.lookup y.1 = some c) → forIn names acc f = pure (cloFrom env.cells names acc)
  | [], acc, _ => by rw [List.forIn_nil]; rfl
  | (n, k) :: r, acc, h => by
    rw [List.forIn_cons, hf]
    have ih := fun acc => closure_loop env f hf r acc fun y hy => h y (List.mem_cons_of_mem _ hy)
    unfold cloFrom
    by_cases hk : (k == NameKind.free) = true
    · rw [if_pos hk, if_pos hk]
      obtain ⟨c, hc⟩ := h (n, k) List.mem_cons_self (by simpa using hk)
      have e : cellOf env n = pure c := by unfold cellOf; rw [hc]
      rw [e]
      have e2 : (env.cells.lookup n).getD 0 = c := by rw [hc]; rfl
      rw [e2]
      exact ih _
    · rw [if_neg hk, if_neg hk]
      exact ih _
theorem closure_ok {scope : Scope} {env : Env} (h : ∀ y ∈ scope.names, y.2 = .free → ∃ c, env.cells.lookup y.1 = some c) : closureFor scope env = pure (cloFrom env.cells scope.names []) := by
  simp only [closureFor]
  rw [closure_loop env _ (fun n k c => rfl) scope.names [] h]
  rfl

theorem mem_lookup {α : Type} : ∀ {l : List (Str × α)} {n : Str} {c : α}, (n, c) ∈ l → ∃ c', l.lookup n = some c'
  | (k, v) :: r, n, c, h => by
    rw [List.lookup_cons]
    cases hb : n == k with
    | true => exact ⟨_, rfl⟩
    | false =>
      rcases List.mem_cons.mp h with e | h
      · cases e; simp at hb
      · exact mem_lookup h

theorem cloFrom_mem {cells : List (Str × Addr)} : ∀ {names : List (Str × NameKind)} {acc : List (Str × Addr)} {n : Str} {c : Addr}, (n, c) ∈ cloFrom cells names acc → (n, c) ∈ acc ∨ ((n, .free) ∈ names ∧ c = (cells.lookup n).getD 0)
  | [], _, _, _, h => .inl h
  | (m, k) :: r, acc, n, c, h => by
    unfold cloFrom at h
    split at h
    · rename_i hk
      have hk : k = .free := by simpa using hk
      rcases cloFrom_mem h with h | ⟨h1, h2⟩
      · rcases List.mem_cons.mp h with e | h
        · cases e; exact .inr ⟨hk ▸ List.mem_cons_self, rfl⟩
        · exact .inl h
      · exact .inr ⟨List.mem_cons_of_mem _ h1, h2⟩
    · rcases cloFrom_mem h with h | ⟨h1, h2⟩
      · exact .inl h
      · exact .inr ⟨List.mem_cons_of_mem _ h1, h2⟩
theorem cloFrom_acc {cells : List (Str × Addr)} : ∀ {names : List (Str × NameKind)} {acc : List (Str × Addr)} {p : Str × Addr}, p ∈ acc → p ∈ cloFrom cells names acc
  | [], _, _, h => h
  | (m, k) :: r, acc, p, h => by
    unfold cloFrom
    split
    · exact cloFrom_acc (List.mem_cons_of_mem _ h)
    · exact cloFrom_acc h
theorem cloFrom_has {cells : List (Str × Addr)} : ∀ {names : List (Str × NameKind)} {acc : List (Str × Addr)} {n : Str}, (n, .free) ∈ names → (n, (cells.lookup n).getD 0) ∈ cloFrom cells names acc
  | (m, k) :: r, acc, n, h => by
    unfold cloFrom
    rcases List.mem_cons.mp h with e | h
    · cases e
      exact cloFrom_acc List.mem_cons_self
    · split
      · exact cloFrom_has h
      · exact cloFrom_has h

theorem cells_mem : ∀ {names : List (Str × NameKind)} {h : Heap} {acc : List (Str × Addr)} {x : Str} {c : Addr}, (x, c) ∈ cellsFrom h.objs.size names acc →
    (x, c) ∈ acc ∨ ((x, .cell) ∈ names ∧ h.objs.size ≤ c ∧ CellAt (pushCells h names) c none)
  | [], _, _, _, _, h => .inl h
  | (n, k) :: r, h, acc, x, c, hm => by
    unfold cellsFrom at hm
    unfold pushCells
    split at hm
    · rename_i hk
      rw [if_pos hk]
      have hk : k = .cell := by simpa using hk
      rw [← Heap.size_push h { cls := .type "cell", data := .cell none }] at hm
      rcases cells_mem hm with hm | ⟨h1, h2, h3⟩
      · rcases List.mem_cons.mp hm with e | hm
        · cases e
          exact .inr ⟨hk ▸ List.mem_cons_self, Nat.le_refl _, _, pushCells_keeps r _ _ _ (Heap.get?_push_size _ rfl), rfl⟩
        · exact .inl hm
      · rw [Heap.size_push] at h2
        exact .inr ⟨List.mem_cons_of_mem _ h1, Nat.le_of_succ_le h2, h3⟩
    · rename_i hk
      rw [if_neg hk]
      rcases cells_mem hm with hm | ⟨h1, h2, h3⟩
      · exact .inl hm
      · exact .inr ⟨List.mem_cons_of_mem _ h1, h2, h3⟩
theorem cells_acc : ∀ {names : List (Str × NameKind)} {n : Nat} {acc : List (Str × Addr)} {p : Str × Addr}, p ∈ acc → p ∈ cellsFrom n names acc
  | [], _, _, _, h => h
  | (m, k) :: r, n, acc, p, h => by
    unfold cellsFrom
    split
    · exact cells_acc (List.mem_cons_of_mem _ h)
    · exact cells_acc h
theorem cells_has : ∀ {names : List (Str × NameKind)} {n : Nat} {acc : List (Str × Addr)} {x : Str}, (x, .cell) ∈ names → ∃ c, (x, c) ∈ cellsFrom n names acc
  | (m, k) :: r, n, acc, x, h => by
    unfold cellsFrom
    rcases List.mem_cons.mp h with e | h
    · cases e
      exact ⟨n, cells_acc List.mem_cons_self⟩
    · split
      · exact cells_has h
      · exact cells_has h
theorem cells_inj : ∀ {names : List (Str × NameKind)} {h : Heap} {acc : List (Str × Addr)} {x y : Str} {c : Addr}, (∀ p ∈ acc, p.2 < h.objs.size) → (∀ x y c, (x, c) ∈ acc → (y, c) ∈ acc → x = y) →
    (x, c) ∈ cellsFrom h.objs.size names acc → (y, c) ∈ cellsFrom h.objs.size names acc → x = y
  | [], _, _, _, _, _, _, hi, h1, h2 => hi _ _ _ h1 h2
  | (n, k) :: r, h, acc, x, y, c, hl, hi, h1, h2 => by
    unfold cellsFrom at h1 h2
    split at h1
    · rename_i hk
      rw [if_pos hk] at h2
      rw [← Heap.size_push h { cls := .type "cell", data := .cell none }] at h1 h2
      refine cells_inj (h := h.push _) (fun p hp => ?_) (fun x y c a b => ?_) h1 h2
      · rw [Heap.size_push]
        rcases List.mem_cons.mp hp with rfl | hp
        · exact Nat.lt_succ_self _
        · exact Nat.lt_succ_of_lt (hl p hp)
      · rcases List.mem_cons.mp a with e | a <;> rcases List.mem_cons.mp b with e' | b
        · cases e; cases e'; rfl
        · cases e; exact absurd (hl _ b) (Nat.lt_irrefl _)
        · cases e'; exact absurd (hl _ a) (Nat.lt_irrefl _)
        · exact hi _ _ _ a b
    · rename_i hk
      rw [if_neg hk] at h2
      exact cells_inj hl hi h1 h2

theorem newEnv_comp {M : Model} {A : Around} {E : Value → Shared → Prop} {s : Shared} {scope : Scope} {globals : Addr} {closure : List (Str × Addr)} {qual : Str} {func : Option Addr} {code : Value} {around : Env} {builtins : Addr} {Q : Env → Shared → Prop}
    (h : Q (newEnv scope s.heap.objs.size globals (cellsFrom (s.heap.objs.size + 1) scope.names closure) qual func code (some around) builtins)
      { s with heap := pushCells (s.heap.push { cls := .type "dict", data := .dict #[] }) scope.names }) :
    wpAny M A (newFunctionEnv scope globals closure [] qual func code (some around) builtins) Q E s := by
  simp only [newFunctionEnv, Option.isSome_some, if_true]
  refine wpAny_bind (wpAny_alloc ?_)
  refine wpAny_bind (wpAny_layCells _ (fun n k c => rfl) scope.names closure _ _ ?_)
  rw [show ({ s with heap := s.heap.push { cls := .type "dict", data := .dict #[] } } : Shared).heap.objs.size = s.heap.objs.size + 1 from Heap.size_push ..]
  rw [List.forIn_nil]
  exact wpAny_bind (wpAny_pure (wpAny_pure h))

/-- every name of the written scope, in the scope that runs -/
theorem lookup_relS {sc : Scope} : ∀ {names : List (Str × NameKind)} {x : Str} {k : NameKind},
    (names.map fun (n, k) => if (k == NameKind.free && sc.kind == .function && sc.names.lookup n == some .cell) then (n, NameKind.cell) else (n, k)).lookup x = some k →
    ∃ k', names.lookup x = some k' ∧ (k = k' ∨ (k' = .free ∧ k = .cell))
  | [], _, _, h => by simp at h
  | (n, k₀) :: r, x, k, h => by
    have ih := @lookup_relS sc r x k
    have h' : List.lookup x ((if (k₀ == NameKind.free && sc.kind == .function && sc.names.lookup n == some .cell) = true then (n, NameKind.cell) else (n, k₀)) :: (r.map _)) = some k := h
    cases hx : x == n with
    | true =>
      simp only [List.lookup_cons, hx]
      by_cases hc : (k₀ == NameKind.free && sc.kind == .function && sc.names.lookup n == some .cell) = true
      · rw [if_pos hc] at h'
        simp only [List.lookup_cons, hx] at h'
        cases h'
        simp only [Bool.and_eq_true, beq_iff_eq] at hc
        exact ⟨k₀, rfl, .inr ⟨hc.1.1, rfl⟩⟩
      · rw [if_neg hc] at h'
        simp only [List.lookup_cons, hx] at h'
        cases h'
        exact ⟨_, rfl, .inl rfl⟩
    | false =>
      simp only [List.lookup_cons, hx]
      by_cases hc : (k₀ == NameKind.free && sc.kind == .function && sc.names.lookup n == some .cell) = true
      · rw [if_pos hc] at h'
        simp only [List.lookup_cons, hx] at h'
        exact ih h'
      · rw [if_neg hc] at h'
        simp only [List.lookup_cons, hx] at h'
        exact ih h'
/-- the names of a comprehension's block: its own (with their places in N), or captured -/
structure BlkOk (N : List Str) (sc scope : Scope) (own : List (Str × Nat)) : Prop where
  kind : scope.kind = .function
  uniq : ∀ y ∈ scope.names, scope.names.lookup y.1 = some y.2
  ix : ∀ p ∈ own, N[p.2]? = some p.1
  free : ∀ y ∈ scope.names, y.2 = .free → sc.names.lookup y.1 = some .cell ∨ sc.names.lookup y.1 = some .free
  own : ∀ y ∈ scope.names, y.2 = .local ∨ y.2 = .cell → y.1 ∈ own.map (·.1) ∨ y.1 ∉ N
/-- the slots of the block's own names forgotten -/
def wipe (σ : St) : List Nat → St
  | [] => σ
  | v :: vs => (wipe σ vs).set v none
theorem wipe_length (σ : St) : ∀ vs : List Nat, (wipe σ vs).length = σ.length
  | [] => rfl
  | v :: vs => by unfold wipe; rw [List.length_set, wipe_length σ vs]
theorem wipe_some {σ : St} {i : Nat} {x : V} : ∀ {vs : List Nat}, (wipe σ vs)[i]? = some (some x) → σ[i]? = some (some x) ∧ i ∉ vs
  | [], h => ⟨h, by simp⟩
  | v :: vs, h => by
    unfold wipe at h
    by_cases hi : v = i
    · subst hi
      by_cases hv : v < (wipe σ vs).length
      · rw [List.getElem?_set_self hv] at h; cases h
      · rw [List.getElem?_eq_none (by simpa using hv)] at h; cases h
    · rw [List.getElem?_set_ne hi] at h
      obtain ⟨h1, h2⟩ := wipe_some h
      exact ⟨h1, by simp only [List.mem_cons, not_or]; exact ⟨fun e => hi e.symm, h2⟩⟩

/-- the context of a block that starts at s, its iterator's objects at fp -/
abbrev Cx.blk (X : Cx) (s : Shared) (H : Hp) (scope : Scope) (cenv : Env) (fp : List Addr) : Cx := { X with s_0 := s, H_0 := H, env := cenv, outer := X.stack, ex := fp, fn := fun x => scope.names.lookup x == some .cell, pn := [], xe := fun _ _ => False }
section
variable {X : Cx} {pins : List (Addr × Obj)} {σ : St} {H : Hp} {s : Shared}
theorem block_start {scope : Scope} {own : List (Str × Nat)} {fp : List Addr} (I : Inv X pins σ H s) (ok : BlkOk X.N X.env.scope scope own) (hN : X.N.Nodup) (hfp : ∀ b ∈ fp, FpOk X pins H b ∧ b < s.heap.objs.size) :
    Inv (X.blk s H scope (compEnvC scope (cellsFrom (s.heap.objs.size + 1) scope.names (cloFrom X.env.cells scope.names [])) s.heap.objs.size X.env) fp) [] (wipe σ (own.map (·.2))) H { s with heap := pushCells (s.heap.push { cls := .type "dict", data := .dict #[] }) scope.names } := by
  have hfree : ∀ y ∈ scope.names, y.2 = .free → ∃ c, X.env.cells.lookup y.1 = some c := fun y hy e => by
    rcases ok.free y hy e with k | k
    · exact I.ok.has _ (.inl k)
    · exact I.ok.has _ (.inr k)
  generalize hcenv : compEnvC scope (cellsFrom (s.heap.objs.size + 1) scope.names (cloFrom X.env.cells scope.names [])) s.heap.objs.size X.env = cenv
  have kp : ∀ b o, s.heap.get? b = some o → (pushCells (s.heap.push { cls := .type "dict", data := .dict #[] }) scope.names).get? b = some o := fun b o e => pushCells_keeps _ _ _ _ (Heap.get?_push_of_some _ e)
  have hL : cenv.locals = s.heap.objs.size := by rw [← hcenv]; rfl
  have hcl : cenv.cells = cellsFrom (s.heap.objs.size + 1) scope.names (cloFrom X.env.cells scope.names []) := by rw [← hcenv]; rfl
  have hsc : cenv.scope = relS scope X.env.scope := by rw [← hcenv]; rfl
  rw [← Heap.size_push s.heap { cls := .type "dict", data := .dict #[] }] at hcl
  have cm : ∀ {y c}, (y, c) ∈ cloFrom X.env.cells scope.names [] → X.env.cells.lookup y = some c ∧ c < s.heap.objs.size := fun {y c} hm => by
    rcases cloFrom_mem hm with hm | ⟨h1, rfl⟩
    · cases hm
    · obtain ⟨c, hc⟩ := hfree _ h1 rfl
      rw [hc]
      obtain ⟨w, z⟩ := I.cell _ _ hc
      exact ⟨rfl, z.lt⟩
  have mem : ∀ {y c}, cenv.cells.lookup y = some c → (X.env.cells.lookup y = some c ∧ c < s.heap.objs.size) ∨ (s.heap.objs.size + 1 ≤ c ∧ CellAt (pushCells (s.heap.push { cls := .type "dict", data := .dict #[] }) scope.names) c none) := fun {y c} e => by
    rw [hcl] at e
    rcases cells_mem (PySem.mem_of_lookup e) with hm | ⟨_, h2, h3⟩
    · exact .inl (cm hm)
    · rw [Heap.size_push] at h2; exact .inr ⟨h2, h3⟩
  have look : ∀ {y}, scope.names.lookup y = some .free → ∃ c, cenv.cells.lookup y = some c ∧ X.env.cells.lookup y = some c := fun {y} hl => by
    have hy : (y, NameKind.free) ∈ scope.names := PySem.mem_of_lookup hl
    obtain ⟨c', e'⟩ := mem_lookup (cells_acc (names := scope.names) (n := (s.heap.push { cls := .type "dict", data := .dict #[] }).objs.size) (cloFrom_has (cells := X.env.cells) (acc := []) hy))
    rw [← hcl] at e'
    refine ⟨c', e', ?_⟩
    rw [hcl] at e'
    rcases cells_mem (PySem.mem_of_lookup e') with hm | ⟨h1, _, _⟩
    · exact (cm hm).1
    · have := ok.uniq _ h1
      rw [hl] at this; cases this
  have okB : (X.blk s H scope cenv fp).Ok := by
    refine ⟨I.ok.mod, by show cenv.scope.kind = _; rw [hsc]; exact ok.kind, by show cenv.globals = _; rw [← hcenv]; exact I.ok.glob, by show cenv.builtins = _; rw [← hcenv]; exact I.ok.blt, by show s.heap.objs.size ≤ cenv.locals; rw [hL]; exact Nat.le_refl _,
      fun y z c e1 e2 => ?_, fun y hy => ?_, fun y c z e => ?_, I.ok.hd, I.ok.frames, .inl rfl, fun b hb => ⟨?_, fun y c e z => ?_⟩, I.bs, Nat.le_trans I.ok.bsz I.sz, fun b o e hb => ?_, fun b hb z => ?_, I.stack, I.stkFree⟩
    · have e1 : cenv.cells.lookup y = some c := e1
      have e2 : cenv.cells.lookup z = some c := e2
      rw [hcl] at e1 e2
      refine cells_inj (fun p hp => ?_) (fun y z c a b => I.ok.inj y z c (cm a).1 (cm b).1) (PySem.mem_of_lookup e1) (PySem.mem_of_lookup e2)
      rw [Heap.size_push]
      exact Nat.lt_succ_of_lt (cm (y := p.1) (c := p.2) hp).2
    · show ∃ c, cenv.cells.lookup y = some c
      have key : ∀ k, cenv.kindOf y = some k → (k = .cell ∨ k = .free) → ∃ c, cenv.cells.lookup y = some c := fun k hk hk' => by
        unfold Env.kindOf at hk
        rw [hsc] at hk
        obtain ⟨k', e, r⟩ := lookup_relS hk
        have : k' = .cell ∨ k' = .free := by
          rcases r with rfl | ⟨rfl, _⟩
          · exact hk'
          · exact .inr rfl
        rcases this with rfl | rfl
        · obtain ⟨c, hm⟩ := cells_has (n := (s.heap.push { cls := .type "dict", data := .dict #[] }).objs.size) (acc := cloFrom X.env.cells scope.names []) (PySem.mem_of_lookup e)
          obtain ⟨c', e'⟩ := mem_lookup hm
          exact ⟨c', by rw [hcl]; exact e'⟩
        · obtain ⟨c, h1, _⟩ := look e
          exact ⟨c, h1⟩
      rcases hy with hy | hy
      · exact key _ hy (.inl rfl)
      · exact key _ hy (.inr rfl)
    · have z : (scope.names.lookup y == some NameKind.cell) = true := z
      have z : scope.names.lookup y = some .cell := by simpa using z
      have e : cenv.cells.lookup y = some c := e
      rw [hcl] at e
      rcases cells_mem (PySem.mem_of_lookup e) with hm | ⟨_, h2, _⟩
      · rcases cloFrom_mem hm with hm | ⟨h1, _⟩
        · cases hm
        · have q := ok.uniq _ h1
          rw [z] at q; cases q
      · rw [Heap.size_push] at h2
        exact Nat.le_of_succ_le h2
    · show b ≠ cenv.locals
      rw [hL]; exact Nat.ne_of_lt (hfp b hb).2
    · have e : cenv.cells.lookup y = some c := e
      rcases mem e with ⟨h1, _⟩ | ⟨h1, _⟩
      · exact (hfp b hb).1.2.2.2.2.1 y c h1 z
      · have h2 : s.heap.objs.size + 1 ≤ b := by rw [← z]; exact h1
        exact absurd (Nat.lt_of_lt_of_le (hfp b hb).2 (Nat.le_of_succ_le h2)) (Nat.lt_irrefl _)
    · rcases (hfp b hb).1.2.2.2.1 with z | z
      · exact I.ok.noex b o e z
      · exact absurd (Nat.lt_of_lt_of_le (Heap.lt_size e) (Nat.le_trans I.ok.bsz z)) (Nat.lt_irrefl _)
    · rcases List.mem_cons.mp (I.stkSub b z) with z | z
      · exact (hfp b hb).1.2.1 z
      · exact (hfp b hb).1.2.2.1 z
  refine ⟨okB, rfl, I.bare, Un.kept kp, ⟨fun _ => none, ?_, fun i y av e1 e2 e3 => ?_⟩, fun y c e => ?_, ?_, fun y c e => ?_, fun p hp => ?_, I.hok.kept kp, by rw [wipe_length]; exact I.len⟩
  · show Heap.Ns _ cenv.locals _
    rw [hL]
    exact Heap.Ns.keeps (Heap.Ns.new ..) fun b o e => pushCells_keeps _ _ _ _ e
  · obtain ⟨e2, hne⟩ := wipe_some e2
    have hfr : scope.names.lookup y = some .free ∧ (cenv.kindOf y = some .cell ∨ cenv.kindOf y = some .free) := by
      have key : ∀ k, cenv.scope.names.lookup y = some k → k = .local ∨ k = .cell ∨ k = .free → scope.names.lookup y = some .free ∧ (cenv.kindOf y = some .cell ∨ cenv.kindOf y = some .free) := fun k hk hk' => by
        have hk0 := hk
        rw [hsc] at hk
        obtain ⟨k', e, r⟩ := lookup_relS hk
        have no : ¬ (k' = .local ∨ k' = .cell) := fun hh => by
          rcases ok.own _ (PySem.mem_of_lookup e) hh with e' | e'
          · obtain ⟨p, hp, hpy⟩ := List.mem_map.mp e'
            have e3 := ok.ix p hp
            have : p.1 = y := hpy
            rw [this] at e3
            exact hne (List.mem_map.mpr ⟨p, hp, nodup_ix hN e3 e1⟩)
          · exact e' (List.mem_of_getElem? e1)
        rcases r with rfl | ⟨rfl, rfl⟩
        · rcases hk' with rfl | rfl | rfl
          · exact absurd (.inl rfl) no
          · exact absurd (.inr rfl) no
          · exact ⟨e, .inr hk0⟩
        · exact ⟨e, .inl hk0⟩
      have e3 : Vis cenv.scope y := e3
      rcases e3 with e3 | e3 | e3
      · exact key _ e3 (.inl rfl)
      · exact key _ e3 (.inr (.inl rfl))
      · exact key _ e3 (.inr (.inr rfl))
    obtain ⟨m, hn, hl⟩ := I.loc
    have hvis : Vis X.env.scope y := (ok.free _ (PySem.mem_of_lookup hfr.1) rfl).elim (fun k => .inr (.inl k)) (fun k => .inr (.inr k))
    obtain ⟨w, r, q⟩ := hl i y av e1 e2 hvis
    refine ⟨w, r, .inr ⟨hfr.2, ?_⟩⟩
    obtain ⟨c, h1, h2⟩ := look hfr.1
    rcases q with ⟨k, _⟩ | ⟨_, c', e', z⟩
    · have k : X.env.scope.names.lookup y = some .local := k
      rcases ok.free _ (PySem.mem_of_lookup hfr.1) rfl with k' | k' <;> rw [show X.env.scope.names.lookup y = _ from k'] at k <;> cases k
    · rw [h2] at e'; cases e'
      exact ⟨c, h1, z.keeps kp⟩
  · have e : cenv.cells.lookup y = some c := e
    rcases mem e with ⟨h1, _⟩ | ⟨_, z⟩
    · obtain ⟨w, z⟩ := I.cell y c h1
      exact ⟨w, z.keeps kp⟩
    · exact ⟨_, z⟩
  · show H cenv.locals = none
    rw [hL]; exact I.hok.fresh (Nat.le_refl _)
  · have e : cenv.cells.lookup y = some c := e
    rcases mem e with ⟨h1, _⟩ | ⟨h1, _⟩
    · exact I.freeC y c h1
    · exact I.hok.fresh (Nat.le_of_succ_le h1)
  · exact absurd (show p ∈ ([] : List (Addr × Obj)) ++ [] from hp) (by simp)

/-- an item appended to a tracked list -/
theorem app_ok {E : Value → Shared → Prop} {D : Addr} {xs : List V} {y : V} {v : Value} {Q : Value → Shared → Prop} (I : Inv X pins σ H s) (hD : H D = some (.lst xs)) (hz : xs.length < sizeLine) (r : RelV y v)
    (h : ∀ s', Inv X pins σ (upd H D (.lst (xs ++ [y]))) s' → Q .none s') : wpAny (model X.prog X.w) X.A (call (.builtin "list.append") [.ref D, v]) Q E s := by
  obtain ⟨hz', its, n, ri, e⟩ := I.hok D _ hD
  have hl := ri.length
  refine append_at (hsz := by rw [List.size_toArray]; omega) e fun h' sb ho' => ?_
  refine h { s with heap := h' } (I.write (t' := s.toks) (by rw [hD]; trivial) (.inl rfl) (fun b u hb q => (sb.2 b hb).trans q) ⟨_, ho'⟩ ⟨by rw [List.length_append]; exact hz, its ++ [v], n + 1, ri.append (.cons r .nil), ?_⟩)
  rw [ho']
  simp

/-- a clause's tests -/
def PTs (X : Cx) (ifs : List Expr) (t : TT) : Prop :=
  ∀ (pins : List (Addr × Obj)) (s : Shared) (σ : St) (H : Hp) (Q : Bool → Hp → Prop), Inv X pins σ H s → t σ H Q →
    wpAny (model X.prog X.w) X.A (forIn ifs true fun c r => if r = true then do let ok ← isTrue c X.env (eval c X.env); pure (ForInStep.yield ok) else pure (ForInStep.yield r)) (TP X pins σ Q) X.xe s
def tYes : TT := fun _ H Q => Q true H
theorem pts_nil : PTs X [] tYes := fun _ _ _ H _ I h => wpAny_tests_nil ⟨H, I, h⟩
theorem pts_one {c : Expr} {t : TT} (h : PT X c t) : PTs X [c] t := fun pins s σ H Q I hw => wpAny_tests_one (h pins s σ H Q I hw)
end

theorem thnF {α : Type} {t : Sem α} {Q Q' : α → Shared → Prop} {M : Model} {A : Around} {E : Value → Shared → Prop} {s : Shared} (h : wpAny M A t Q (fun _ _ => False) s) (hQ : ∀ a s, Q a s → Q' a s) : wpAny M A t Q' E s := wpAny_mono h hQ fun _ _ z => False.elim z

/-- the loop of a list comprehension's block, the target of any form (codeAny_compLoop_tests asks a target that no tuple goes to; statement and proof follow it, PyProof/CompMap.lean:41-61, with the step letOwnedTupleGo kept) -/
theorem compLoop_any {prog : Program} {w : World} {A : Around} {R : Result → Shared → Prop} {s : Shared} {elt target iter : Expr} {ifs : List Expr} {scope : Scope} {pos : Pos} {it acc : Value} {env : Env} (I : Nat → Shared → Prop)
    (turn : ∀ n s, I n s → wpAny (model prog w) A (pyNext it) (fun r s₁ => match r with
      | none => R (.ok .next) s₁
      | some v => wpAny (model prog w) A (letOwnedTupleGo target it v) (fun _ s₁' => wpAny (model prog w) A (assign target env v) (fun _ s₂ =>
          wpAny (model prog w) A (forIn ifs true fun c r => if r = true then do let ok ← isTrue c env (eval c env); pure (ForInStep.yield ok) else pure (ForInStep.yield r)) (fun ok s₃ =>
            if ok = true then wpAny (model prog w) A (eval elt env) (fun x s₄ =>
              wpAny (model prog w) A (call (.builtin "list.append") [acc, x]) (fun _ s₅ => ∃ m, m < n ∧ I m s₅) (notedBy (model prog w) A env fun e s' => R (.error e) s') s₄) (notedBy (model prog w) A env fun e s' => R (.error e) s') s₃
            else ∃ m, m < n ∧ I m s₃) (notedBy (model prog w) A env fun e s' => R (.error e) s') s₂) (notedBy (model prog w) A env fun e s' => R (.error e) s') s₁') (notedBy (model prog w) A env fun e s' => R (.error e) s') s₁) (notedBy (model prog w) A env fun e s' => R (.error e) s') s)
    (n : Nat) (h : I n s) :
    codeAny (model prog w) A (.compLoop (.ListComp elt [⟨target, iter, ifs, 0⟩] scope pos) 0 it acc env) R s := by
  refine codeAny_loop rfl I (fun n s hI => ?_) n h
  show wpAny _ A ((compTurn (.ListComp elt [⟨target, iter, ifs, 0⟩] scope pos) 0 it acc env).onRaise (fun x => do noteFrame x env; theTreesLotGoes x)) _ _ s
  refine wpAny_noted ?_
  rw [compTurn_list]
  refine wpAny_bind (wpAny_standAt (wpAny_bind (wpAny_mono (turn n s hI) (fun r s₁ h₁ => ?_) fun _ _ h' => h')))
  cases r with
  | none => exact wpAny_pure h₁
  | some v =>
    refine wpAny_bind (wpAny_mono h₁ (fun _ s₁' h₁' => ?_) fun _ _ h' => h')
    refine wpAny_bind (wpAny_mono h₁' (fun _ s₂ h₂ => wpAny_bind (wpAny_mono h₂ (fun ok s₃ h₃ => ?_) fun _ _ h' => h')) fun _ _ h' => h')
    cases ok with
    | false => exact wpAny_pure ⟨rfl, h₃⟩
    | true =>
      exact wpAny_bind (wpAny_bind (wpAny_mono h₃ (fun x s₄ h₄ => wpAny_bind (wpAny_mono h₄ (fun _ s₅ h₅ => wpAny_pure (wpAny_pure ⟨rfl, h₅⟩)) fun _ _ h' => h')) fun _ _ h' => h'))

section
variable {X : Cx}
/-- [elt for target in iter if ..]: D the new list; W by the turn and a measure, Nx what a turn is to reach -/
def tLc (wi : TI) (g : TG) (tt : TT) (te : TE) (vs : List Nat) : TE := fun σ H Q => wi σ H fun J H1 => ∀ D, H1 D = none → ∃ W : Nat → Nat → Hp → Prop, (∃ m, W 0 m (upd H1 D (.lst []))) ∧ ∀ i m H, W i m H →
  (J.stop i H ∧ Q (.ref D) H) ∨ (J.go i H ∧ ∃ Nx : Hp → Prop, (∀ H', Nx H' → ∃ m', m' < m ∧ W (i + 1) m' H') ∧ ∀ x H', J.yld i H x H' → g x (wipe σ vs) H' fun σ2 H2 => wipe σ2 vs = wipe σ vs ∧ tt σ2 H2 fun b H3 =>
    if b = true then te σ2 H3 fun y H4 => ∃ acc, H4 D = some (.lst acc) ∧ acc.length < sizeLine ∧ Nx (upd H4 D (.lst (acc ++ [y]))) else Nx H3)
theorem lc_core {pins : List (Addr × Obj)} {s : Shared} {σ : St} {H : Hp} {Q : VK} {elt tg iter : Expr} {ifs : List Expr} {scope : Scope} {own : List (Str × Nat)} {pos pos' : Pos} {wi : TI} {g : TG} {tt : TT} {te : TE} {use : Option (Value → Sem Unit)} {Qf : Value → Shared → Prop}
    (hc : X.calm = true) (hN : X.N.Nodup) (I : Inv X pins σ H s) (hi : PI X tg iter wi) (ok : BlkOk X.N X.env.scope scope own)
    (hg : ∀ (s : Shared) (H : Hp) (C : Addr) (cl : List (Str × Addr)) (fp : List Addr), PG (X.blk s H scope (compEnvC scope cl C X.env) fp) tg g) (ht : ∀ (s : Shared) (H : Hp) (C : Addr) (cl : List (Str × Addr)) (fp : List Addr), PTs (X.blk s H scope (compEnvC scope cl C X.env) fp) ifs tt)
    (he : ∀ (s : Shared) (H : Hp) (C : Addr) (cl : List (Str × Addr)) (fp : List Addr), PE (X.blk s H scope (compEnvC scope cl C X.env) fp) elt te) (hs : ∀ x, foldedSetIterable iter X.env x = pure x)
    (h : tLc wi g tt te (own.map (·.2)) σ H Q)
    (hRR : ∀ D C s' m H', Inv X pins σ H' s' → Q (.ref D) H' → s'.heap.Ns C m → FpOk X pins H' C → compPost (model X.prog X.w) X.A X.xe use Qf (.ref D) C (.ok .next) s') :
    wpAny (model X.prog X.w) X.A (comprehension (.ListComp elt [⟨tg, iter, ifs, 0⟩] scope pos) scope X.env pos' (newList []) false (eval iter X.env) use) Qf X.xe s := by
  have hfree : ∀ y ∈ scope.names, y.2 = .free → ∃ c, X.env.cells.lookup y.1 = some c := fun y hy e => by
    rcases ok.free y hy e with k | k
    · exact I.ok.has _ (.inl k)
    · exact I.ok.has _ (.inr k)
  refine wpAny_comprehension_free (use := use) rfl hs (closure_ok hfree) ok.kind (fun y hy e => by rw [ok.uniq y hy, e])
    (thn (hi pins s σ H _ I h) fun xv s1 hx => thn hx fun itv s2 h2 => ?_)
  obtain ⟨it, fp, tn, J, H2, e, I2, T, st2, f2, q⟩ := h2
  subst e
  refine wpAny_newObj_type (newEnv_comp ?_) (by show 0 ≤ sizeLine; decide)
  generalize hD : s2.heap.objs.size = D
  have hDn : H2 D = none := I2.hok.fresh (Nat.le_of_eq hD)
  obtain ⟨W, ⟨m0, w0⟩, turn⟩ := q D hDn
  -- the new list
  generalize hs3 : ({ s2 with heap := s2.heap.push { cls := .type "list", data := .seq ([] : List Value).toArray } } : Shared) = s3
  have I3 : Inv X pins σ (upd H2 D (.lst [])) s3 := by
    rw [← hs3]
    refine I2.laid (t' := s2.toks) (fun b o e => Heap.get?_push_of_some _ e) (Nat.le_of_eq hD) ⟨Nat.zero_le _, [], 0, .nil, ?_⟩
    rw [← hD]
    exact Heap.get?_push_size _ rfl
  have h3 : s3.heap = s2.heap.push { cls := .type "list", data := .seq ([] : List Value).toArray } := by rw [← hs3]
  have sz : ∀ b ∈ fp, b < s2.heap.objs.size := fun b hb => by
    obtain ⟨o, e, _⟩ := T.obj _ _ st2 b hb
    exact Heap.lt_size e
  have f3 : ∀ b ∈ fp, FpOk X pins (upd H2 D (.lst [])) b ∧ b < s3.heap.objs.size := fun b hb => by
    have hlt := sz b hb
    refine ⟨⟨?_, (f2 b hb).2⟩, by rw [h3, Heap.size_push]; exact Nat.lt_succ_of_lt hlt⟩
    rw [upd_ne (by rw [← hD]; exact Nat.ne_of_lt hlt)]
    exact (f2 b hb).1
  have st3 : tn 0 s3.heap := T.keep _ _ _ st2 fun b _ o e => by rw [h3]; exact Heap.get?_push_of_some _ e
  have I4 := block_start I3 ok hN f3
  have pg := hg s3 (upd H2 D (.lst [])) s3.heap.objs.size (cellsFrom (s3.heap.objs.size + 1) scope.names (cloFrom X.env.cells scope.names [])) fp
  have pt := ht s3 (upd H2 D (.lst [])) s3.heap.objs.size (cellsFrom (s3.heap.objs.size + 1) scope.names (cloFrom X.env.cells scope.names [])) fp
  have pe := he s3 (upd H2 D (.lst [])) s3.heap.objs.size (cellsFrom (s3.heap.objs.size + 1) scope.names (cloFrom X.env.cells scope.names [])) fp
  show codeAny _ _ (.compStart (.ListComp elt [⟨tg, iter, ifs, 0⟩] scope pos) 0 (.ref it) (.ref D) (compEnvC scope (cellsFrom (s3.heap.objs.size + 1) scope.names (cloFrom X.env.cells scope.names [])) s3.heap.objs.size X.env)) (compPost (model X.prog X.w) X.A X.xe use Qf (.ref D) s3.heap.objs.size) { s3 with heap := pushCells (s3.heap.push { cls := .type "dict", data := .dict #[] }) scope.names }
  have nfp : ∀ b ∈ fp, (upd H2 D (.lst [])) b = none := fun b hb => (f3 b hb).1.1
  generalize hce : compEnvC scope (cellsFrom (s3.heap.objs.size + 1) scope.names (cloFrom X.env.cells scope.names [])) s3.heap.objs.size X.env = ce at I4 pg pt pe ⊢
  have cL : ce.locals = s3.heap.objs.size := by subst hce; rfl
  generalize hH3 : upd H2 D (.lst []) = H3 at I3 I4 pg pt pe w0 nfp f3
  generalize hs4 : ({ s3 with heap := pushCells (s3.heap.push { cls := .type "dict", data := .dict #[] }) scope.names } : Shared) = s4 at I4 ⊢
  have st4 : tn 0 s4.heap := T.keep _ _ _ st3 fun b _ o e => by rw [← hs4]; exact pushCells_keeps _ _ _ _ (Heap.get?_push_of_some _ e)
  have stat : ∀ {σ' : St} {H' : Hp} {s' : Shared}, Inv (X.blk s3 H3 scope ce fp) [] σ' H' s' → (∀ b ∈ fp, H' b = none) → ∀ b ∈ fp, FpOk (X.blk s3 H3 scope ce fp) [] H' b := fun {σ' H' s'} I' hn b hb =>
    ⟨hn b hb, (I'.ok.exf b hb).1, I'.ok.exfs b hb, .inl hb, fun x c e => (I'.ok.exf b hb).2 x c e, fun p hp => absurd (show p ∈ ([] : List (Addr × Obj)) ++ [] from hp) (by simp)⟩
  have loop : codeAny (model X.prog X.w) X.A (.compLoop (.ListComp elt [⟨tg, iter, ifs, 0⟩] scope pos) 0 (.ref it) (.ref D) ce) (compPost (model X.prog X.w) X.A X.xe use Qf (.ref D) s3.heap.objs.size) s4 := by
    refine compLoop_any (fun n s' => ∃ i H', Inv (X.blk s3 H3 scope ce fp) [] (wipe σ (own.map (·.2))) H' s' ∧ tn i s'.heap ∧ (∀ b ∈ fp, H' b = none) ∧ W i n H') ?_ m0 ⟨0, H3, I4, st4, nfp, w0⟩
    rintro n s5 ⟨i, H5, I5, st5, n5, w5⟩
    rcases turn i n H5 w5 with ⟨stop, qq⟩ | ⟨go, Nx, hNx, step⟩
    · have td := T.done (X.blk s3 H3 scope ce fp) rfl rfl rfl hc i [] s5 _ H5 (fun _ _ => False) I5 (stat I5 n5) st5 stop
      refine thnF td fun r s6 ⟨hr, I6⟩ => ?_
      subst hr
      -- back in the def's context
      have I7 : Inv X pins σ H5 s6 := I3.call' (ch := fp) I6.os I6.base I6.hok I6.bare fun b hb => ⟨(f3 b hb).1.2.2.2.1, (f3 b hb).1.2.1, (f3 b hb).1.2.2.2.2.1, (f3 b hb).1.2.2.2.2.2⟩
      have nC : H5 s3.heap.objs.size = none := by
        have z : H5 ce.locals = none := I6.free
        rw [cL] at z
        exact z
      obtain ⟨m, hn, _⟩ := I6.loc
      have hn : s6.heap.Ns ce.locals m := hn
      rw [cL] at hn
      exact hRR D s3.heap.objs.size s6 m H5 I7 qq hn (I3.fpOk (Nat.le_refl _) nC)
    · have ti := T.item (X.blk s3 H3 scope ce fp) rfl rfl rfl hc i [] s5 _ H5 (fun _ _ => False) I5 (stat I5 n5) st5 go
      refine thnF ti fun r s6 ⟨u, hr, h6⟩ => ?_
      subst hr
      refine thnF h6 fun _ s7 ⟨x, H7, I7, r7, y7, st7, n7⟩ => ?_
      have I7' := I7.pinned (stat I7 n7) (T.obj _ _ st7)
      refine thnF (pg _ s7 _ H7 x u _ I7' r7 (step x H7 y7)) fun _ s8 ⟨σ8, H8, I8, hw8, q8⟩ => ?_
      refine thnF (pt _ s8 σ8 H8 _ I8 q8) fun b s9 ⟨H9, I9, q9⟩ => ?_
      -- the turn's end
      have fin : ∀ {s' : Shared} {H' : Hp}, Inv (X.blk s3 H3 scope ce fp) ([] ++ pinsAt fp s7.heap) σ8 H' s' → Nx H' → ∃ m, m < n ∧ ∃ i H', Inv (X.blk s3 H3 scope ce fp) [] (wipe σ (own.map (·.2))) H' s' ∧ tn i s'.heap ∧ (∀ b ∈ fp, H' b = none) ∧ W i m H' := fun {s' H'} I' nx => by
        obtain ⟨m', hm, w'⟩ := hNx H' nx
        have pin' : ∀ b ∈ fp, ∀ o, s7.heap.get? b = some o → s'.heap.get? b = some o ∧ H' b = none := fun b hb o e =>
          let z := I'.pin (b, o) (List.mem_append_right _ (List.mem_append_right _ (mem_pinsAt hb e)))
          ⟨z.1, z.2.1⟩
        have hl : (wipe σ (own.map (·.2))).length = σ8.length := by rw [← hw8, wipe_length]
        refine ⟨m', hm, i + 1, H', (I'.unpinned (pins := [])).weak hl (fun j v e => ?_), T.keep _ _ _ st7 fun b hb o e => (pin' b hb o e).1, fun b hb => ?_, w'⟩
        · rw [← hw8] at e
          exact (wipe_some e).1
        · obtain ⟨o, e, _⟩ := T.obj _ _ st7 b hb
          exact (pin' b hb o e).2
      cases b with
      | false =>
        simp only [Bool.false_eq_true, if_false] at q9 ⊢
        exact fin I9 q9
      | true =>
        simp only [if_true] at q9 ⊢
        refine thnF (pe _ s9 σ8 H9 _ I9 q9) fun z s10 ⟨yv, H10, I10, r10, acc, hD10, hz10, nx⟩ => ?_
        exact app_ok (X := X.blk s3 H3 scope ce fp) I10 hD10 hz10 r10 fun s11 I11 => fin I11 nx
  exact codeAny_compStart_list loop (T.self X.A 0 _ _ _ st4 loop)
/-- as a value -/
theorem pe_lc {elt tg iter : Expr} {ifs : List Expr} {scope : Scope} {own : List (Str × Nat)} {pos : Pos} {wi : TI} {g : TG} {tt : TT} {te : TE} (hc : X.calm = true) (hN : X.N.Nodup) (hi : PI X tg iter wi) (ok : BlkOk X.N X.env.scope scope own)
    (hg : ∀ (s : Shared) (H : Hp) (C : Addr) (cl : List (Str × Addr)) (fp : List Addr), PG (X.blk s H scope (compEnvC scope cl C X.env) fp) tg g) (ht : ∀ (s : Shared) (H : Hp) (C : Addr) (cl : List (Str × Addr)) (fp : List Addr), PTs (X.blk s H scope (compEnvC scope cl C X.env) fp) ifs tt)
    (he : ∀ (s : Shared) (H : Hp) (C : Addr) (cl : List (Str × Addr)) (fp : List Addr), PE (X.blk s H scope (compEnvC scope cl C X.env) fp) elt te) (hs : ∀ x, foldedSetIterable iter X.env x = pure x := by intro _; rfl) :
    PE X (.ListComp elt [⟨tg, iter, ifs, 0⟩] scope pos) (tLc wi g tt te (own.map (·.2))) := by
  intro pins s σ H Q I h
  rw [eval_ListComp]
  refine lc_core hc hN I hi ok hg ht he hs h fun D C s' m H' I' q hn f => ⟨m, hn, fun h'' sb => ?_⟩
  obtain ⟨f0, f1, f2, f3, f4, f5⟩ := f
  exact ⟨.ref D, H', I'.turned (t' := s'.toks) (fun b o hb e => (sb.2 b hb).trans e) f0 f1 f3 f4 f5, rfl, q⟩
/-- name = [..] on one line, the name a local -/
theorem ps_setLc {i : Nat} {y : Str} {py : Pos} {elt tg iter : Expr} {ifs : List Expr} {scope : Scope} {own : List (Str × Nat)} {pos spos : Pos} {wi : TI} {g : TG} {tt : TT} {te : TE} (hc : X.calm = true) (hN : X.N.Nodup) (hy : X.N[i]? = some y) (hyl : X.env.scope.names.lookup y = some .local)
    (hsw : swapsWith (.ListComp elt [⟨tg, iter, ifs, 0⟩] scope pos) (some (.Name y py)) spos.line X.env = pure true) (hi : PI X tg iter wi) (ok : BlkOk X.N X.env.scope scope own)
    (hg : ∀ (s : Shared) (H : Hp) (C : Addr) (cl : List (Str × Addr)) (fp : List Addr), PG (X.blk s H scope (compEnvC scope cl C X.env) fp) tg g) (ht : ∀ (s : Shared) (H : Hp) (C : Addr) (cl : List (Str × Addr)) (fp : List Addr), PTs (X.blk s H scope (compEnvC scope cl C X.env) fp) ifs tt)
    (he : ∀ (s : Shared) (H : Hp) (C : Addr) (cl : List (Str × Addr)) (fp : List Addr), PE (X.blk s H scope (compEnvC scope cl C X.env) fp) elt te) (hs : ∀ x, foldedSetIterable iter X.env x = pure x := by intro _; rfl) :
    PS X (.Assign [.Name y py] (.ListComp elt [⟨tg, iter, ifs, 0⟩] scope pos) spos) (tAsg (tLc wi g tt te (own.map (·.2))) (gName i)) := by
  intro pins s σ H D I h
  rw [exec_Assign_Name_used _ _ _ _ hsw]
  refine wpAny_bind (wpAny_standAt (wpAny_bind ?_))
  show wpAny _ X.A (do let _ ← comprehension (.ListComp elt [⟨tg, iter, ifs, 0⟩] scope pos) scope X.env (firstIterPos [⟨tg, iter, ifs, 0⟩] pos) (newList []) false (eval iter X.env) (some (assign (.Name y py) X.env))) _ _ s
  have h : tLc wi g tt te (own.map (·.2)) σ H (fun x H1 => gName i x σ H1 D.nx) := h
  refine wpAny_bind (thn (lc_core (Qf := fun _ s' => SP X pins D .next s') hc hN I hi ok hg ht he hs h fun L C s' m H' I' q hn f => ?_) fun _ s' hq => wpAny_pure (wpAny_pure hq))
  show wpAny _ _ (assign (.Name y py) X.env (.ref L)) _ _ _
  refine wpAny_assign_Name (store_ok2 (v := V.ref L) I' hN hy (.inl hyl) rfl (fun s2 I2 ⟨a, sb, ha⟩ => ?_) (.inr hyl))
  obtain ⟨f0, f1, f2, f3, f4, f5⟩ := f
  have haC : C ≠ a := by
    rcases ha with z | z
    · rw [z]; exact f1
    · exact fun e => f4 y a z e.symm
  refine ⟨m, hn.sameBut sb haC, fun h3 sb3 => ?_⟩
  exact ⟨_, H', I2.turned (t' := s2.toks) (fun b o hb e => (sb3.2 b hb).trans e) f0 f1 f3 f4 f5, q⟩
theorem sw_true {elt : Expr} {gs : List Comprehension} {scope : Scope} {pos py : Pos} {y : Str} {l : Nat} {env : Env} (hk : env.scope.kind = .function) (hy : env.scope.names.lookup y = some .local) (hl : (py.line == pos.line) = true)
    (ha : (scope.names.any fun (n, k) => n == y && (k == .local || k == .cell)) = false) : swapsWith (.ListComp elt gs scope pos) (some (.Name y py)) l env = pure true := by
  have ky : env.kindOf y = some .local := hy
  have hb : env.blockKind = .function := by unfold Env.blockKind; rw [hk]; rfl
  unfold swapsWith
  simp only [hb, ky, ha, Expr.pos, hl]
  rfl
end

/-! ### the forms one uses -/
/-- over a range: Pv by the turn and the heap (the new list at D within) -/
theorem lc_range {lo : Int} {n : Nat} {g : TG} {tt : TT} {te : TE} {vs : List Nat} {σ : St} {H1 : Hp} {D : Addr} {Qd : Hp → Prop} (Pv : Nat → Hp → Prop) (h0 : Pv 0 (upd H1 D (.lst [])))
    (hs : ∀ i H, i < n → Pv i H → g (.int (lo + i)) (wipe σ vs) H fun σ2 H2 => wipe σ2 vs = wipe σ vs ∧ tt σ2 H2 fun b H3 =>
      if b = true then te σ2 H3 fun y H4 => ∃ acc, H4 D = some (.lst acc) ∧ acc.length < sizeLine ∧ Pv (i + 1) (upd H4 D (.lst (acc ++ [y]))) else Pv (i + 1) H3) (hd : ∀ H, Pv n H → Qd H) :
    ∃ W : Nat → Nat → Hp → Prop, (∃ m, W 0 m (upd H1 D (.lst []))) ∧ ∀ i m H, W i m H →
      ((Itr lo n).stop i H ∧ Qd H) ∨ ((Itr lo n).go i H ∧ ∃ Nx : Hp → Prop, (∀ H', Nx H' → ∃ m', m' < m ∧ W (i + 1) m' H') ∧ ∀ x H', (Itr lo n).yld i H x H' → g x (wipe σ vs) H' fun σ2 H2 => wipe σ2 vs = wipe σ vs ∧ tt σ2 H2 fun b H3 =>
        if b = true then te σ2 H3 fun y H4 => ∃ acc, H4 D = some (.lst acc) ∧ acc.length < sizeLine ∧ Nx (upd H4 D (.lst (acc ++ [y]))) else Nx H3) := by
  refine ⟨fun i m H => m = n - i ∧ i ≤ n ∧ Pv i H, ⟨n, by simp, Nat.zero_le _, h0⟩, ?_⟩
  rintro i m H ⟨rfl, hi, p⟩
  by_cases hlt : i < n
  · refine .inr ⟨hlt, Pv (i + 1), fun H' p' => ⟨n - (i + 1), by omega, rfl, hlt, p'⟩, fun x H' y => ?_⟩
    obtain ⟨e, y⟩ := y
    subst e y
    exact hs i _ hlt p
  · have e : i = n := by omega
    subst e
    exact .inl ⟨Nat.le_refl _, hd H p⟩
/-- over a list that the block leaves as it is -/
theorem lc_list {K : PySem.W.Frag} {a : Addr} {xs : List V} {g : TG} {tt : TT} {te : TE} {vs : List Nat} {σ : St} {H1 : Hp} {D : Addr} {Qd : Hp → Prop} (Pv : Nat → Hp → Prop) (h0 : Pv 0 (upd H1 D (.lst []))) (hl : ∀ i H, i ≤ xs.length → Pv i H → SqL K H a xs)
    (hs : ∀ i x H, xs[i]? = some x → Pv i H → g x (wipe σ vs) H fun σ2 H2 => wipe σ2 vs = wipe σ vs ∧ tt σ2 H2 fun b H3 =>
      if b = true then te σ2 H3 fun y H4 => ∃ acc, H4 D = some (.lst acc) ∧ acc.length < sizeLine ∧ Pv (i + 1) (upd H4 D (.lst (acc ++ [y]))) else Pv (i + 1) H3) (hd : ∀ H, Pv xs.length H → Qd H) :
    ∃ W : Nat → Nat → Hp → Prop, (∃ m, W 0 m (upd H1 D (.lst []))) ∧ ∀ i m H, W i m H →
      ((Itl K a).stop i H ∧ Qd H) ∨ ((Itl K a).go i H ∧ ∃ Nx : Hp → Prop, (∀ H', Nx H' → ∃ m', m' < m ∧ W (i + 1) m' H') ∧ ∀ x H', (Itl K a).yld i H x H' → g x (wipe σ vs) H' fun σ2 H2 => wipe σ2 vs = wipe σ vs ∧ tt σ2 H2 fun b H3 =>
        if b = true then te σ2 H3 fun y H4 => ∃ acc, H4 D = some (.lst acc) ∧ acc.length < sizeLine ∧ Nx (upd H4 D (.lst (acc ++ [y]))) else Nx H3) := by
  refine ⟨fun i m H => m = xs.length - i ∧ i ≤ xs.length ∧ Pv i H, ⟨xs.length, by simp, Nat.zero_le _, h0⟩, ?_⟩
  rintro i m H ⟨rfl, hi, p⟩
  have q := hl i H hi p
  by_cases hlt : i < xs.length
  · refine .inr ⟨⟨xs, xs[i], q, by simp [hlt]⟩, Pv (i + 1), fun H' p' => ⟨xs.length - (i + 1), by omega, rfl, hlt, p'⟩, fun x H' y => ?_⟩
    obtain ⟨e, y⟩ := y
    subst e
    exact hs i x _ (y xs q) p
  · have e : i = xs.length := by omega
    subst e
    exact .inl ⟨⟨xs, q, Nat.le_refl _⟩, hd H p⟩
/-- over a tuple -/
theorem lc_tup {K : PySem.W.Frag} {a : Addr} {xs : List V} {g : TG} {tt : TT} {te : TE} {vs : List Nat} {σ : St} {H1 : Hp} {D : Addr} {Qd : Hp → Prop} (Pv : Nat → Hp → Prop) (h0 : Pv 0 (upd H1 D (.lst []))) (hl : ∀ i H, i ≤ xs.length → Pv i H → SqT K H a xs)
    (hs : ∀ i x H, xs[i]? = some x → Pv i H → g x (wipe σ vs) H fun σ2 H2 => wipe σ2 vs = wipe σ vs ∧ tt σ2 H2 fun b H3 =>
      if b = true then te σ2 H3 fun y H4 => ∃ acc, H4 D = some (.lst acc) ∧ acc.length < sizeLine ∧ Pv (i + 1) (upd H4 D (.lst (acc ++ [y]))) else Pv (i + 1) H3) (hd : ∀ H, Pv xs.length H → Qd H) :
    ∃ W : Nat → Nat → Hp → Prop, (∃ m, W 0 m (upd H1 D (.lst []))) ∧ ∀ i m H, W i m H →
      ((Itt K a).stop i H ∧ Qd H) ∨ ((Itt K a).go i H ∧ ∃ Nx : Hp → Prop, (∀ H', Nx H' → ∃ m', m' < m ∧ W (i + 1) m' H') ∧ ∀ x H', (Itt K a).yld i H x H' → g x (wipe σ vs) H' fun σ2 H2 => wipe σ2 vs = wipe σ vs ∧ tt σ2 H2 fun b H3 =>
        if b = true then te σ2 H3 fun y H4 => ∃ acc, H4 D = some (.lst acc) ∧ acc.length < sizeLine ∧ Nx (upd H4 D (.lst (acc ++ [y]))) else Nx H3) := by
  refine ⟨fun i m H => m = xs.length - i ∧ i ≤ xs.length ∧ Pv i H, ⟨xs.length, by simp, Nat.zero_le _, h0⟩, ?_⟩
  rintro i m H ⟨rfl, hi, p⟩
  have q := hl i H hi p
  by_cases hlt : i < xs.length
  · refine .inr ⟨⟨xs, xs[i], q, by simp [hlt]⟩, Pv (i + 1), fun H' p' => ⟨xs.length - (i + 1), by omega, rfl, hlt, p'⟩, fun x H' y => ?_⟩
    obtain ⟨e, y⟩ := y
    subst e
    exact hs i x _ (y xs q) p
  · have e : i = xs.length := by omega
    subst e
    exact .inl ⟨⟨xs, q, Nat.le_refl _⟩, hd H p⟩
def blkC (N : List Str) (sc scope : Scope) (own : List (Str × Nat)) : Bool :=
  (match scope.kind with | .function => true | _ => false) && (scope.names.all fun y => decide (scope.names.lookup y.1 = some y.2)) && (own.all fun p => decide (N[p.2]? = some p.1)) &&
    (scope.names.all fun y => match y.2 with
      | .free => (match sc.names.lookup y.1 with | some .cell => true | some .free => true | _ => false)
      | .local => decide (y.1 ∈ own.map (·.1)) || decide (y.1 ∉ N)
      | .cell => decide (y.1 ∈ own.map (·.1)) || decide (y.1 ∉ N)
      | _ => true)
theorem blkOk_by {N : List Str} {sc scope : Scope} {own : List (Str × Nat)} (h : blkC N sc scope own = true) : BlkOk N sc scope own := by
  unfold blkC at h
  simp only [Bool.and_eq_true, List.all_eq_true, decide_eq_true_eq] at h
  obtain ⟨⟨⟨h1, h2⟩, h3⟩, h4⟩ := h
  refine ⟨?_, h2, h3, fun y hy e => ?_, fun y hy e => ?_⟩
  · split at h1
    · assumption
    · cases h1
  · have q := h4 y hy
    simp only [e] at q
    split at q <;> first | exact .inl (by assumption) | exact .inr (by assumption) | cases q
  · have q := h4 y hy
    rcases e with e | e <;> (simp only [e, Bool.or_eq_true, decide_eq_true_eq] at q; exact q)
end L2

namespace L2
open PySem PySem.Spec PyProof.Rows

theorem compTurn2_out (elt t0 i0 t1 i1 : Expr) (ifs0 ifs1 : List Expr) (scope : Scope) (pos : Pos) (it acc : Value) (env : Env) :
    compTurn (.ListComp elt [⟨t0, i0, ifs0, 0⟩, ⟨t1, i1, ifs1, 0⟩] scope pos) 0 it acc env = (do
      standAt i0.pos
      match ← pyNext it with
      | none => pure (.done .next)
      | some v =>
        letOwnedTupleGo t0 it v
        assign t0 env v
        let mut ok := true
        for c in ifs0 do
          if ok then ok ← isTrue c env (eval c env)
        if ok then
          let x ← eval i1 env
          standAt i1.pos
          let x ← foldedSetIterable i1 env x
          let _ ← runOwn (.compStart (.ListComp elt [⟨t0, i0, ifs0, 0⟩, ⟨t1, i1, ifs1, 0⟩] scope pos) 1 (← holding [x] (pyIter x)) acc env) env
        again (.compLoop (.ListComp elt [⟨t0, i0, ifs0, 0⟩, ⟨t1, i1, ifs1, 0⟩] scope pos) 0 it acc env)) := by rfl
theorem compTurn2_in (elt t0 i0 t1 i1 : Expr) (ifs0 ifs1 : List Expr) (scope : Scope) (pos : Pos) (it acc : Value) (env : Env) :
    compTurn (.ListComp elt [⟨t0, i0, ifs0, 0⟩, ⟨t1, i1, ifs1, 0⟩] scope pos) 1 it acc env = (do
      standAt i1.pos
      match ← pyNext it with
      | none => pure (.done .next)
      | some v =>
        letOwnedTupleGo t1 it v
        assign t1 env v
        let mut ok := true
        for c in ifs1 do
          if ok then ok ← isTrue c env (eval c env)
        if ok then
          (do let _ ← call (.builtin "list.append") [acc, ← eval elt env])
        again (.compLoop (.ListComp elt [⟨t0, i0, ifs0, 0⟩, ⟨t1, i1, ifs1, 0⟩] scope pos) 1 it acc env)) := by rfl

section
variable {prog : Program} {w : World} {A : Around} {R : Result → Shared → Prop} {s : Shared} {elt t0 i0 t1 i1 : Expr} {ifs0 ifs1 : List Expr} {scope : Scope} {pos : Pos} {it acc : Value} {env : Env}
/-- the loop of the first clause -/
theorem compLoop2_out (hs : ∀ x, foldedSetIterable i1 env x = pure x) (I : Nat → Shared → Prop)
    (turn : ∀ n s, I n s → wpAny (model prog w) A (pyNext it) (fun r s₁ => match r with
      | none => R (.ok .next) s₁
      | some v => wpAny (model prog w) A (letOwnedTupleGo t0 it v) (fun _ s₁' => wpAny (model prog w) A (assign t0 env v) (fun _ s₂ =>
          wpAny (model prog w) A (forIn ifs0 true fun c r => if r = true then do let ok ← isTrue c env (eval c env); pure (ForInStep.yield ok) else pure (ForInStep.yield r)) (fun ok s₃ =>
            if ok = true then wpAny (model prog w) A (eval i1 env) (fun x s₄ => wpAny (model prog w) A (pyIter x) (fun it1 s₅ =>
              codeAny (model prog w) A (.compStart (.ListComp elt [⟨t0, i0, ifs0, 0⟩, ⟨t1, i1, ifs1, 0⟩] scope pos) 1 it1 acc env) (fun r s' => match r with
                | .ok _ => ∃ m, m < n ∧ I m s'
                | .error _ => False) s₅) (notedBy (model prog w) A env fun e s' => R (.error e) s') s₄) (notedBy (model prog w) A env fun e s' => R (.error e) s') s₃
            else ∃ m, m < n ∧ I m s₃) (notedBy (model prog w) A env fun e s' => R (.error e) s') s₂) (notedBy (model prog w) A env fun e s' => R (.error e) s') s₁') (notedBy (model prog w) A env fun e s' => R (.error e) s') s₁) (notedBy (model prog w) A env fun e s' => R (.error e) s') s)
    (n : Nat) (h : I n s) :
    codeAny (model prog w) A (.compLoop (.ListComp elt [⟨t0, i0, ifs0, 0⟩, ⟨t1, i1, ifs1, 0⟩] scope pos) 0 it acc env) R s := by
  refine codeAny_loop rfl I (fun n s hI => ?_) n h
  show wpAny _ A ((compTurn (.ListComp elt [⟨t0, i0, ifs0, 0⟩, ⟨t1, i1, ifs1, 0⟩] scope pos) 0 it acc env).onRaise (fun x => do noteFrame x env; theTreesLotGoes x)) _ _ s
  refine wpAny_noted ?_
  rw [compTurn2_out]
  refine wpAny_bind (wpAny_standAt (wpAny_bind (wpAny_mono (turn n s hI) (fun r s₁ h₁ => ?_) fun _ _ h' => h')))
  cases r with
  | none => exact wpAny_pure h₁
  | some v =>
    refine wpAny_bind (wpAny_mono h₁ (fun _ s₁' h₁' => ?_) fun _ _ h' => h')
    refine wpAny_bind (wpAny_mono h₁' (fun _ s₂ h₂ => wpAny_bind (wpAny_mono h₂ (fun ok s₃ h₃ => ?_) fun _ _ h' => h')) fun _ _ h' => h')
    cases ok with
    | false => exact wpAny_pure ⟨rfl, h₃⟩
    | true =>
      refine wpAny_bind (wpAny_mono h₃ (fun x s₄ h₄ => ?_) fun _ _ h' => h')
      refine wpAny_bind (wpAny_standAt (wpAny_bind (wpAny_of_eq (hs x) (wpAny_bind (wpAny_holding (wpAny_mono h₄ (fun it1 s₅ h₅ => ?_) fun _ _ h' => h'))))))
      refine wpAny_bind (wpAny_runOwn ?_)
      rw [Around.mark_none]
      refine codeAny_mono h₅ fun r s' hr => ?_
      cases r with
      | ok f =>
        first
          | exact wpAny_pure ⟨rfl, hr⟩
          | exact wpAny_bind (wpAny_pure (wpAny_pure ⟨rfl, hr⟩))
      | error e => exact hr.elim
/-- the loop of the second -/
theorem compLoop2_in (I : Nat → Shared → Prop)
    (turn : ∀ n s, I n s → wpAny (model prog w) A (pyNext it) (fun r s₁ => match r with
      | none => R (.ok .next) s₁
      | some v => wpAny (model prog w) A (letOwnedTupleGo t1 it v) (fun _ s₁' => wpAny (model prog w) A (assign t1 env v) (fun _ s₂ =>
          wpAny (model prog w) A (forIn ifs1 true fun c r => if r = true then do let ok ← isTrue c env (eval c env); pure (ForInStep.yield ok) else pure (ForInStep.yield r)) (fun ok s₃ =>
            if ok = true then wpAny (model prog w) A (eval elt env) (fun x s₄ =>
              wpAny (model prog w) A (call (.builtin "list.append") [acc, x]) (fun _ s₅ => ∃ m, m < n ∧ I m s₅) (notedBy (model prog w) A env fun e s' => R (.error e) s') s₄) (notedBy (model prog w) A env fun e s' => R (.error e) s') s₃
            else ∃ m, m < n ∧ I m s₃) (notedBy (model prog w) A env fun e s' => R (.error e) s') s₂) (notedBy (model prog w) A env fun e s' => R (.error e) s') s₁') (notedBy (model prog w) A env fun e s' => R (.error e) s') s₁) (notedBy (model prog w) A env fun e s' => R (.error e) s') s)
    (n : Nat) (h : I n s) :
    codeAny (model prog w) A (.compLoop (.ListComp elt [⟨t0, i0, ifs0, 0⟩, ⟨t1, i1, ifs1, 0⟩] scope pos) 1 it acc env) R s := by
  refine codeAny_loop rfl I (fun n s hI => ?_) n h
  show wpAny _ A ((compTurn (.ListComp elt [⟨t0, i0, ifs0, 0⟩, ⟨t1, i1, ifs1, 0⟩] scope pos) 1 it acc env).onRaise (fun x => do noteFrame x env; theTreesLotGoes x)) _ _ s
  refine wpAny_noted ?_
  rw [compTurn2_in]
  refine wpAny_bind (wpAny_standAt (wpAny_bind (wpAny_mono (turn n s hI) (fun r s₁ h₁ => ?_) fun _ _ h' => h')))
  cases r with
  | none => exact wpAny_pure h₁
  | some v =>
    refine wpAny_bind (wpAny_mono h₁ (fun _ s₁' h₁' => ?_) fun _ _ h' => h')
    refine wpAny_bind (wpAny_mono h₁' (fun _ s₂ h₂ => wpAny_bind (wpAny_mono h₂ (fun ok s₃ h₃ => ?_) fun _ _ h' => h')) fun _ _ h' => h')
    cases ok with
    | false => exact wpAny_pure ⟨rfl, h₃⟩
    | true =>
      exact wpAny_bind (wpAny_bind (wpAny_mono h₃ (fun x s₄ h₄ => wpAny_bind (wpAny_mono h₄ (fun _ s₅ h₅ => wpAny_pure (wpAny_pure ⟨rfl, h₅⟩)) fun _ _ h' => h')) fun _ _ h' => h'))
/-- the second clause's start -/
theorem compStart1_ok (h0 : codeAny (model prog w) A (.compLoop (.ListComp elt [⟨t0, i0, ifs0, 0⟩, ⟨t1, i1, ifs1, 0⟩] scope pos) 1 it acc env) R s)
    (h : wpAny (model prog w) A (pyIter it) (fun it' s' => codeAny (model prog w) A (.compLoop (.ListComp elt [⟨t0, i0, ifs0, 0⟩, ⟨t1, i1, ifs1, 0⟩] scope pos) 1 it' acc env) R s')
      (notedBy (model prog w) A env fun x s' => R (.error x) s') s) :
    codeAny (model prog w) A (.compStart (.ListComp elt [⟨t0, i0, ifs0, 0⟩, ⟨t1, i1, ifs1, 0⟩] scope pos) 1 it acc env) R s := by
  refine codeAny_of_tree ?_
  show wpAny _ _ ((compStart (.ListComp elt [⟨t0, i0, ifs0, 0⟩, ⟨t1, i1, ifs1, 0⟩] scope pos) 1 it acc env).onRaise (fun x => do noteFrame x env; standAt theWindowsPlace)) _ _ s
  refine wpAny_notedAt ?_
  unfold compStart
  show wpAny _ _ (ask >>= _) _ _ s
  refine wpAny_bind (wpAny_askSetting (wpAny_ite ?_))
  split
  · first
      | exact wpAny_bind (wpAny_pure (wpAny_pure (And.intro rfl h0)))
      | exact wpAny_pure (And.intro rfl h0)
  · first
      | exact wpAny_bind (wpAny_rule (wpAny_bind (wpAny_standAt (wpAny_bind (wpAny_mono h (fun it' s' h' => wpAny_pure (And.intro rfl h')) fun _ _ x => x)))))
      | (refine wpAny_bind (wpAny_rule ?_); show wpAny _ _ (standAt i1.pos >>= _) _ _ s; exact wpAny_bind (wpAny_standAt (wpAny_bind (wpAny_mono h (fun it' s' h' => wpAny_pure (And.intro rfl h')) fun _ _ x => x))))
end

theorem wipe_out {σ : St} {i : Nat} : ∀ {vs : List Nat}, i ∉ vs → (wipe σ vs)[i]? = σ[i]?
  | [], _ => rfl
  | v :: vs, h => by
    have h1 : v ≠ i := fun e => h (by rw [e]; exact List.mem_cons_self)
    have h2 : i ∉ vs := fun m => h (List.mem_cons_of_mem _ m)
    unfold wipe
    rw [List.getElem?_set_ne h1]
    exact wipe_out h2
section
variable {X : Cx}
/-- [elt for tg in iter if .. for tg1 in iter1 if ..]: behind the first clause's store and tests the second source's own loop, from which Nx is reached. vs: the block's names; vs1: those of the second target -/
def tLc2 (wi : TI) (g : TG) (tt : TT) (wi1 : TI) (g1 : TG) (tt1 : TT) (te : TE) (vs vs1 : List Nat) : TE := fun σ H Q => wi σ H fun J H1 => ∀ D, H1 D = none → ∃ W : Nat → Nat → Hp → Prop, (∃ m, W 0 m (upd H1 D (.lst []))) ∧ ∀ i m H, W i m H →
  (J.stop i H ∧ Q (.ref D) H) ∨ (J.go i H ∧ ∃ Nx : Hp → Prop, (∀ H', Nx H' → ∃ m', m' < m ∧ W (i + 1) m' H') ∧ ∀ x H', J.yld i H x H' → g x (wipe σ vs) H' fun σ2 H2 => wipe σ2 vs = wipe σ vs ∧ tt σ2 H2 fun b H3 =>
    if b = true then wi1 σ2 H3 fun J1 H4 => ∃ W1 : Nat → Nat → Hp → Prop, (∃ m, W1 0 m H4) ∧ ∀ j k H, W1 j k H →
      (J1.stop j H ∧ Nx H) ∨ (J1.go j H ∧ ∃ Nx1 : Hp → Prop, (∀ H', Nx1 H' → ∃ k', k' < k ∧ W1 (j + 1) k' H') ∧ ∀ x H', J1.yld j H x H' → g1 x (wipe σ2 vs1) H' fun σ3 H5 => wipe σ3 vs1 = wipe σ2 vs1 ∧ tt1 σ3 H5 fun b H6 =>
        if b = true then te σ3 H6 fun y H7 => ∃ acc, H7 D = some (.lst acc) ∧ acc.length < sizeLine ∧ Nx1 (upd H7 D (.lst (acc ++ [y]))) else Nx1 H6)
    else Nx H3)
theorem lc2_core {pins : List (Addr × Obj)} {s : Shared} {σ : St} {H : Hp} {Q : VK} {elt tg iter tg1 iter1 : Expr} {ifs ifs1 : List Expr} {scope : Scope} {own : List (Str × Nat)} {vs1 : List Nat} {pos pos' : Pos} {wi wi1 : TI} {g g1 : TG} {tt tt1 : TT} {te : TE} {use : Option (Value → Sem Unit)} {Qf : Value → Shared → Prop}
    (hc : X.calm = true) (hN : X.N.Nodup) (I : Inv X pins σ H s) (hi : PI X tg iter wi) (ok : BlkOk X.N X.env.scope scope own) (hv : ∀ i ∈ vs1, i ∈ own.map (·.2))
    (hg : ∀ (s : Shared) (H : Hp) (C : Addr) (cl : List (Str × Addr)) (fp : List Addr), PG (X.blk s H scope (compEnvC scope cl C X.env) fp) tg g) (ht : ∀ (s : Shared) (H : Hp) (C : Addr) (cl : List (Str × Addr)) (fp : List Addr), PTs (X.blk s H scope (compEnvC scope cl C X.env) fp) ifs tt)
    (he : ∀ (s : Shared) (H : Hp) (C : Addr) (cl : List (Str × Addr)) (fp : List Addr), PE (X.blk s H scope (compEnvC scope cl C X.env) fp) elt te) (hs : ∀ x, foldedSetIterable iter X.env x = pure x)
    (hi1 : ∀ (s : Shared) (H : Hp) (C : Addr) (cl : List (Str × Addr)) (fp : List Addr), PI (X.blk s H scope (compEnvC scope cl C X.env) fp) tg1 iter1 wi1)
    (hg1 : ∀ (s : Shared) (H : Hp) (C : Addr) (cl : List (Str × Addr)) (fp : List Addr), PG (X.blk s H scope (compEnvC scope cl C X.env) fp) tg1 g1)
    (ht1 : ∀ (s : Shared) (H : Hp) (C : Addr) (cl : List (Str × Addr)) (fp : List Addr), PTs (X.blk s H scope (compEnvC scope cl C X.env) fp) ifs1 tt1)
    (hs1 : ∀ env x, foldedSetIterable iter1 env x = pure x)
    (h : tLc2 wi g tt wi1 g1 tt1 te (own.map (·.2)) vs1 σ H Q)
    (hRR : ∀ D C s' m H', Inv X pins σ H' s' → Q (.ref D) H' → s'.heap.Ns C m → FpOk X pins H' C → compPost (model X.prog X.w) X.A X.xe use Qf (.ref D) C (.ok .next) s') :
    wpAny (model X.prog X.w) X.A (comprehension (.ListComp elt [⟨tg, iter, ifs, 0⟩, ⟨tg1, iter1, ifs1, 0⟩] scope pos) scope X.env pos' (newList []) false (eval iter X.env) use) Qf X.xe s := by
  have hfree : ∀ y ∈ scope.names, y.2 = .free → ∃ c, X.env.cells.lookup y.1 = some c := fun y hy e => by
    rcases ok.free y hy e with k | k
    · exact I.ok.has _ (.inl k)
    · exact I.ok.has _ (.inr k)
  refine wpAny_comprehension_free (use := use) rfl hs (closure_ok hfree) ok.kind (fun y hy e => by rw [ok.uniq y hy, e])
    (thn (hi pins s σ H _ I h) fun xv s1 hx => thn hx fun itv s2 h2 => ?_)
  obtain ⟨it, fp, tn, J, H2, e, I2, T, st2, f2, q⟩ := h2
  subst e
  refine wpAny_newObj_type (newEnv_comp ?_) (by show 0 ≤ sizeLine; decide)
  generalize hD : s2.heap.objs.size = D
  have hDn : H2 D = none := I2.hok.fresh (Nat.le_of_eq hD)
  obtain ⟨W, ⟨m0, w0⟩, turn⟩ := q D hDn
  -- the new list
  generalize hs3 : ({ s2 with heap := s2.heap.push { cls := .type "list", data := .seq ([] : List Value).toArray } } : Shared) = s3
  have I3 : Inv X pins σ (upd H2 D (.lst [])) s3 := by
    rw [← hs3]
    refine I2.laid (t' := s2.toks) (fun b o e => Heap.get?_push_of_some _ e) (Nat.le_of_eq hD) ⟨Nat.zero_le _, [], 0, .nil, ?_⟩
    rw [← hD]
    exact Heap.get?_push_size _ rfl
  have h3 : s3.heap = s2.heap.push { cls := .type "list", data := .seq ([] : List Value).toArray } := by rw [← hs3]
  have sz : ∀ b ∈ fp, b < s2.heap.objs.size := fun b hb => by
    obtain ⟨o, e, _⟩ := T.obj _ _ st2 b hb
    exact Heap.lt_size e
  have f3 : ∀ b ∈ fp, FpOk X pins (upd H2 D (.lst [])) b ∧ b < s3.heap.objs.size := fun b hb => by
    have hlt := sz b hb
    refine ⟨⟨?_, (f2 b hb).2⟩, by rw [h3, Heap.size_push]; exact Nat.lt_succ_of_lt hlt⟩
    rw [upd_ne (by rw [← hD]; exact Nat.ne_of_lt hlt)]
    exact (f2 b hb).1
  have st3 : tn 0 s3.heap := T.keep _ _ _ st2 fun b _ o e => by rw [h3]; exact Heap.get?_push_of_some _ e
  have I4 := block_start I3 ok hN f3
  have pg := hg s3 (upd H2 D (.lst [])) s3.heap.objs.size (cellsFrom (s3.heap.objs.size + 1) scope.names (cloFrom X.env.cells scope.names [])) fp
  have pt := ht s3 (upd H2 D (.lst [])) s3.heap.objs.size (cellsFrom (s3.heap.objs.size + 1) scope.names (cloFrom X.env.cells scope.names [])) fp
  have pe := he s3 (upd H2 D (.lst [])) s3.heap.objs.size (cellsFrom (s3.heap.objs.size + 1) scope.names (cloFrom X.env.cells scope.names [])) fp
  have pi1 := hi1 s3 (upd H2 D (.lst [])) s3.heap.objs.size (cellsFrom (s3.heap.objs.size + 1) scope.names (cloFrom X.env.cells scope.names [])) fp
  have pg1 := hg1 s3 (upd H2 D (.lst [])) s3.heap.objs.size (cellsFrom (s3.heap.objs.size + 1) scope.names (cloFrom X.env.cells scope.names [])) fp
  have pt1 := ht1 s3 (upd H2 D (.lst [])) s3.heap.objs.size (cellsFrom (s3.heap.objs.size + 1) scope.names (cloFrom X.env.cells scope.names [])) fp
  show codeAny _ _ (.compStart (.ListComp elt [⟨tg, iter, ifs, 0⟩, ⟨tg1, iter1, ifs1, 0⟩] scope pos) 0 (.ref it) (.ref D) (compEnvC scope (cellsFrom (s3.heap.objs.size + 1) scope.names (cloFrom X.env.cells scope.names [])) s3.heap.objs.size X.env)) (compPost (model X.prog X.w) X.A X.xe use Qf (.ref D) s3.heap.objs.size) { s3 with heap := pushCells (s3.heap.push { cls := .type "dict", data := .dict #[] }) scope.names }
  have nfp : ∀ b ∈ fp, (upd H2 D (.lst [])) b = none := fun b hb => (f3 b hb).1.1
  generalize hce : compEnvC scope (cellsFrom (s3.heap.objs.size + 1) scope.names (cloFrom X.env.cells scope.names [])) s3.heap.objs.size X.env = ce at I4 pg pt pe pi1 pg1 pt1 ⊢
  have cL : ce.locals = s3.heap.objs.size := by subst hce; rfl
  generalize hH3 : upd H2 D (.lst []) = H3 at I3 I4 pg pt pe pi1 pg1 pt1 w0 nfp f3
  generalize hs4 : ({ s3 with heap := pushCells (s3.heap.push { cls := .type "dict", data := .dict #[] }) scope.names } : Shared) = s4 at I4 ⊢
  have st4 : tn 0 s4.heap := T.keep _ _ _ st3 fun b _ o e => by rw [← hs4]; exact pushCells_keeps _ _ _ _ (Heap.get?_push_of_some _ e)
  have stat : ∀ {σ' : St} {H' : Hp} {s' : Shared}, Inv (X.blk s3 H3 scope ce fp) [] σ' H' s' → (∀ b ∈ fp, H' b = none) → ∀ b ∈ fp, FpOk (X.blk s3 H3 scope ce fp) [] H' b := fun {σ' H' s'} I' hn b hb =>
    ⟨hn b hb, (I'.ok.exf b hb).1, I'.ok.exfs b hb, .inl hb, fun x c e => (I'.ok.exf b hb).2 x c e, fun p hp => absurd (show p ∈ ([] : List (Addr × Obj)) ++ [] from hp) (by simp)⟩
  have loop : codeAny (model X.prog X.w) X.A (.compLoop (.ListComp elt [⟨tg, iter, ifs, 0⟩, ⟨tg1, iter1, ifs1, 0⟩] scope pos) 0 (.ref it) (.ref D) ce) (compPost (model X.prog X.w) X.A X.xe use Qf (.ref D) s3.heap.objs.size) s4 := by
    refine compLoop2_out (hs1 ce) (fun n s' => ∃ i H', Inv (X.blk s3 H3 scope ce fp) [] (wipe σ (own.map (·.2))) H' s' ∧ tn i s'.heap ∧ (∀ b ∈ fp, H' b = none) ∧ W i n H') ?_ m0 ⟨0, H3, I4, st4, nfp, w0⟩
    rintro n s5 ⟨i, H5, I5, st5, n5, w5⟩
    rcases turn i n H5 w5 with ⟨stop, qq⟩ | ⟨go, Nx, hNx, step⟩
    · have td := T.done (X.blk s3 H3 scope ce fp) rfl rfl rfl hc i [] s5 _ H5 (fun _ _ => False) I5 (stat I5 n5) st5 stop
      refine thnF td fun r s6 ⟨hr, I6⟩ => ?_
      subst hr
      -- back in the def's context
      have I7 : Inv X pins σ H5 s6 := I3.call' (ch := fp) I6.os I6.base I6.hok I6.bare fun b hb => ⟨(f3 b hb).1.2.2.2.1, (f3 b hb).1.2.1, (f3 b hb).1.2.2.2.2.1, (f3 b hb).1.2.2.2.2.2⟩
      have nC : H5 s3.heap.objs.size = none := by
        have z : H5 ce.locals = none := I6.free
        rw [cL] at z
        exact z
      obtain ⟨m, hn, _⟩ := I6.loc
      have hn : s6.heap.Ns ce.locals m := hn
      rw [cL] at hn
      exact hRR D s3.heap.objs.size s6 m H5 I7 qq hn (I3.fpOk (Nat.le_refl _) nC)
    · have ti := T.item (X.blk s3 H3 scope ce fp) rfl rfl rfl hc i [] s5 _ H5 (fun _ _ => False) I5 (stat I5 n5) st5 go
      refine thnF ti fun r s6 ⟨u, hr, h6⟩ => ?_
      subst hr
      refine thnF h6 fun _ s7 ⟨x, H7, I7, r7, y7, st7, n7⟩ => ?_
      have I7' := I7.pinned (stat I7 n7) (T.obj _ _ st7)
      refine thnF (pg _ s7 _ H7 x u _ I7' r7 (step x H7 y7)) fun _ s8 ⟨σ8, H8, I8, hw8, q8⟩ => ?_
      refine thnF (pt _ s8 σ8 H8 _ I8 q8) fun b s9 ⟨H9, I9, q9⟩ => ?_
      -- the turn's end, from any slots that know what the block knew at its start
      have fin : ∀ {σ9 : St} {s' : Shared} {H' : Hp}, Inv (X.blk s3 H3 scope ce fp) ([] ++ pinsAt fp s7.heap) σ9 H' s' → (wipe σ (own.map (·.2))).length = σ9.length → (∀ (j : Nat) v, (wipe σ (own.map (·.2)))[j]? = some (some v) → σ9[j]? = some (some v)) → Nx H' →
          ∃ m, m < n ∧ ∃ i H', Inv (X.blk s3 H3 scope ce fp) [] (wipe σ (own.map (·.2))) H' s' ∧ tn i s'.heap ∧ (∀ b ∈ fp, H' b = none) ∧ W i m H' := fun {σ9 s' H'} I' hl hk nx => by
        obtain ⟨m', hm, w'⟩ := hNx H' nx
        have pin' : ∀ b ∈ fp, ∀ o, s7.heap.get? b = some o → s'.heap.get? b = some o ∧ H' b = none := fun b hb o e =>
          let z := I'.pin (b, o) (List.mem_append_right _ (List.mem_append_right _ (mem_pinsAt hb e)))
          ⟨z.1, z.2.1⟩
        refine ⟨m', hm, i + 1, H', (I'.unpinned (pins := [])).weak hl hk, T.keep _ _ _ st7 fun b hb o e => (pin' b hb o e).1, fun b hb => ?_, w'⟩
        obtain ⟨o, e, _⟩ := T.obj _ _ st7 b hb
        exact (pin' b hb o e).2
      have hl8 : (wipe σ (own.map (·.2))).length = σ8.length := by rw [← hw8, wipe_length]
      have hk8 : ∀ (j : Nat) v, (wipe σ (own.map (·.2)))[j]? = some (some v) → σ8[j]? = some (some v) := fun j v e => by
        rw [← hw8] at e
        exact (wipe_some e).1
      have hk9 : ∀ (j : Nat) v, (wipe σ (own.map (·.2)))[j]? = some (some v) → (wipe σ8 vs1)[j]? = some (some v) := fun j v e => by
        rw [← hw8] at e
        obtain ⟨e1, e2⟩ := wipe_some e
        rw [wipe_out fun z => e2 (hv j z)]
        exact e1
      cases b with
      | false =>
        simp only [Bool.false_eq_true, if_false] at q9 ⊢
        exact fin I9 hl8 hk8 q9
      | true =>
        simp only [if_true] at q9 ⊢
        refine thnF (pi1 _ s9 σ8 H9 _ I9 q9) fun xv s10 hx => thnF hx fun itv s11 h11 => ?_
        obtain ⟨it1, fp1, tn1, J1, H11, e1, I11, T1, st11, f11, W1, ⟨m1, w1⟩, turn1⟩ := h11
        subst e1
        -- the inner loop
        have stat1 : ∀ {H' : Hp}, (∀ b ∈ fp1, H' b = none) → ∀ b ∈ fp1, FpOk (X.blk s3 H3 scope ce fp) ([] ++ pinsAt fp s7.heap) H' b := fun hn b hb => ⟨hn b hb, (f11 b hb).2⟩
        have loop1 : codeAny (model X.prog X.w) X.A (.compLoop (.ListComp elt [⟨tg, iter, ifs, 0⟩, ⟨tg1, iter1, ifs1, 0⟩] scope pos) 1 (.ref it1) (.ref D) ce)
            (fun r s' => match r with
              | .ok _ => ∃ m, m < n ∧ ∃ i H', Inv (X.blk s3 H3 scope ce fp) [] (wipe σ (own.map (·.2))) H' s' ∧ tn i s'.heap ∧ (∀ b ∈ fp, H' b = none) ∧ W i m H'
              | .error _ => False) s11 := by
          refine compLoop2_in (fun k s' => ∃ j H', Inv (X.blk s3 H3 scope ce fp) ([] ++ pinsAt fp s7.heap) (wipe σ8 vs1) H' s' ∧ tn1 j s'.heap ∧ (∀ b ∈ fp1, H' b = none) ∧ W1 j k H') ?_ m1 ⟨0, H11, I11.weak (wipe_length _ _) (fun j v e => (wipe_some e).1), st11, fun b hb => (f11 b hb).1, w1⟩
          rintro k s12 ⟨j, H12, I12, st12, n12, w12⟩
          rcases turn1 j k H12 w12 with ⟨stop1, nx1⟩ | ⟨go1, Nx1, hNx1, step1⟩
          · refine thnF (T1.done (X.blk s3 H3 scope ce fp) rfl rfl rfl hc j _ s12 (wipe σ8 vs1) H12 (fun _ _ => False) I12 (stat1 n12) st12 stop1) fun r s13 ⟨hr, I13⟩ => ?_
            subst hr
            exact fin I13 (hl8.trans (wipe_length σ8 vs1).symm) hk9 nx1
          · refine thnF (T1.item (X.blk s3 H3 scope ce fp) rfl rfl rfl hc j _ s12 (wipe σ8 vs1) H12 (fun _ _ => False) I12 (stat1 n12) st12 go1) fun r s13 ⟨u1, hr, h13⟩ => ?_
            subst hr
            refine thnF h13 fun _ s14 ⟨x1, H14, I14, r14, y14, st14, n14⟩ => ?_
            have I14' := I14.pinned (stat1 n14) (T1.obj _ _ st14)
            refine thnF (pg1 _ s14 (wipe σ8 vs1) H14 x1 u1 _ I14' r14 (step1 x1 H14 y14)) fun _ s15 ⟨σ15, H15, I15, hw15, q15⟩ => ?_
            refine thnF (pt1 _ s15 σ15 H15 _ I15 q15) fun b1 s16 ⟨H16, I16, q16⟩ => ?_
            have fin1 : ∀ {s' : Shared} {H' : Hp}, Inv (X.blk s3 H3 scope ce fp) (([] ++ pinsAt fp s7.heap) ++ pinsAt fp1 s14.heap) σ15 H' s' → Nx1 H' → ∃ m, m < k ∧ ∃ j H', Inv (X.blk s3 H3 scope ce fp) ([] ++ pinsAt fp s7.heap) (wipe σ8 vs1) H' s' ∧ tn1 j s'.heap ∧ (∀ b ∈ fp1, H' b = none) ∧ W1 j m H' := fun {s' H'} I' nx => by
              obtain ⟨m', hm, w'⟩ := hNx1 H' nx
              have pin' : ∀ b ∈ fp1, ∀ o, s14.heap.get? b = some o → s'.heap.get? b = some o ∧ H' b = none := fun b hb o e =>
                let z := I'.pin (b, o) (List.mem_append_right _ (List.mem_append_right _ (mem_pinsAt hb e)))
                ⟨z.1, z.2.1⟩
              refine ⟨m', hm, j + 1, H', I'.unpinned.weak (by rw [← hw15, wipe_length]) (fun j v e => by rw [← hw15] at e; exact (wipe_some e).1), T1.keep _ _ _ st14 fun b hb o e => (pin' b hb o e).1, fun b hb => ?_, w'⟩
              obtain ⟨o, e, _⟩ := T1.obj _ _ st14 b hb
              exact (pin' b hb o e).2
            cases b1 with
            | false =>
              simp only [Bool.false_eq_true, if_false] at q16 ⊢
              exact fin1 I16 q16
            | true =>
              simp only [if_true] at q16 ⊢
              refine thnF (pe _ s16 σ15 H16 _ I16 q16) fun z s17 ⟨yv, H17, I17, r17, acc, hD17, hz17, nx⟩ => ?_
              exact app_ok (X := X.blk s3 H3 scope ce fp) I17 hD17 hz17 r17 fun s18 I18 => fin1 I18 nx
        exact compStart1_ok loop1 (T1.self X.A 0 _ _ _ st11 loop1)
  exact codeAny_compStart_list loop (T.self X.A 0 _ _ _ st4 loop)
/-- as a value -/
theorem pe_lc2 {elt tg iter tg1 iter1 : Expr} {ifs ifs1 : List Expr} {scope : Scope} {own : List (Str × Nat)} {vs1 : List Nat} {pos : Pos} {wi wi1 : TI} {g g1 : TG} {tt tt1 : TT} {te : TE} (hc : X.calm = true) (hN : X.N.Nodup) (hi : PI X tg iter wi) (ok : BlkOk X.N X.env.scope scope own) (hv : ∀ i ∈ vs1, i ∈ own.map (·.2))
    (hg : ∀ (s : Shared) (H : Hp) (C : Addr) (cl : List (Str × Addr)) (fp : List Addr), PG (X.blk s H scope (compEnvC scope cl C X.env) fp) tg g) (ht : ∀ (s : Shared) (H : Hp) (C : Addr) (cl : List (Str × Addr)) (fp : List Addr), PTs (X.blk s H scope (compEnvC scope cl C X.env) fp) ifs tt)
    (hi1 : ∀ (s : Shared) (H : Hp) (C : Addr) (cl : List (Str × Addr)) (fp : List Addr), PI (X.blk s H scope (compEnvC scope cl C X.env) fp) tg1 iter1 wi1)
    (hg1 : ∀ (s : Shared) (H : Hp) (C : Addr) (cl : List (Str × Addr)) (fp : List Addr), PG (X.blk s H scope (compEnvC scope cl C X.env) fp) tg1 g1) (ht1 : ∀ (s : Shared) (H : Hp) (C : Addr) (cl : List (Str × Addr)) (fp : List Addr), PTs (X.blk s H scope (compEnvC scope cl C X.env) fp) ifs1 tt1)
    (he : ∀ (s : Shared) (H : Hp) (C : Addr) (cl : List (Str × Addr)) (fp : List Addr), PE (X.blk s H scope (compEnvC scope cl C X.env) fp) elt te) (hs : ∀ x, foldedSetIterable iter X.env x = pure x := by intro _; rfl) (hs1 : ∀ env x, foldedSetIterable iter1 env x = pure x := by intro _ _; rfl) :
    PE X (.ListComp elt [⟨tg, iter, ifs, 0⟩, ⟨tg1, iter1, ifs1, 0⟩] scope pos) (tLc2 wi g tt wi1 g1 tt1 te (own.map (·.2)) vs1) := by
  intro pins s σ H Q I h
  rw [eval_ListComp]
  refine lc2_core hc hN I hi ok hv hg ht he hs hi1 hg1 ht1 hs1 h fun D C s' m H' I' q hn f => ⟨m, hn, fun h'' sb => ?_⟩
  obtain ⟨f0, f1, f2, f3, f4, f5⟩ := f
  exact ⟨.ref D, H', I'.turned (t' := s'.toks) (fun b o hb e => (sb.2 b hb).trans e) f0 f1 f3 f4 f5, rfl, q⟩
end
end L2

namespace L2
open PySem PySem.Spec PyProof.Rows

/-! ### lists of pairs as tables -/
section
variable {κ : Type} [DecidableEq κ]
def valV (kvs : List (κ × V)) (k : κ) : Option V := (kvs.find? fun kv => decide (kv.1 = k)).map (·.2)
/-- in its place, or at the end -/
def putK (kvs : List (κ × V)) (k : κ) (v : V) : List (κ × V) :=
  if (kvs.any fun kv => decide (kv.1 = k)) = true then kvs.map (fun kv => if kv.1 = k then (kv.1, v) else kv) else kvs ++ [(k, v)]
def dropK (kvs : List (κ × V)) (k : κ) : List (κ × V) := kvs.filter fun kv => decide (kv.1 ≠ k)

theorem valV_pos {p : κ × V} {r : List (κ × V)} {k : κ} (e : p.1 = k) : valV (p :: r) k = some p.2 := by simp [valV, List.find?_cons, e]
theorem valV_neg {p : κ × V} {r : List (κ × V)} {k : κ} (e : ¬ p.1 = k) : valV (p :: r) k = valV r k := by simp [valV, List.find?_cons, e]
theorem valV_any (k : κ) : ∀ kvs : List (κ × V), (kvs.any fun kv => decide (kv.1 = k)) = (valV kvs k).isSome
  | [] => rfl
  | p :: r => by
    rw [List.any_cons]
    by_cases e : p.1 = k
    · simp only [valV_pos e, decide_eq_true e, Bool.true_or, Option.isSome_some]
    · rw [valV_neg e, decide_eq_false e, Bool.false_or]; exact valV_any k r
theorem valV_map (k j : κ) (y : V) : ∀ kvs : List (κ × V), valV (kvs.map fun kv => if kv.1 = k then (kv.1, y) else kv) j = (valV kvs j).map fun x => if j = k then y else x
  | [] => rfl
  | p :: r => by
    have ih := valV_map k j y r
    rw [List.map_cons]
    by_cases h : p.1 = k
    · rw [if_pos h]
      by_cases e : p.1 = j
      · rw [valV_pos (p := (p.1, y)) e, valV_pos e, Option.map_some, if_pos (e.symm.trans h)]
      · rw [valV_neg (p := (p.1, y)) e, valV_neg e, ih]
    · rw [if_neg h]
      by_cases e : p.1 = j
      · rw [valV_pos (p := p) e, valV_pos e, Option.map_some, if_neg (fun z => h (e.trans z))]
      · rw [valV_neg (p := p) e, valV_neg e, ih]
theorem valV_snoc (k j : κ) (y : V) : ∀ kvs : List (κ × V), valV kvs k = none → valV (kvs ++ [(k, y)]) j = if j = k then some y else valV kvs j
  | [], _ => by
    by_cases e : k = j
    · rw [if_pos e.symm]; exact valV_pos (p := (k, y)) e
    · rw [if_neg (fun z => e z.symm)]; exact valV_neg (p := (k, y)) e
  | p :: r, hn => by
    rw [List.cons_append]
    have hk : ¬ p.1 = k := fun z => by rw [valV_pos z] at hn; cases hn
    rw [valV_neg hk] at hn
    have ih := valV_snoc k j y r hn
    by_cases e : p.1 = j
    · rw [valV_pos e, valV_pos e, if_neg (fun z => hk (e.trans z))]
    · rw [valV_neg e, valV_neg e, ih]
theorem valV_put (kvs : List (κ × V)) (k j : κ) (y : V) : valV (putK kvs k y) j = if j = k then some y else valV kvs j := by
  unfold putK
  by_cases a : (kvs.any fun kv => decide (kv.1 = k)) = true
  · rw [if_pos a, valV_map]
    rw [valV_any] at a
    by_cases e : j = k
    · obtain ⟨x, hx⟩ := Option.isSome_iff_exists.mp a
      rw [if_pos e, e, hx, Option.map_some, if_pos rfl]
    · rw [if_neg e]
      cases valV kvs j with
      | none => rfl
      | some x => rw [Option.map_some, if_neg e]
  · rw [if_neg a]
    refine valV_snoc k j y kvs ?_
    rw [valV_any] at a
    cases q : valV kvs k with
    | none => rfl
    | some x => rw [q] at a; exact (a rfl).elim
theorem length_putK (kvs : List (κ × V)) (k : κ) (v : V) : (putK kvs k v).length ≤ kvs.length + 1 := by
  unfold putK
  split
  · rw [List.length_map]; omega
  · rw [List.length_append, List.length_cons, List.length_nil]; omega
theorem putK_new {kvs : List (κ × V)} {k : κ} (v : V) (h : valV kvs k = none) : putK kvs k v = kvs ++ [(k, v)] := by
  unfold putK
  rw [valV_any, h]
  exact if_neg (by decide)

theorem RelO.isSome_eq {o : Option V} {u : Option Value} (r : RelO o u) : o.isSome = u.isSome := by
  cases o with
  | none => cases u with
    | none => rfl
    | some _ => exact (show False from r).elim
  | some _ => cases u with
    | none => exact (show False from r).elim
    | some _ => rfl
theorem RelO.getD {o : Option V} {u : Option Value} {d : V} {d' : Value} (r : RelO o u) (rd : RelV d d') : RelV (o.getD d) (u.getD d') := by
  cases o with
  | none => cases u with
    | none => exact rd
    | some _ => exact (show False from r).elim
  | some _ => cases u with
    | none => exact (show False from r).elim
    | some _ => exact r

/-- raw tables of the same keys -/
theorem KV.val {kvs : List (κ × V)} {vs : List (κ × Value)} (r : KV kvs vs) (k : κ) : RelO (valV kvs k) (valueAt vs k) := by
  unfold KV at r
  induction r with
  | nil => exact True.intro
  | @cons p q ps qs h t ih =>
    obtain ⟨h1, h2⟩ := h
    by_cases e : p.1 = k
    · have e' : q.1 = k := h1.symm.trans e
      have b : valueAt (q :: qs) k = some q.2 := by simp [valueAt, List.find?_cons, e']
      rw [valV_pos e, b]; exact h2
    · have e' : ¬ q.1 = k := fun z => e (h1.trans z)
      have b : valueAt (q :: qs) k = valueAt qs k := by simp [valueAt, List.find?_cons, e']
      rw [valV_neg e, b]; exact ih
theorem KV.any {kvs : List (κ × V)} {vs : List (κ × Value)} (r : KV kvs vs) (k : κ) : (kvs.any fun kv => decide (kv.1 = k)) = vs.any fun kv => decide (kv.1 = k) := by
  unfold KV at r
  induction r with
  | nil => rfl
  | cons h t ih => rw [List.any_cons, List.any_cons, ih, h.1]
theorem KV.repl {kvs : List (κ × V)} {vs : List (κ × Value)} (r : KV kvs vs) (k : κ) {y : V} {u : Value} (ry : RelV y u) :
    KV (kvs.map fun kv => if kv.1 = k then (kv.1, y) else kv) (vs.map fun kv => if kv.1 = k then (kv.1, u) else kv) := by
  unfold KV at r ⊢
  induction r with
  | nil => exact .nil
  | @cons p q ps qs h t ih =>
    rw [List.map_cons, List.map_cons]
    refine .cons ?_ ih
    obtain ⟨h1, h2⟩ := h
    by_cases e : p.1 = k
    · rw [if_pos e, if_pos (h1.symm.trans e)]; exact ⟨h1, ry⟩
    · rw [if_neg e, if_neg (fun z => e (h1.trans z))]; exact ⟨h1, h2⟩
theorem KV.put {kvs : List (κ × V)} {vs : List (κ × Value)} (r : KV kvs vs) (k : κ) {y : V} {u : Value} (ry : RelV y u) : KV (putK kvs k y) (stored vs k u) := by
  unfold putK stored
  rw [r.any k]
  by_cases e : (vs.any fun kv => decide (kv.1 = k)) = true
  · rw [if_pos e, if_pos e]; exact r.repl k ry
  · rw [if_neg e, if_neg e]; exact Paired.snoc r ⟨rfl, ry⟩
theorem KV.drop {kvs : List (κ × V)} {vs : List (κ × Value)} (r : KV kvs vs) (k : κ) : KV (dropK kvs k) (without vs k) := by
  unfold KV at r ⊢
  unfold dropK without
  induction r with
  | nil => exact .nil
  | @cons p q ps qs h t ih =>
    obtain ⟨h1, h2⟩ := h
    rw [List.filter_cons, List.filter_cons]
    by_cases e : p.1 = k
    · have a : ¬ decide (p.1 ≠ k) = true := by simp [e]
      have b : ¬ decide (q.1 ≠ k) = true := by simp [h1.symm.trans e]
      rw [if_neg a, if_neg b]; exact ih
    · have e' : ¬ q.1 = k := fun z => e (h1.trans z)
      have a : decide (p.1 ≠ k) = true := by simp [e]
      have b : decide (q.1 ≠ k) = true := by simp [e']
      rw [if_pos a, if_pos b]; exact .cons ⟨h1, h2⟩ ih
theorem KV.keys {kvs : List (κ × V)} {vs : List (κ × Value)} (r : KV kvs vs) : kvs.map (·.1) = vs.map (·.1) := by
  unfold KV at r
  induction r with
  | nil => rfl
  | cons h t ih => rw [List.map_cons, List.map_cons, ih, h.1]
theorem KV.length {kvs : List (κ × V)} {vs : List (κ × Value)} (r : KV kvs vs) : kvs.length = vs.length := Paired.length r
end


/-! ### a tracked dict, its keys ints and texts or tuples of these -/
theorem kV_is {P : Program} {w : World} {k : Key} {u : Value} (r : RelV (kV k) u) : (mixKind P w).is k u = true := by
  cases k with
  | inl i => obtain ⟨t, e⟩ := (show ∃ t, u = Value.int i t from r); subst e; exact mixKind_int P w i t
  | inr x => obtain ⟨t, e⟩ := (show ∃ t, u = Value.str x t from r); subst e; exact mixKind_str P w x t
theorem items_are {P : Program} {w : World} : ∀ {ks : List Key} {us : List Value}, Vals (ks.map kV) us → ItemsAre (mixKind P w) ks us
  | [], _, r => by rw [List.map_nil] at r; cases r; exact .nil
  | k :: ks, _, r => by
    rw [List.map_cons] at r
    cases r with
    | cons h t => exact .cons (kV_is h) (items_are t)

/-- raw entries of a dict with tuple keys -/
abbrev KT (H : Hp) : List (List Key × V) → List (List Key × Addr × Value) → Prop := Paired fun p q => p.1 = q.1 ∧ H q.2.1 = some (.tup (p.1.map kV)) ∧ RelV p.2 q.2.2
theorem KT.val {H : Hp} {kvs : List (List Key × V)} {xs : List (List Key × Addr × Value)} (r : KT H kvs xs) (k : List Key) : RelO (valV kvs k) ((atKey xs k).map (·.2)) := by
  induction r with
  | nil => exact True.intro
  | @cons p q ps qs h t ih =>
    obtain ⟨h1, _, h2⟩ := h
    by_cases e : p.1 = k
    · have e' : q.1 = k := h1.symm.trans e
      have b : atKey (q :: qs) k = some q.2 := by simp [atKey, List.find?_cons, e']
      rw [valV_pos e, b]; exact h2
    · have e' : ¬ q.1 = k := fun z => e (h1.trans z)
      have b : atKey (q :: qs) k = atKey qs k := by simp [atKey, List.find?_cons, e']
      rw [valV_neg e, b]; exact ih
theorem KT.repl {H : Hp} {kvs : List (List Key × V)} {xs : List (List Key × Addr × Value)} (r : KT H kvs xs) (k : List Key) {y : V} {u : Value} (ry : RelV y u) :
    KT H (kvs.map fun kv => if kv.1 = k then (kv.1, y) else kv) (xs.map (putAt k u)) := by
  induction r with
  | nil => exact .nil
  | @cons p q ps qs h t ih =>
    rw [List.map_cons, List.map_cons]
    refine .cons ?_ ih
    obtain ⟨h1, h2, h3⟩ := h
    unfold putAt
    by_cases e : p.1 = k
    · rw [if_pos e, if_pos (h1.symm.trans e)]; exact ⟨h1, h2, ry⟩
    · rw [if_neg e, if_neg (fun z => e (h1.trans z))]; exact ⟨h1, h2, h3⟩
theorem KT.put {H : Hp} {kvs : List (List Key × V)} {xs : List (List Key × Addr × Value)} (r : KT H kvs xs) (k : List Key) {b : Addr} {y : V} {u : Value} (hb : H b = some (.tup (k.map kV))) (ry : RelV y u) :
    KT H (putK kvs k y) (storedH xs k b u) := by
  have e : (kvs.any fun kv => decide (kv.1 = k)) = (atKey xs k).isSome := by
    rw [valV_any, (r.val k).isSome_eq, Option.isSome_map]
  unfold putK storedH
  rw [e]
  by_cases q : (atKey xs k).isSome = true
  · rw [if_pos q, if_pos q]; exact r.repl k ry
  · rw [if_neg q, if_neg q]; exact Paired.snoc r ⟨rfl, hb, ry⟩
theorem KT.keeps {H H' : Hp} {kvs : List (List Key × V)} {xs : List (List Key × Addr × Value)} (r : KT H kvs xs) (ht : ∀ b ys, H b = some (.tup ys) → H' b = some (.tup ys)) : KT H' kvs xs :=
  Paired.mapP r fun _ _ z => ⟨z.1, ht _ _ z.2.1, z.2.2⟩

section
variable {P : Program} {w : World} {H : Hp} {h : Heap} {a : Addr}
theorem rd_of {u : HO} (ok : HOk P w H h) (e : Rd H a u) : ObjOk P w H h a u := e.ok ok
theorem dk_rd {kvs : List (Key × V)} (ok : HOk P w H h) (e : Rd H a (.dK kvs)) : kvs.length ≤ sizeLine ∧ (a == sysModules) = false ∧ ∃ vs, KV kvs vs ∧ h.DictOf (mixKind P w) a vs :=
  show ObjOk P w H h a (.dK kvs) from rd_of ok e
theorem dk_of {kvs : List (Key × V)} (ok : HOk P w H h) (e : H a = some (.dK kvs)) : kvs.length ≤ sizeLine ∧ (a == sysModules) = false ∧ ∃ vs, KV kvs vs ∧ h.DictOf (mixKind P w) a vs := dk_rd ok (.inl e)
/-- a tracked tuple of ints and texts is a key -/
theorem key_of {ks : List Key} (ok : HOk P w H h) (e : H a = some (.tup (ks.map kV))) : (tupleKind (mixKind P w)).is h ks a := by
  obtain ⟨_, its, r, o, h1, h2, n, h3⟩ := (show ObjOk P w H h a (.tup (ks.map kV)) from ok a _ e)
  exact ⟨o, its.toArray, n, h1, h2, h3, by simpa using items_are r⟩
theorem dt_rd {kvs : List (List Key × V)} (ok : HOk P w H h) (e : Rd H a (.dT kvs)) : kvs.length ≤ sizeLine ∧ (a == sysModules) = false ∧
    ∃ xs, KT H kvs xs ∧ h.DictOfH (tupleKind (mixKind P w)) a xs := by
  obtain ⟨z, y, xs, r, o, es, ep, h1, h2, h3, h4, h5⟩ := (show ObjOk P w H h a (.dT kvs) from rd_of ok e)
  refine ⟨z, y, xs, r, o, es, ep, h1, h2, h3, h4, fun x hx => ?_, h5⟩
  have all : ∀ {l : List (List Key × V)} {m : List (List Key × Addr × Value)}, KT H l m → ∀ x ∈ m, (tupleKind (mixKind P w)).is h x.1 x.2.1 := by
    intro l m q
    induction q with
    | nil => intro x hx; exact nomatch hx
    | @cons p q ps qs hq t ih =>
      intro x hx
      rcases List.mem_cons.mp hx with e | hx
      · subst e
        exact key_of ok (by rw [← hq.1]; exact hq.2.1)
      · exact ih x hx
  exact all r x hx
theorem dt_of {kvs : List (List Key × V)} (ok : HOk P w H h) (e : H a = some (.dT kvs)) : kvs.length ≤ sizeLine ∧ (a == sysModules) = false ∧
    ∃ xs, KT H kvs xs ∧ h.DictOfH (tupleKind (mixKind P w)) a xs := dt_rd ok (.inl e)
end

/-- what the dict at a holds at the key y -/
def DGet (H : Hp) (a : Addr) (y : V) (r : Option V) : Prop :=
  (∃ kvs k, Rd H a (.dK kvs) ∧ y = kV k ∧ r = valV kvs k) ∨ ∃ kvs k b, Rd H a (.dT kvs) ∧ y = .ref b ∧ H b = some (.tup (k.map kV)) ∧ r = valV kvs k
/-- the heap behind a[y] = v -/
def DPut (H : Hp) (a : Addr) (y v : V) (H' : Hp) : Prop :=
  (∃ kvs k, H a = some (.dK kvs) ∧ y = kV k ∧ kvs.length < sizeLine ∧ H' = upd H a (.dK (putK kvs k v))) ∨
  ∃ kvs k b, H a = some (.dT kvs) ∧ y = .ref b ∧ H b = some (.tup (k.map kV)) ∧ kvs.length < sizeLine ∧ H' = upd H a (.dT (putK kvs k v))
theorem DGet.k {H : Hp} {a : Addr} {kvs : List (Key × V)} {k : Key} (e : H a = some (.dK kvs)) : DGet H a (kV k) (valV kvs k) := .inl ⟨kvs, k, .inl e, rfl, rfl⟩
theorem DGet.t {H : Hp} {a b : Addr} {kvs : List (List Key × V)} {k : List Key} (e : H a = some (.dT kvs)) (eb : H b = some (.tup (k.map kV))) : DGet H a (.ref b) (valV kvs k) := .inr ⟨kvs, k, b, .inl e, rfl, eb, rfl⟩
theorem DPut.k {H : Hp} {a : Addr} {kvs : List (Key × V)} {k : Key} {v : V} (e : H a = some (.dK kvs)) (hl : kvs.length < sizeLine) : DPut H a (kV k) v (upd H a (.dK (putK kvs k v))) := .inl ⟨kvs, k, e, rfl, hl, rfl⟩
theorem DPut.t {H : Hp} {a b : Addr} {kvs : List (List Key × V)} {k : List Key} {v : V} (e : H a = some (.dT kvs)) (eb : H b = some (.tup (k.map kV))) (hl : kvs.length < sizeLine) :
    DPut H a (.ref b) v (upd H a (.dT (putK kvs k v))) := .inr ⟨kvs, k, b, e, rfl, eb, hl, rfl⟩


section
variable {X : Cx} {pins : List (Addr × Obj)} {σ : St} {H : Hp} {s : Shared} {a : Addr} {y v : V} {u r : Value} {o : Option V} {A : Around} {E : Value → Shared → Prop}

theorem Inv.big (I : Inv X pins σ H s) : sysModules < s.heap.objs.size := by
  have h : mainGlobals < s.heap.objs.size := (I.mod.glob.keeps I.bk).lt
  exact Nat.lt_trans (by decide) h

/-- d[y], there -/
theorem d_getItem {Q : Value → Shared → Prop} (hu : A.units + 1 < cLine) (I : Inv X pins σ H s) (g : DGet H a y (some v)) (ry : RelV y u) (h : ∀ w' s', Inv X pins σ H s' → RelV v w' → Q w' s') :
    wpAny (model X.prog X.w) A (getItem (.ref a) u) Q E s := by
  rcases g with ⟨kvs, k, e, ey, l⟩ | ⟨kvs, k, b, e, ey, eb, l⟩
  · subst ey
    obtain ⟨z, hd, vs, rel, dd⟩ := dk_rd I.hok e
    obtain ⟨w', hw, rw'⟩ := RelO.some_of (v := v) (o := valueAt vs k) (by rw [l]; exact rel.val k)
    exact wpAny_getItem_of (kV_is ry) dd.mapOf hw (h w' _ (I.tok _) rw')
  · subst ey
    cases (show u = Value.ref b from ry)
    obtain ⟨z, hd, xs, rel, dd⟩ := dt_rd I.hok e
    obtain ⟨w', hw, rw'⟩ := RelO.some_of (v := v) (o := (atKey xs k).map (·.2)) (by rw [l]; exact rel.val k)
    obtain ⟨p, hp, hp2⟩ := Option.map_eq_some_iff.mp hw
    refine wpAny_getItem_heap (tupleKind_room_in1 hu) (key_of I.hok eb) dd hp ?_
    rw [hp2]
    exact h w' _ (I.tok _) rw'
/-- y in d -/
theorem d_in {Q : Value → Shared → Prop} (hu : A.units + 1 < cLine) (I : Inv X pins σ H s) (g : DGet H a y o) (ry : RelV y u) (h : ∀ s', Inv X pins σ H s' → Q (.bool o.isSome) s') :
    wpAny (model X.prog X.w) A (compareOp .In u (.ref a)) Q E s := by
  rcases g with ⟨kvs, k, e, ey, l⟩ | ⟨kvs, k, b, e, ey, eb, l⟩
  · subst ey
    obtain ⟨z, hd, vs, rel, dd⟩ := dk_rd I.hok e
    refine wpAny_in_of (kV_is ry) hd dd.mapOf ?_
    rw [← (rel.val k).isSome_eq, ← l]
    exact h _ (I.tok _)
  · subst ey
    cases (show u = Value.ref b from ry)
    obtain ⟨z, hd, xs, rel, dd⟩ := dt_rd I.hok e
    refine wpAny_in_heap (tupleKind_room_in1 hu) (key_of I.hok eb) hd dd ?_
    have q := (rel.val k).isSome_eq
    rw [Option.isSome_map] at q
    rw [← q, ← l]
    exact h _ (I.tok _)
theorem d_notIn {Q : Value → Shared → Prop} (hu : A.units + 1 < cLine) (I : Inv X pins σ H s) (g : DGet H a y o) (ry : RelV y u) (h : ∀ s', Inv X pins σ H s' → Q (.bool (!o.isSome)) s') :
    wpAny (model X.prog X.w) A (compareOp .NotIn u (.ref a)) Q E s := by
  rcases g with ⟨kvs, k, e, ey, l⟩ | ⟨kvs, k, b, e, ey, eb, l⟩
  · subst ey
    obtain ⟨z, hd, vs, rel, dd⟩ := dk_rd I.hok e
    refine wpAny_notIn_of (kV_is ry) hd dd.mapOf ?_
    rw [← (rel.val k).isSome_eq, ← l]
    exact h _ (I.tok _)
  · subst ey
    cases (show u = Value.ref b from ry)
    obtain ⟨z, hd, xs, rel, dd⟩ := dt_rd I.hok e
    refine wpAny_notIn_heap (tupleKind_room_in1 hu) (key_of I.hok eb) hd dd ?_
    have q := (rel.val k).isSome_eq
    rw [Option.isSome_map] at q
    rw [← q, ← l]
    exact h _ (I.tok _)
/-- a dict's object is replaced -/
theorem d_write {h' : Heap} {t' : Nat} {ob : HO} (I : Inv X pins σ H s) (mu : Mut (H a)) (hs : Heap.SameBut a s.heap h') (he : ∃ q, h'.get? a = some q) (new : ObjOk X.prog X.w (upd H a ob) h' a ob) :
    Inv X pins σ (upd H a ob) { s with heap := h', toks := t' } :=
  I.write (x := a) (e := a) mu (.inl rfl) (fun b q hb z => (hs.2 b hb).trans z) he new
theorem dk_new {P : Program} {w : World} {H' : Hp} {h' : Heap} {kvs : List (Key × V)} {vs : List (Key × Value)} (z : kvs.length ≤ sizeLine) (hd : (a == sysModules) = false) (rel : KV kvs vs) (dd : h'.DictOf (mixKind P w) a vs) :
    ObjOk P w H' h' a (.dK kvs) := ⟨z, hd, vs, rel, dd⟩
/-- d[y] = v -/
theorem d_setItem {H' : Hp} {Q : Unit → Shared → Prop} (hu : A.units + 1 < cLine) (I : Inv X pins σ H s) (g : DPut H a y v H') (ry : RelV y u) (rv : RelV v r) (h : ∀ s', Inv X pins σ H' s' → Q () s') :
    wpAny (model X.prog X.w) A (setItem (.ref a) u r) Q E s := by
  rcases g with ⟨kvs, k, e, ey, l, eH⟩ | ⟨kvs, k, b, e, ey, eb, l, eH⟩
  · subst ey eH
    obtain ⟨z, hd, vs, rel, dd⟩ := dk_of I.hok e
    have hz : vs.length ≤ sizeLine := by rw [← rel.length]; exact z
    have hl : (putK kvs k v).length ≤ sizeLine := by have := length_putK kvs k v; omega
    refine wpAny_setItem_pairs (hsz := hz) (kV_is ry) dd fun h' dd' hs => h _ ?_
    have he : ∃ q, h'.get? a = some q := let ⟨q, _, _, hq, _⟩ := dd'; ⟨q, hq⟩
    exact d_write I (by rw [e]; exact True.intro) hs he (dk_new hl hd (rel.put k rv) dd')
  · subst ey eH
    cases (show u = Value.ref b from ry)
    obtain ⟨z, hd, xs, rel, dd⟩ := dt_of I.hok e
    have hz : xs.length ≤ sizeLine := by rw [← Paired.length rel]; exact z
    have hl : (putK kvs k v).length ≤ sizeLine := by have := length_putK kvs k v; omega
    refine wpAny_setItem_heap (hsz := hz) (tupleKind_room_in1 hu) (key_of I.hok eb) dd fun h' dd' hs => h _ ?_
    obtain ⟨q, es, ep, hq, h2, h3, h4, _, h5⟩ := dd'
    refine d_write I (by rw [e]; exact True.intro) hs ⟨q, hq⟩ ⟨hl, hd, _, (rel.put k eb rv).keeps fun c ys ec => ?_, q, es, ep, hq, h2, h3, h4, h5⟩
    rw [upd_ne (ne_of ec e (fun z => nomatch z))]
    exact ec
end

section
variable {X : Cx} {pins : List (Addr × Obj)} {σ : St} {H : Hp} {s : Shared} {a : Addr} {kvs : List (Key × V)} {k : Key} {u : Value} {A : Around} {E : Value → Shared → Prop}
end


/-! ### readings and rules -/
/-- the element of a subscription, not a slice -/
def NoSl (i : Expr) : Prop := ∀ ov iv, subscripted i false ov iv = operate [ov, iv] (getItem ov iv)
theorem subD_of {prog : Program} {w : World} {A : Around} {E : Value → Shared → Prop} {s : Shared} {env : Env} {value slice : Expr} {pos : Pos} {T id : String} {Q : Value → Shared → Prop}
    (hl : typeLookup (.type T) "__getitem__" = pure (some (.builtin id))) (hs : NoSl slice)
    (h : wpAny (model prog w) A (eval value env) (fun o s₁ => wpAny (model prog w) A (eval slice env) (fun i s₂ => s₂.TypeIs o T ∧ wpAny (model prog w) A (getItem o i) Q E s₂) E s₁) E s) :
    wpAny (model prog w) A (eval (.Subscript value slice pos) env) Q E s := by
  refine Subscript_ (wpAny_mono h (fun o s₁ h₁ => wpAny_mono h₁ (fun i s₂ h₂ => ?_) fun _ _ x => x) fun _ _ x => x)
  obtain ⟨hT, h₂⟩ := h₂
  unfold subscriptTail
  refine wpAny_bind ?_
  rw [getitemInPython_of_ne hT.not_modules]
  refine wpAny_bind (wpAny_specialOf hT hl ?_)
  have fin : wpAny (model prog w) A (subscripted slice false o i) (fun r s₃ => wpAny (model prog w) A (letTemporaryGo value o r >>= fun _ => pure r) Q E s₃) E s₂ := by
    rw [hs o i]
    exact wpAny_operating (wpAny_mono h₂ (fun r s₃ h₃ => wpAny_bind (wpAny_letTemporaryGo (wpAny_pure h₃))) fun _ _ x => x)
  first
    | exact wpAny_pure (wpAny_bind fin)
    | exact wpAny_bind (wpAny_pure (wpAny_bind fin))
    | exact wpAny_bind fin

theorem dict_typeIs {X : Cx} {pins : List (Addr × Obj)} {σ : St} {H : Hp} {s : Shared} {a : Addr} {y : V} {o : Option V} (I : Inv X pins σ H s) (g : DGet H a y o) : s.TypeIs (.ref a) "dict" := by
  rcases g with ⟨kvs, k, e, _, _⟩ | ⟨kvs, k, b, e, _, _, _⟩
  · obtain ⟨_, _, vs, _, dd⟩ := dk_rd I.hok e
    exact dd.typeIs
  · obtain ⟨_, _, xs, _, dd⟩ := dt_rd I.hok e
    exact dd.typeIs
/-- d[y] -/
def tDGet (td ty : TE) : TE := fun σ H Q => td σ H fun x H1 => ty σ H1 fun y H2 => ∃ a v, x = .ref a ∧ DGet H2 a y (some v) ∧ Q v H2
/-- y in d, y not in d -/
def tDIn (ty td : TE) : TE := fun σ H Q => ty σ H fun y H1 => td σ H1 fun x H2 => ∃ a o, x = .ref a ∧ DGet H2 a y o ∧ Q (.bl o.isSome) H2
def tDNotIn (ty td : TE) : TE := fun σ H Q => ty σ H fun y H1 => td σ H1 fun x H2 => ∃ a o, x = .ref a ∧ DGet H2 a y o ∧ Q (.bl (!o.isSome)) H2
/-- d[y] = v -/
def sDPut (td ty tv : TE) : TS := fun D σ H => tv σ H fun v H1 => td σ H1 fun x H2 => ty σ H2 fun y H3 => ∃ a H4, x = .ref a ∧ DPut H3 a y v H4 ∧ D.nx σ H4
/-- d[y] op= v -/
def sDAug (td ty tv : TE) (rd : V → V → Hp → VK → Prop) : TS := fun D σ H => td σ H fun x H1 => ty σ H1 fun y H2 => ∃ a v, x = .ref a ∧ DGet H2 a y (some v) ∧
  tv σ H2 fun y2 H3 => rd v y2 H3 fun z H4 => ∃ H5, DPut H4 a y z H5 ∧ D.nx σ H5
/-- del d[y] -/
def sDDel (td ty : TE) : TS := fun D σ H => td σ H fun x H1 => ty σ H1 fun y H2 => ∃ a kvs k, x = .ref a ∧ H2 a = some (.dK kvs) ∧ y = kV k ∧ (valV kvs k).isSome = true ∧ D.nx σ (upd H2 a (.dK (dropK kvs k)))

section
variable {X : Cx} {o i e value : Expr} {pos pos' tpos : Pos} {td ty tv : TE}
theorem pe_dget (hu : X.A.units + 1 < cLine) (ho : PE X o td) (hi : PE X i ty) (hs : NoSl i) : PE X (.Subscript o i pos) (tDGet td ty) := by
  intro pins s σ H Q I h
  refine subD_of PySem.F.slot_dict_getitem.lookup hs (thn (ho pins s σ H _ I h) fun u s1 ⟨x, H1, I1, rx, q1⟩ => thn (hi pins s1 σ H1 _ I1 q1) fun iv s2 ⟨y, H2, I2, ry, a, v, ex, g, q2⟩ => ?_)
  subst ex
  obtain rfl : u = Value.ref a := rx
  exact ⟨dict_typeIs I2 g, d_getItem hu I2 g ry fun w' s3 I3 rw' => ⟨v, H2, I3, rw', q2⟩⟩
theorem pc_din (hu : X.A.units + 1 < cLine) (hi : PE X i ty) (ho : PE X o td) : PC X .In i o (tDIn ty td) := by
  intro pins s σ H Q I h
  refine thn (hi pins s σ H _ I h) fun iv s1 ⟨y, H1, I1, ry, q1⟩ => thn (ho pins s1 σ H1 _ I1 q1) fun u s2 ⟨x, H2, I2, rx, a, ov, ex, g, q2⟩ => ?_
  subst ex
  obtain rfl : u = Value.ref a := rx
  exact d_in hu I2 g ry fun s3 I3 => ⟨.bl ov.isSome, H2, I3, rfl, q2⟩
theorem pc_dnotin (hu : X.A.units + 1 < cLine) (hi : PE X i ty) (ho : PE X o td) : PC X .NotIn i o (tDNotIn ty td) := by
  intro pins s σ H Q I h
  refine thn (hi pins s σ H _ I h) fun iv s1 ⟨y, H1, I1, ry, q1⟩ => thn (ho pins s1 σ H1 _ I1 q1) fun u s2 ⟨x, H2, I2, rx, a, ov, ex, g, q2⟩ => ?_
  subst ex
  obtain rfl : u = Value.ref a := rx
  exact d_notIn hu I2 g ry fun s3 I3 => ⟨.bl (!ov.isSome), H2, I3, rfl, q2⟩
theorem ps_dput (hu : X.A.units + 1 < cLine) (ho : PE X o td) (hi : PE X i ty) (hv : PE X value tv) (hs : swapsWith value (some (.Subscript o i pos')) pos.line X.env = pure false) :
    PS X (.Assign [.Subscript o i pos'] value pos) (sDPut td ty tv) := by
  intro pins s σ H D I h
  refine wpAny_Assign_Subscript (thn (hv pins s σ H _ I h) fun r s1 ⟨v, H1, I1, rv, q1⟩ => thn (ho pins s1 σ H1 _ I1 q1) fun u s2 ⟨x, H2, I2, rx, q2⟩ => thn (hi pins s2 σ H2 _ I2 q2) fun iv s3 ⟨y, H3, I3, ry, a, H4, ex, g, q3⟩ => ?_) hs
  subst ex
  obtain rfl : u = Value.ref a := rx
  exact d_setItem hu I3 g ry rv fun s4 I4 => ⟨σ, H4, I4, q3⟩
end


/-! ### displays -/
theorem dk_empty {P : Program} {w : World} {H : Hp} (h : Heap) (hb : sysModules < h.objs.size) : ObjOk P w H (h.push { cls := .type "dict", data := .dict #[] }) h.objs.size (.dK []) :=
  ⟨Nat.zero_le _, beq_eq_false_iff_ne.mpr (Ne.symm (Nat.ne_of_lt hb)), [], .nil, Heap.DictOf.new h⟩
theorem dt_empty {P : Program} {w : World} {H : Hp} (h : Heap) (hb : sysModules < h.objs.size) : ObjOk P w H (h.push { cls := .type "dict", data := .dict #[] }) h.objs.size (.dT []) :=
  ⟨Nat.zero_le _, beq_eq_false_iff_ne.mpr (Ne.symm (Nat.ne_of_lt hb)), [], .nil, _, #[], 0, Heap.get?_push_size _ rfl, ⟨rfl, rfl, rfl⟩, rfl, rfl, List.nodup_nil⟩
/-- {}, to be a dict of the kind that is wanted -/
def tDNewK : TE := fun _ H Q => ∀ p, H p = none → Q (.ref p) (upd H p (.dK []))
def tDNewT : TE := fun _ H Q => ∀ p, H p = none → Q (.ref p) (upd H p (.dT []))
section
variable {X : Cx} {pos : Pos}
theorem pe_dnewK : PE X (.Dict [] [] pos) tDNewK := fun pins s σ H Q I h =>
  wpAny_Dict_empty ⟨.ref s.heap.objs.size, _, I.laid (a := s.heap.objs.size) (o := .dK []) (t' := s.toks) (fun _ _ q => Heap.get?_push_of_some _ q) (Nat.le_refl _) (dk_empty s.heap I.big), rfl, h _ (I.hok.fresh (Nat.le_refl _))⟩
theorem pe_dnewT : PE X (.Dict [] [] pos) tDNewT := fun pins s σ H Q I h =>
  wpAny_Dict_empty ⟨.ref s.heap.objs.size, _, I.laid (a := s.heap.objs.size) (o := .dT []) (t' := s.toks) (fun _ _ q => Heap.get?_push_of_some _ q) (Nat.le_refl _) (dt_empty s.heap I.big), rfl, h _ (I.hok.fresh (Nat.le_refl _))⟩
end

/-- the pairs of a display, from the left -/
def tPairs : List (TE × TE) → St → Hp → (List (V × V) → Hp → Prop) → Prop
  | [], _, H, Q => Q [] H
  | (tk, tv) :: r, σ, H, Q => tk σ H fun x H1 => tv σ H1 fun y H2 => tPairs r σ H2 fun ps H3 => Q ((x, y) :: ps) H3
abbrev VV : List (V × V) → List (Value × Value) → Prop := Paired fun p q => RelV p.1 q.1 ∧ RelV p.2 q.2
def PPs (X : Cx) (pos : Pos) (keys : List (Option Expr)) (values : List Expr) (trs : List (TE × TE)) : Prop :=
  ∀ (pins : List (Addr × Obj)) (s : Shared) (σ : St) (H : Hp) (Q : List (V × V) → Hp → Prop), Inv X pins σ H s → tPairs trs σ H Q →
    wpAny (model X.prog X.w) X.A (evalPairs (pairTrees keys values X.env pos)) (fun vs s' => ∃ ps H', Inv X pins σ H' s' ∧ VV ps vs ∧ Q ps H') X.xe s
def mergeK (kvs more : List (Key × V)) : List (Key × V) := more.foldl (fun acc kv => putK acc kv.1 kv.2) kvs
/-- {k: v, ..} with keys ints and texts; the new dict stands empty while the pairs are made -/
def tDisp (trs : List (TE × TE)) : TE := fun σ H Q => ∀ p, H p = none → tPairs trs σ (upd H p (.dK [])) fun ps H2 => H2 p = some (.dK []) ∧ ∃ kvs : List (Key × V), ps = kvs.map (fun kv => (kV kv.1, kv.2)) ∧ kvs.length ≤ 15 ∧ Q (.ref p) (upd H2 p (.dK (mergeK [] kvs)))
/-! ### methods -/
/-- a method call o.m(e) of a built-in, with one argument: what must be seen of the text -/
structure M1 (X : Cx) (o : Expr) (m : Str) (apos : Pos) (e : Expr) (cpos : Pos) : Prop where
  base : attributeBase o m X.env (eval o X.env) = eval o X.env
  few : ((backTo cpos (starEach [e] X.env)).all (fun x => !x.1) && (backToKw cpos (keywordEach [] X.env)).all (fun x => x.1.isSome)
    && decide (([e] : List Expr).length + ([] : List Keyword).length + (if ([] : List Keyword).isEmpty then 0 else 1) < 30)) = true
  line : (apos.endLine == cpos.line) = true
  trees : backTo cpos (starEach [e] X.env) = [(false, eval e X.env)]
structure M2 (X : Cx) (o : Expr) (m : Str) (apos : Pos) (e f : Expr) (cpos : Pos) : Prop where
  base : attributeBase o m X.env (eval o X.env) = eval o X.env
  few : ((backTo cpos (starEach [e, f] X.env)).all (fun x => !x.1) && (backToKw cpos (keywordEach [] X.env)).all (fun x => x.1.isSome)
    && decide (([e, f] : List Expr).length + ([] : List Keyword).length + (if ([] : List Keyword).isEmpty then 0 else 1) < 30)) = true
  line : (apos.endLine == cpos.line) = true
  trees : backTo cpos (starEach [e, f] X.env) = [(false, eval e X.env), (false, eval f X.env)]

/-- a is a dict, whatever its keys -/
def IsD (H : Hp) (a : Addr) : Prop := (∃ kvs, Rd H a (.dK kvs)) ∨ ∃ kvs, Rd H a (.dT kvs)
section
variable {X : Cx} {pins : List (Addr × Obj)} {σ : St} {H : Hp} {s : Shared} {a : Addr} {y d : V} {u r : Value} {o : Option V} {A : Around} {E : Value → Shared → Prop}
end

def tDGet1 (td ty : TE) : TE := fun σ H Q => td σ H fun x H1 => ∃ a, x = .ref a ∧ IsD H1 a ∧ ty σ H1 fun y H2 => ∃ o, DGet H2 a y o ∧ Q (o.getD .non) H2
def tDGet2 (td ty tx : TE) : TE := fun σ H Q => td σ H fun x H1 => ∃ a, x = .ref a ∧ IsD H1 a ∧ ty σ H1 fun y H2 => tx σ H2 fun z H3 => ∃ o, DGet H3 a y o ∧ Q (o.getD z) H3
/-- d.pop(k): there; d.pop(k, x): there or not -/
def tDPop1 (td ty : TE) : TE := fun σ H Q => td σ H fun x H1 => ∃ a, x = .ref a ∧ IsD H1 a ∧ ty σ H1 fun y H2 => ∃ kvs k v, H2 a = some (.dK kvs) ∧ y = kV k ∧ valV kvs k = some v ∧ Q v (upd H2 a (.dK (dropK kvs k)))
def tDPop2 (td ty tx : TE) : TE := fun σ H Q => td σ H fun x H1 => ∃ a, x = .ref a ∧ IsD H1 a ∧ ty σ H1 fun y H2 => tx σ H2 fun z H3 => ∃ kvs k, H3 a = some (.dK kvs) ∧ y = kV k ∧
  (∀ v, valV kvs k = some v → Q v (upd H3 a (.dK (dropK kvs k)))) ∧ (valV kvs k = none → Q z H3)
section
variable {X : Cx} {o e f : Expr} {apos cpos : Pos} {td ty tx : TE}
end

/-! ### dict(d): a copy -/
section
variable {X : Cx} {pins : List (Addr × Obj)} {σ : St} {H : Hp} {s : Shared} {a : Addr} {kvs : List (Key × V)} {A : Around} {E : Value → Shared → Prop}
end


section
variable {X : Cx} {pins : List (Addr × Obj)} {σ : St} {H : Hp} {s : Shared} {a : Addr} {y : V} {u : Value} {A : Around} {E : Value → Shared → Prop}
end
end L2

namespace L2
open PySem PySem.Spec PyProof.Rows

section
variable {prog : Program} {w : World} {A : Around} {E : Value → Shared → Prop}
end

section
variable {X : Cx}
theorem pairs_of {pins : List (Addr × Obj)} {σ : St} {H : Hp} {s : Shared} (I : Inv X pins σ H s) : ∀ {ps : List Addr} {kvs : List (Key × V)}, Paired (fun p kv => SqT X.K H p [kV kv.1, kv.2]) ps kvs →
    ∃ prs : List (Key × Value), KV kvs prs ∧ prs.length = ps.length ∧ ∀ (j : Nat) (q : Key × Value), prs[j]? = some q → ∃ (b : Addr) (u : Value), ps[j]? = some b ∧ IsTup s.heap b #[u, q.2] ∧ keyIs q.1 u = true
  | _, _, .nil => ⟨[], .nil, rfl, fun j q e => by simp at e⟩
  | _, _, .cons (a := p) (b := kv) h t => by
    obtain ⟨prs, r, hl, hp⟩ := pairs_of I t
    obtain ⟨its, rv, ht, _⟩ := I.tuple h
    obtain ⟨u, y, ei, ru, ry⟩ := vals2 rv
    subst ei
    refine ⟨(kv.1, y) :: prs, .cons ⟨rfl, ry⟩ r, by rw [List.length_cons, List.length_cons, hl], fun j q e => ?_⟩
    cases j with
    | zero =>
      have e' : (kv.1, y) = q := Option.some.inj e
      subst e'
      exact ⟨p, u, rfl, ht, kV_is (P := X.prog) (w := X.w) ru⟩
    | succ j =>
      obtain ⟨b, u', e1, e2, e3⟩ := hp j q (by simpa using e)
      exact ⟨b, u', by simpa using e1, e2, e3⟩
end
end L2

namespace L2
open PySem PySem.Spec PyProof.Rows

section
variable {X : Cx} {pins : List (Addr × Obj)} {σ : St} {H : Hp} {s : Shared} {h' : Heap}
/-- .. and one new object is laid -/
theorem Inv.turnedNew {t' : Nat} {ch : List Addr} {T : Addr} {ob : HO} (I : Inv X pins σ H s) (k : ∀ b o, b ∉ ch → s.heap.get? b = some o → h'.get? b = some o) (hf : ∀ b ∈ ch, FpOk X pins H b) (hT : s.heap.objs.size ≤ T)
    (new : ObjOk X.prog X.w (upd H T ob) h' T ob) : Inv X pins σ (upd H T ob) { s with heap := h', toks := t' } := by
  have hn : H T = none := I.hok.fresh hT
  have nit : ∀ b u, H b = some u → b ∉ ch := fun b u e z => by
    have q := (hf b z).1
    rw [q] at e; cases e
  refine I.step (g' := s.gens) (d' := s.drawn) (ch := ch) (fun b hb => ⟨(hf b hb).2.2.2.1, (hf b hb).2.1, (hf b hb).2.2.2.2.1, (hf b hb).2.2.2.2.2⟩) (fun b o _ _ hc e _ => k b o hc e) (fun b o _ _ hc e _ => ⟨o.slots, k b o hc e⟩)
    (fun b o _ e n => ?_) (fun b o hc e => ⟨o, k b o hc e⟩) (fun b xs e => ?_) (fun b o u e => ?_) (fun b ps e => ⟨#[], ?_⟩) (fun m hm => ?_) (fun b u e => ?_) I.bare
  · rw [upd_ne (Nat.ne_of_lt (Nat.lt_of_lt_of_le (Heap.lt_size e) hT))]; exact n
  · rw [upd_ne (ne_of_none e hn)]; exact e
  · rw [upd_ne (ne_of_none e hn)]; exact e
  · rw [upd_ne (ne_of_none e hn), e]; simp
  · obtain ⟨o, es, ep, ho, r⟩ := hm
    exact ⟨o, es, ep, k _ o (fun z => (hf _ z).2.1 rfl) ho, r⟩
  · by_cases hb : b = T
    · subst hb
      rw [upd_same] at e
      cases e
      exact new
    · rw [upd_ne hb] at e
      refine (I.hok b u e).stay (fun c v hc q => k c v ?_ q) (fun c q => by rw [upd_ne (ne_of_none q hn)]; exact q) fun c xs q => by rw [upd_ne (ne_of_none q hn)]; exact q
      rcases hc with z | z
      · rw [z]; exact nit b u e
      · exact nit c _ z

/-! ### locking a thing while a statement runs -/
end
/-- the statement runs while the thing at d is locked (read, not written); d and what stands there are the reading's choice -/
def tLock (t : TS) : TS := fun D σ H => ∃ d u, H d = some u ∧ Mut (some u) ∧ ∀ od, t ⟨fun σ' H' => H' d = some (.frz od u) ∧ D.nx σ' (upd H' d u), fun v H' => H' d = some (.frz od u) ∧ D.rt v (upd H' d u), fun σ' H' => H' d = some (.frz od u) ∧ D.bk σ' (upd H' d u), fun σ' H' => H' d = some (.frz od u) ∧ D.ct σ' (upd H' d u)⟩ σ (upd H d (.frz od u))
def tLockE (t : TE) : TE := fun σ H Q => ∃ d u, H d = some u ∧ Mut (some u) ∧ ∀ od, t σ (upd H d (.frz od u)) fun v H' => H' d = some (.frz od u) ∧ Q v (upd H' d u)
section
variable {X : Cx}
/-! ### one iterator just laid -/
theorem pi_one {tg : Expr} {pins : List (Addr × Obj)} {σ : St} {H : Hp} {s : Shared} {R : It → Hp → Prop} {J : It} {tn : Nat → Heap → Prop} {tk : Nat} (I : Inv X pins σ H s) (o : Obj)
    (T : Turn X.prog X.w X.K tg J [s.heap.objs.size] s.heap.objs.size tn) (st : tn 0 (s.heap.push o)) (q : R J H) : PIE X pins σ tg R (.ref s.heap.objs.size) { s with heap := s.heap.push o, toks := tk } := by
  refine ⟨s.heap.objs.size, [s.heap.objs.size], tn, J, H, rfl, I.kept fun b ob e => Heap.get?_push_of_some _ e, T, st, fun b hb => ?_, q⟩
  have e : b = s.heap.objs.size := by simpa using hb
  subst e
  exact I.fpOk (Nat.le_refl _) (I.hok.fresh (Nat.le_refl _))
end

/-! ### range with a step -/
/-- lo, lo + c, .. (n of them) -/
def Itc (lo c : Int) (n : Nat) : It := ⟨fun i _ => i < n, fun i H x H' => H' = H ∧ x = .int (lo + (i : Nat) * c), fun i _ => n ≤ i⟩
/-- range(i, j, c): small bounds, n items -/
def RgC (i j c : Int) (n : Nat) : Prop := c ≠ 0 ∧ c.natAbs < 1073741824 ∧ Builtin.Range.small i j c = true ∧ Builtin.Range.rangeSize i j c = n
theorem RgC.neg {i j : Int} (ha : -(2 ^ 62) ≤ i) (ha' : i < 2 ^ 62) (hb : -(2 ^ 62) ≤ j) (hb' : j < 2 ^ 62) : RgC i j (-1) (i - j).toNat :=
  ⟨by decide, by decide, PySem.W.small_down ha ha' hb hb', PySem.W.rangeSize_downNat i j⟩
def iRng3 (ta : TA) : TI := fun σ H R => ta σ H fun vs H1 => ∃ (i j c : Int) (n : Nat), vs = [.int i, .int j, .int c] ∧ RgC i j c n ∧ R (Itc i c n) H1
section
variable {X : Cx} {tg : Expr}
end
/-! ### reversed(list) -/
/-- the list at a (n items at the start, which the loop leaves there), from its end -/
def Itv (K : PySem.W.Frag) (a : Addr) (n : Nat) : It :=
  ⟨fun i H => i < n ∧ ∃ (xs : List V) (x : V), SqL K H a xs ∧ xs[n - 1 - i]? = some x, fun i H x H' => H' = H ∧ ∀ xs, SqL K H a xs → xs[n - 1 - i]? = some x, fun i _ => n ≤ i⟩
def iRev (K : PySem.W.Frag) (ta : TA) : TI := fun σ H R => ta σ H fun vs H1 => ∃ (a : Addr) (xs : List V), vs = [.ref a] ∧ SqL K H1 a xs ∧ R (Itv K a xs.length) H1
section
variable {X : Cx} {tg : Expr}
end

/-! ### a str -/
def Its (x : Str) : It := ⟨fun i _ => i < x.cps.size, fun i H v H' => H' = H ∧ ∃ c, x.cps[i]? = some c ∧ v = .str ⟨#[c]⟩, fun i _ => x.cps.size ≤ i⟩
theorem turn_str {P : Program} {w : World} {K : PySem.W.Frag} {tg : Expr} (it : Addr) (x : Str) (t : Tok) (ty : String) (hty : ty = "str_ascii_iterator" ∨ ty = "str_iterator") :
    Turn P w K tg (Its x) [it] it (fun i h => h.IsStrIter it ty x t i) where
  mem := by simp
  obj := fun i h st b hb => by
    have e : b = it := by simpa using hb
    subst e
    obtain ⟨o, e, c, d⟩ := st
    exact ⟨o, e, fun v z => by rw [d] at z; cases z⟩
  keep := fun i h h' st k => let ⟨o, ho, r⟩ := st; ⟨o, k it (by simp) o ho, r⟩
  item := by
    intro X hP hw hK hc i pins s σ H E I hf st hg
    subst hP hw hK
    obtain ⟨f0, f1, f2, f3, f4, f5⟩ := hf it (by simp)
    have W : Walks X.prog X.w X.A it [it] [it] x.cps.size (SignAt x) (fun i h => h.IsStrIter it ty x t i) := by
      rcases hty with e | e
      · rw [e]; exact Walks.strAscii (I.ok.hd hc) it x t
      · rw [e]; exact Walks.strWide (I.ok.hd hc) it x t
    have hno : ["enumerate", "zip", "dict_itemiterator", "dict_reverseitemiterator", "odict_iterator", "itertools.zip_longest", "itertools.pairwise"].contains ty = false := by
      rcases hty with e | e
      · rw [e]; decide
      · rw [e]; decide
    refine W.item i s _ _ hg st fun v h' tk hv st' kk => ?_
    obtain ⟨c, u, hcx, rfl⟩ := hv
    have I1 : Inv X pins σ H { s with heap := h', toks := tk } := I.turned (fun b o hb e => kk b o (by simpa using hb) e) f0 f1 f3 f4 f5
    obtain ⟨oi, e, cc, dd⟩ := id st'
    exact ⟨_, rfl, go_of (s := { s with heap := h', toks := tk }) e cc dd hno ⟨.str ⟨#[c]⟩, H, I1, ⟨u, rfl⟩, ⟨rfl, c, hcx, rfl⟩, st', fun b hb => (hf b hb).1⟩⟩
  done := by
    intro X hP hw hK hc i pins s σ H E I hf st hg
    subst hP hw hK
    obtain ⟨f0, f1, f2, f3, f4, f5⟩ := hf it (by simp)
    have hx : x.cps[i]? = none := Array.getElem?_eq_none hg
    rcases hty with e | e
    · rw [e] at st
      exact wpAny_pyNext_ascii_end (I.ok.hd hc) st hx fun h' eb => ⟨rfl, I.turned (t' := s.toks) (fun b o hb e => eb b o hb e) f0 f1 f3 f4 f5⟩
    · rw [e] at st
      exact wpAny_pyNext_wide_end (I.ok.hd hc) st hx fun h' eb => ⟨rfl, I.turned (t' := s.toks) (fun b o hb e => eb b o hb e) f0 f1 f3 f4 f5⟩
  self := fun A i s Q E st h => by
    rcases hty with e | e
    · rw [e] at st; exact wpAny_pyIter_striter_ascii st h
    · rw [e] at st; exact wpAny_pyIter_striter_wide st h
def iStr (te : TE) : TI := fun σ H R => te σ H fun v H1 => ∃ x, v = .str x ∧ R (Its x) H1
theorem pi_str {X : Cx} {tg e : Expr} {te : TE} (he : PE X e te) : PI X tg e (iStr te) := by
  intro pins s σ H R I h
  refine thn (he pins s σ H _ I h) fun v s1 ⟨y, H1, I1, r1, x, ex, q⟩ => ?_
  subst ex
  obtain ⟨t, rfl⟩ := r1
  cases ha : x.cps.all (· < 128)
  · exact wpAny_pyIter_wide ha (pi_one (tk := s1.toks) I1 _ (turn_str _ x t "str_iterator" (.inr rfl)) ⟨_, Heap.get?_push_size _ rfl, rfl, rfl⟩ q)
  · exact wpAny_pyIter_ascii ha (pi_one (tk := s1.toks) I1 _ (turn_str _ x t "str_ascii_iterator" (.inl rfl)) ⟨_, Heap.get?_push_size _ rfl, rfl, rfl⟩ q)

/-! ### a dict's keys: any dict's entries -/
section
variable {prog : Program} {w : World} {A : Around} {E : Value → Shared → Prop} {s : Shared}
end

/-! ### a locked dict -/
section
variable {X : Cx} {pins : List (Addr × Obj)} {σ : St} {H : Hp} {s : Shared} {d : Addr} {o : Obj}
end

/-- the keys of the locked dict at d, in their order -/
def Itk (d : Addr) (o : Obj) (kvs : List (Key × V)) : It :=
  ⟨fun i H => H d = some (.frz o (.dK kvs)) ∧ i < kvs.length, fun i H x H' => H' = H ∧ ∃ k v, kvs[i]? = some (k, v) ∧ x = kV k, fun i H => H d = some (.frz o (.dK kvs)) ∧ kvs.length ≤ i⟩
/-- .. of tuple keys: the key's own tuple -/
def Itkt (d : Addr) (o : Obj) (kvs : List (List Key × V)) : It :=
  ⟨fun i H => H d = some (.frz o (.dT kvs)) ∧ i < kvs.length, fun i H x H' => H' = H ∧ ∃ (k : List Key) (v : V) (q : Addr), kvs[i]? = some (k, v) ∧ x = .ref q ∧ H q = some (.tup (k.map kV)), fun i H => H d = some (.frz o (.dT kvs)) ∧ kvs.length ≤ i⟩
/-- the values -/
def Itd (d : Addr) (o : Obj) (kvs : List (Key × V)) : It :=
  ⟨fun i H => H d = some (.frz o (.dK kvs)) ∧ i < kvs.length, fun i H x H' => H' = H ∧ ∃ k, kvs[i]? = some (k, x), fun i H => H d = some (.frz o (.dK kvs)) ∧ kvs.length ≤ i⟩
/-- the pairs, each a new tuple -/
def Iti (d : Addr) (o : Obj) (kvs : List (Key × V)) : It :=
  ⟨fun i H => H d = some (.frz o (.dK kvs)) ∧ i < kvs.length, fun i H x H' => ∃ T k v, kvs[i]? = some (k, v) ∧ x = .ref T ∧ H T = none ∧ H' = upd H T (.tup [kV k, v]), fun i H => H d = some (.frz o (.dK kvs)) ∧ kvs.length ≤ i⟩
section
variable {P : Program} {w : World} {K : PySem.W.Frag} {tg : Expr} {d : Addr} {o : Obj} {es : Array DictEntry} {ep : Nat}
end

/-! ### for k in d, d.keys(), d.values(), d.items() -/
/-- the dict is locked (tLock, or by the caller) -/
def iKeys (td : TE) : TI := fun σ H R => td σ H fun x H1 => ∃ d o, x = .ref d ∧ ((∃ kvs, H1 d = some (.frz o (.dK kvs)) ∧ R (Itk d o kvs) H1) ∨ ∃ kvs, H1 d = some (.frz o (.dT kvs)) ∧ R (Itkt d o kvs) H1)
def iVals (td : TE) : TI := fun σ H R => td σ H fun x H1 => ∃ d o kvs, x = .ref d ∧ H1 d = some (.frz o (.dK kvs)) ∧ R (Itd d o kvs) H1
def iItems (td : TE) : TI := fun σ H R => td σ H fun x H1 => ∃ d o kvs, x = .ref d ∧ H1 d = some (.frz o (.dK kvs)) ∧ R (Iti d o kvs) H1
def iKeysM (td : TE) : TI := fun σ H R => td σ H fun x H1 => ∃ d o kvs, x = .ref d ∧ H1 d = some (.frz o (.dK kvs)) ∧ R (Itk d o kvs) H1
section
variable {X : Cx} {tg e : Expr} {td : TE} {apos cpos : Pos}
end

/-! ### enumerate(list) -/
/-- the list at a as it stands at each turn, each item in a new pair -/
def Ite (K : PySem.W.Frag) (a : Addr) : It :=
  ⟨fun i H => ∃ (xs : List V) (x : V), SqL K H a xs ∧ xs[i]? = some x, fun i H v H' => ∃ T x, v = .ref T ∧ H T = none ∧ H' = upd H T (.tup [.int (i : Nat), x]) ∧ ∀ xs, SqL K H a xs → xs[i]? = some x, fun i H => ∃ xs : List V, SqL K H a xs ∧ xs.length ≤ i⟩
def iEnum (K : PySem.W.Frag) (ta : TA) : TI := fun σ H R => ta σ H fun vs H1 => ∃ a xs, vs = [.ref a] ∧ SqL K H1 a xs ∧ R (Ite K a) H1
/-! ### zip(list, list) -/
/-- the lists at a and b as they stand at each turn, the items in new pairs -/
def Itz (K : PySem.W.Frag) (a b : Addr) : It :=
  ⟨fun i H => ∃ (xs ys : List V) (x y : V), SqL K H a xs ∧ SqL K H b ys ∧ xs[i]? = some x ∧ ys[i]? = some y,
    fun i H v H' => ∃ T x y, v = .ref T ∧ H T = none ∧ H' = upd H T (.tup [x, y]) ∧ (∀ xs, SqL K H a xs → xs[i]? = some x) ∧ ∀ ys, SqL K H b ys → ys[i]? = some y,
    fun i H => ∃ xs ys : List V, SqL K H a xs ∧ SqL K H b ys ∧ (xs.length ≤ i ∨ ys.length ≤ i)⟩
def iZip (K : PySem.W.Frag) (ta : TA) : TI := fun σ H R => ta σ H fun vs H1 => ∃ a b xs ys, vs = [.ref a, .ref b] ∧ SqL K H1 a xs ∧ SqL K H1 b ys ∧ R (Itz K a b) H1
end L2

section 
namespace Bits
open PySem PyProof.Rows

end Bits
end 

section 
namespace TL
open PySem PySem.Builtin PySem.Builtin.Str PySem.StrLaws

abbrev tl (x : Str) : List Nat := x.cps.toList
theorem len_tl (x : Str) : x.length = (tl x).length := by simp [tl, Str.length]
theorem tl_append (x y : Str) : tl (x ++ y) = tl x ++ tl y := by
  show (x ++ y).cps.toList = _
  rw [Str.cps_append, Array.toList_append]
/-! ### the list functions -/
/-- S stands at the head of l -/
def pre (S l : List Nat) : Bool := l.take S.length == S
/-- l cut at each S from the left; k signs are still to be passed over -/
def spl (S : List Nat) : Nat → List Nat → List Nat → List (List Nat)
  | _, acc, [] => [acc]
  | 0, acc, c :: r => if pre S (c :: r) = true then acc :: spl S (S.length - 1) [] r else spl S 0 (acc ++ [c]) r
  | k + 1, acc, _ :: r => spl S k acc r
/-- what stands before the first S, and behind it -/
def par (S : List Nat) : List Nat → List Nat → Option (List Nat × List Nat)
  | _, [] => none
  | acc, c :: r => if pre S (c :: r) = true then some (acc, (c :: r).drop S.length) else par S (acc ++ [c]) r

/-! ### the model's split and partition are these -/
/-! ### computing spl and par -/
/-- joined lists -/
def joinL (S : List Nat) : List (List Nat) → List Nat
  | [] => []
  | [p] => p
  | p :: q :: r => p ++ (S ++ joinL S (q :: r))
theorem tl_join (y : Str) : ∀ parts : List Str, tl (Str.join y parts) = joinL (tl y) (parts.map tl)
  | [] => rfl
  | [_] => rfl
  | x :: z :: r => by
    show tl (x ++ y ++ Str.join y (z :: r)) = tl x ++ (tl y ++ joinL (tl y) ((z :: r).map tl))
    rw [tl_append, tl_append, tl_join y (z :: r), List.append_assoc]
theorem join_eq (y : Str) (parts : List Str) : Txt.join y parts = Str.join y parts := glued_eq_join y parts
/-! ### digits -/
/-- the signs of a number -/
def numL (n : Nat) : List Nat := (Nat.toDigits 10 n).map Char.toNat
/-! ### words: x.split() -/
def wstep (st : List (List Nat) × List Nat) (c : Nat) : List (List Nat) × List Nat :=
  if Unicode.isSpace c = true then (if st.2 = [] then st else (st.1 ++ [st.2], [])) else (st.1, st.2 ++ [c])
def wfin (st : List (List Nat) × List Nat) : List (List Nat) := if st.2 = [] then st.1 else st.1 ++ [st.2]
end TL
end 

namespace L2
open PySem PySem.Spec PyProof.Rows

/-- a new list of texts, tracked -/
def rNewStrs (ys : List Str) : Hp → VK → Prop := fun H Q => ∀ p, H p = none → Q (.ref p) (upd H p (.lst (ys.map V.str)))

section
variable {X : Cx} {pins : List (Addr × Obj)} {σ : St} {H : Hp} {s : Shared} {Q : VK}
end

section
variable {X : Cx}

/-! ### of a text alone -/
/-! ### of a text and a text -/
end

section
variable {X : Cx} {o e : Expr} {to te : TE}
def tM0 (r : V → List V → Hp → VK → Prop) (to : TE) : TE := fun σ H Q => to σ H fun x H1 => (∃ a, x = .str a) ∧ r x [] H1 Q
def tM1 (r : V → List V → Hp → VK → Prop) (to te : TE) : TE := fun σ H Q => to σ H fun x H1 => (∃ a, x = .str a) ∧ te σ H1 fun y H2 => r x [y] H2 Q
end
end L2

namespace L2
open PySem PySem.Spec PyProof.Rows

section
variable {X : Cx}
end

/-! ### slices of a text -/
theorem IsPart.raw {v : Value} {o : Option Int} (p : IsPart v o) : ∃ l : Option (Int × Tok), v = partValue l ∧ l.map (·.1) = o := by
  cases p with
  | none => exact ⟨none, rfl, rfl⟩
  | int i t => exact ⟨some (i, t), rfl, rfl⟩

/-- a part, clipped, as the text's slice reckons it -/
def clipS (n d : Nat) : Option Int → Int
  | none => (d : Int)
  | some i => max 0 (min (if i < 0 then i + (n : Int) else i) (n : Int))
theorem clipS_eq (n d : Nat) (o : Option Int) : clipS n d o = ((HT.sIx n d o : Nat) : Int) := by
  cases o with
  | none => rfl
  | some v =>
    show max (0 : Int) (min (if v < 0 then v + (n : Int) else v) (n : Int)) = (((if v < 0 then (v + (n : Int)).toNat else min v.toNat n) : Nat) : Int)
    by_cases hv : v < 0
    · simp only [if_pos hv]
      omega
    · simp only [if_neg hv]
      omega
theorem sidx_clip (a b : Option Int) (n : Nat) : Builtin.Str.strSliceIndices a b 1 n = sliceRange (clipS n 0 a) (clipS n n b) 1 := by
  have h1 : ((1 : Int) > 0) = True := by simp
  cases a <;> cases b <;> first
    | rfl
    | (simp only [Builtin.Str.strSliceIndices, clipS, h1, if_true]; rfl)
    | simp [Builtin.Str.strSliceIndices, clipS]
theorem sidx (a b : Option Int) (n : Nat) : Builtin.Str.strSliceIndices a b 1 n = (List.range (HT.sIx n n b - HT.sIx n 0 a)).map (fun k => HT.sIx n 0 a + k) := by
  rw [sidx_clip, clipS_eq, clipS_eq]
  generalize HT.sIx n 0 a = p
  generalize HT.sIx n n b = q
  simp only [sliceRange, show ((1 : Int) > 0) = True from by simp, if_true]
  by_cases hlt : (p : Int) < q
  · have e3 : (((q : Int) - p + 1 - 1) / 1).toNat = q - p := by first | omega | (simp; done) | (simp; omega)
    simp only [hlt, if_true, e3]
    refine List.map_congr_left fun k _ => ?_
    omega
  · have : q - p = 0 := by omega
    simp [hlt, this]

/-- z[lo:hi] -/
def cutS (z : Str) (lo hi : Option Int) : Str :=
  ⟨((z.cps.toList.drop (HT.sIx z.length 0 lo)).take (HT.sIx z.length z.length hi - HT.sIx z.length 0 lo)).toArray⟩
theorem sliceText_cut (z : Str) (lo hi : Option Int) : PySem.StrLaws.sliceText z lo hi = cutS z lo hi := by
  have h1 : HT.sIx z.length 0 lo ≤ z.length := HT.sIx_le _ _ (Nat.zero_le _) _
  have h2 : HT.sIx z.length z.length hi ≤ z.length := HT.sIx_le _ _ (Nat.le_refl _) _
  have hp : HT.sIx z.length 0 lo ≤ max (HT.sIx z.length 0 lo) (HT.sIx z.length z.length hi) := Nat.le_max_left _ _
  have hq : max (HT.sIx z.length 0 lo) (HT.sIx z.length z.length hi) ≤ z.length := Nat.max_le.mpr ⟨h1, h2⟩
  have hd : max (HT.sIx z.length 0 lo) (HT.sIx z.length z.length hi) - HT.sIx z.length 0 lo = HT.sIx z.length z.length hi - HT.sIx z.length 0 lo := by omega
  have e : Builtin.Str.strSliceIndices lo hi 1 z.length =
      Builtin.Str.strSliceIndices (some ((HT.sIx z.length 0 lo : Nat) : Int)) (some ((max (HT.sIx z.length 0 lo) (HT.sIx z.length z.length hi) : Nat) : Int)) 1 z.length := by
    rw [PySem.StrLaws.strSliceIndices_plain hp hq, hd, sidx]
  have e2 : PySem.StrLaws.sliceText z lo hi =
      PySem.StrLaws.sliceText z (some ((HT.sIx z.length 0 lo : Nat) : Int)) (some ((max (HT.sIx z.length 0 lo) (HT.sIx z.length z.length hi) : Nat) : Int)) := by
    unfold PySem.StrLaws.sliceText
    rw [e]
  rw [e2, PySem.StrLaws.sliceText_nat z hp hq, hd]
  rfl
theorem cutS_length (z : Str) (lo hi : Option Int) : (cutS z lo hi).length ≤ z.length := by
  show (((z.cps.toList.drop (HT.sIx z.length 0 lo)).take (HT.sIx z.length z.length hi - HT.sIx z.length 0 lo)).toArray).size ≤ z.cps.size
  rw [List.size_toArray, List.length_take, List.length_drop, Array.length_toList]
  omega
def rSlS : V → Option Int → Option Int → Hp → VK → Prop := fun x lo hi H Q => ∃ z, x = .str z ∧ z.length ≤ sizeLine ∧ Q (.str (cutS z lo hi)) H
theorem sl_str {X : Cx} : SlR X rSlS := by
  intro pins s σ H x v vl vu lo hi sl Q I rx hs pl pu h
  obtain ⟨z, rfl, hz, q⟩ := h
  obtain ⟨t, rfl⟩ := rx
  obtain ⟨os, hos, hcs, hds⟩ := hs
  obtain ⟨l, rfl, rfl⟩ := IsPart.raw pl
  obtain ⟨u, rfl, rfl⟩ := IsPart.raw pu
  refine ⟨"str", _, F.slot_str_getitem.lookup, typeIs_str _ _ _, ?_⟩
  refine wpAny_getItem_str_slice (l := l) (u := u) (st := none) ⟨os, hos, hcs, hds⟩ rfl ?_
  have hl : (PySem.StrLaws.sliceText z (l.map (·.1)) (u.map (·.1))).length ≤ sizeLine := by
    rw [sliceText_cut]
    exact Nat.le_trans (cutS_length z _ _) hz
  rw [← sliceText_cut] at q
  unfold PySem.StrLaws.sliceText at q hl
  show Made.post (if ((1 : Int) == 1 && (Builtin.Str.strSliceIndices (l.map (·.1)) (u.map (·.1)) 1 z.length).length == z.length) = true then Made.val (.str z t)
    else Made.str ⟨((Builtin.Str.strSliceIndices (l.map (·.1)) (u.map (·.1)) 1 z.length).filterMap (z.cps[·]?)).toArray⟩) (EP X pins σ Q) s
  by_cases c : ((1 : Int) == 1 && (Builtin.Str.strSliceIndices (l.map (·.1)) (u.map (·.1)) 1 z.length).length == z.length) = true
  · rw [if_pos c] at q ⊢
    exact ⟨.str z, H, I, ⟨t, rfl⟩, q⟩
  · rw [if_neg c] at q hl ⊢
    exact ⟨hl, .str _, H, I.tok _, ⟨_, rfl⟩, q⟩
end L2

namespace Att
open PySem PySem.W PySem.Calls PyProof.Rows

/-! ### the script -/
theorem ints_of_wellAll {P : Params} {h : Heap} : ∀ (ns : List Int) (vs : List Value), WellAll P h vs (ns.map WData.int) → IntsAre vs ns := by
  intro ns
  induction ns with
  | nil =>
    intro vs w
    rw [List.map_nil] at w
    cases w
    exact .nil
  | cons n ns ih =>
    intro vs w
    rw [List.map_cons] at w
    cases w with
    | cons a b =>
      cases a
      exact .cons _ _ (ih _ b)

theorem script_of {l : OpenLaw} {n : Nat} (hn : l.most = some n) {P : Params} {h : Heap} {args : List WData} {vals : List Value}
    (hpre : l.row.toRowW.claim.pre args = true) (hwl : WellAll P h vals args) :
    ∃ a vs ns, vals = [Value.ref a] ∧ args = [WData.list (ns.map WData.int)] ∧ h.get? a = some { cls := .type "list", data := .seq vs.toArray } ∧ IntsAre vs ns ∧ ns.length ≤ n := by
  have hsh : WShape.hasAll [] args [.list .int] = true := (pre_splitW hpre).1
  have hc : l.pre.holds [] { args := args } = true := (pre_splitW hpre).2
  obtain ⟨d, r, rfl, h1, h2⟩ := hasAllW_cons hsh
  obtain rfl := hasAllW_nil h2
  obtain ⟨xs, rfl, h3⟩ := hasW_list h1
  obtain ⟨ns, rfl⟩ := items_int h3
  have hlen : ns.length ≤ n := by
    unfold OpenLaw.pre at hc
    have h4 : (WTm.not (.lt (.lit (.int (n : Int))) (.len (.arg 0)))).holds [] { args := [.list (ns.map .int)] } = true := by
      have h4 := (holds_andW hc).1
      rw [hn] at h4
      exact h4
    have h5 := condW_of h4 (w_not (w_lt w_lit (w_len_list (w_arg rfl))))
    rw [List.length_map] at h5
    refine Nat.le_of_not_lt fun q => ?_
    have q' : (n : Int) < ((ns.length : Nat) : Int) := by omega
    first
      | (rw [decide_eq_true q'] at h5; exact absurd h5 (by decide))
      | (simp at h5; omega)
  cases hwl with
  | cons w1 w2 =>
    cases w2
    cases w1 with
    | list ho hall => exact ⟨_, _, ns, rfl, rfl, ho, ints_of_wellAll ns _ hall, hlen⟩

theorem post_true (l : OpenLaw) (args : List WData) : l.row.toRowW.claim.post args (.bool true) args = true :=
  postW_of (r := l.row.toRowW) (X := (true == true))
    (show WShape.has [] (.bool true) .bool = true by first | rfl | decide | simp [WShape.has, WShape.arms, WShape.armsAll])
    (show (WTm.eq .res (.lit (.bool true))).value [] { args := args, res := some (.bool true), after := args } = some (.bool (true == true)) from w_eq_bool (w_res rfl) w_lit) rfl

/-! ### the attachment: holds_open's last premise (the goal 'hc' behind k_head) from a wpAny of the law's body -/
/-- the same from a codeAny of the CALL (for a layer whose function contracts speak of calls) -/
theorem attach_call {l : OpenLaw} {n : Nat} {q : Program} {loose : List Str} {XP : (Str → Option Value) → Heap → Prop} {YP : World → Heap → Prop} {d : DefRec}
    (hn : l.most = some n) (hdf : d.params.defaults = [])
    (call : ∀ (w : World) (s₀ s₁ : Shared) (mg mb : Str → Option Value) (fa : Addr) (o : Obj) (pm cd doc : Value) (a : Addr) (vs : List Value) (ns : List Int),
      Ground q loose [] XP w s₀ mg mb s₁.heap → YP w s₁.heap →
      s₁.heap.get? fa = some o → o.data = .func (docDef d.name d.params d.body d.scope pm cd doc) → s₁.heap.CodeRec cd d.name → mg d.name = some (.ref fa) →
      s₁.heap.get? a = some { cls := .type "list", data := .seq vs.toArray } → IntsAre vs ns → ns.length ≤ n → s₁.gens = #[] →
      codeAny (model l.prog w) callerA (.call (.ref fa) ⟨[.ref a], []⟩) (fun r s' => r = .ok (.ret (.bool true)) ∧ OldK s₁.heap s'.heap ∧ s'.os = s₁.os ∧ AllBare s'.gens) s₁) :
    WalkO q loose XP YP l.row.toRowW d [] (fun f vs => PySem.call f vs) := by
  intro w s₀ s₁ mg mb G Y fa o pm cd doc dV kV ho hd hcd hD hmg hg args vals as hpre hlay hrd hwl hlo
  obtain rfl : dV = .none := Dflts.none hD hdf
  obtain rfl : kV = .none := Dflts.noKw hD
  obtain ⟨a, vs, ns, rfl, rfl, hobj, hints, hlen⟩ := script_of hn hpre hwl
  refine enter_call (codeAny_mono (call w s₀ s₁ mg mb fa o pm cd doc a vs ns G Y ho (fd_plain hd) hcd hmg hobj hints hlen hg) fun r s' hq => ?_)
  obtain ⟨rfl, h2, h3, h4⟩ := hq
  exact ⟨.inl ⟨.bool true, .bool true, [], rfl, fun _ => rfl, .bool true, post_true l _, fun _ => ⟨List.Pairwise.nil, fun _ hm => (nomatch hm)⟩⟩, h2, h3, h4⟩

/-! ### rules over ANY heap (no ledger) from facts about the written part K: the library's own take a ledger (News) for what they write -/
section
variable {prog : Program} {w : World} {A : Around} {E : Value → Shared → Prop} {s : Shared} {K : Frag}

/-! the whole heap as the ledger: makes every rule that writes through a ledger a rule over any heap -/
def noObjs (h : Heap) : Heap := { h with objs := #[] }
def ledger (h : Heap) (L d : Addr) : List (Addr × Obj) := (List.range h.objs.size).filterMap fun a => if a = L ∨ a = d then none else (h.get? a).map fun o => (a, o)
end
end Att

namespace L2
open PySem PySem.Spec PyProof.Rows

theorem vals_ints : ∀ {vs : List Value} {ns : List Int}, IntsAre vs ns → Vals (ns.map V.int) vs
  | _, _, .nil => .nil
  | _, _, .cons n t h => .cons ⟨t, rfl⟩ (vals_ints h)

/-- nothing is tracked but the script, known to the object (or it is an object of the module) -/
def Only (H : Hp) : Prop := ∀ b, H b = none ∨ ∃ o xs, H b = some (.frz o (.lst xs))

/-- THE HEAD: the law's promise, at the heap behind the top. F, the promise of the law's def, may use that base is part of the heap (so K.In base, base.Ns mainGlobals mg stand in Mod) -/
theorem law_call {P : Program} {w : World} {K : PySem.W.Frag} {mg mb : Str → Option Value} {CX : CXT} {k : Nat} {fa a : Addr} {fd : FuncData} {x : Str} {sp : Sp} {s₁ : Shared} {vs : List Value} {ns : List Int}
    (KX : K.In s₁.heap) (hns : s₁.heap.Ns mainGlobals mg) (hb : s₁.heap.Ns builtinsNs mb) (hbb : ∀ x : Str, x ≠ "__name__" → mb x = bootBuiltins x) (hlim : s₁.heap.NoLimit) (hg : s₁.gens = #[])
    (ha : s₁.heap.get? a = some { cls := .type "list", data := .seq vs.toArray }) (hi : IntsAre vs ns) (hl : ns.length ≤ sizeLine) (hr : Room k callerA)
    (F : ∀ base : Heap, K.In base → base.Ns mainGlobals mg → FnOk P w K mg base CX k fa fd [x] sp) (hbind : ∀ (s : Shared) (u : Value), BindsTo s fd ⟨[u], []⟩ [(x, u)])
    (hsp : ∀ H : Hp, Only H → SqL K H a (ns.map V.int) → sp [.ref a] H (fun v _ => v = .bl true) fun _ _ _ => False)
    (hCX : ∀ H e s', CX [] H s₁ (fun _ _ _ => False) e s' → False) :
    codeAny (model P w) callerA (.call (.ref fa) ⟨[.ref a], []⟩) (fun r s' => r = .ok (.ret (.bool true)) ∧ OldK s₁.heap s'.heap ∧ s'.os = s₁.os ∧ AllBare s'.gens) s₁ := by
  have rv := vals_ints hi
  have lenV := hi.length
  -- from an abstract heap in which nothing but the script may be tracked
  have core : ∀ H : Hp, Only H → SqL K H a (ns.map V.int) → HOk P w H s₁.heap → (∀ b, H b ≠ none → b = a) → (H a ≠ none → K.lookup a = none) →
      codeAny (model P w) callerA (.call (.ref fa) ⟨[.ref a], []⟩) (fun r s' => r = .ok (.ret (.bool true)) ∧ OldK s₁.heap s'.heap ∧ s'.os = s₁.os ∧ AllBare s'.gens) s₁ := by
    intro H hO hS hok hA hK
    have base_of : ∀ {b : Addr} {o : Obj}, s₁.heap.get? b = some o → H b = none → (hidT s₁.heap H).get? b = some o := fun e n => hidT_get e n
    have noA : ∀ {b : Addr} {o : Obj} {es : Array DictEntry} {ep : Nat}, s₁.heap.get? b = some o → o.data = .dict es ep → H b = none := fun {b o es ep} e d => by
      cases q : H b with
      | none => rfl
      | some u =>
        have e' : b = a := hA b (by rw [q]; simp)
        subst e'
        rw [ha] at e; cases e
        have d' : Data.seq vs.toArray _ = Data.dict es ep := d
        cases d'
    have nsK : ∀ {b : Addr} {m : Str → Option Value}, s₁.heap.Ns b m → (hidT s₁.heap H).Ns b m := fun {b m} ⟨o, es, ep, e, d, r⟩ => ⟨o, es, ep, base_of e (noA e d), d, r⟩
    have hKb : K.In (hidT s₁.heap H) := fun b o e => base_of (KX b o e) (by
      cases q : H b with
      | none => rfl
      | some u =>
        have e' : b = a := hA b (by rw [q]; simp)
        subst e'
        rw [hK (by rw [q]; simp)] at e; cases e)
    have hM : Mod K mg (hidT s₁.heap H) := ⟨hKb, nsK hns, ⟨mb, nsK hb, hbb⟩, let ⟨mc, h1, h2⟩ := hlim; ⟨mc, nsK h1, h2⟩⟩
    have e0 : Env0 P w K mg (hidT s₁.heap H) callerA [] s₁ H := ⟨rfl, hM, fun b o e => of_hidT e, Nat.le_of_eq (hidT_size _ _), trivial, fun b hb => absurd (show b ∈ ([] : List Addr) from hb) (by simp), hok, .of_eq hg⟩
    refine codeAny_mono ((F _ hKb (nsK hns)).run callerA [] s₁ H ⟨[.ref a], []⟩ [.ref a] [.ref a] _ _ hr e0 (hbind s₁ (.ref a)) (.cons rfl .nil) (hsp H hO hS)) fun r s' h => ?_
    cases r with
    | error e => exact (hCX H e s' h).elim
    | ok fl =>
      cases fl with
      | next => exact False.elim h
      | brk => exact False.elim h
      | cont => exact False.elim h
      | ret u =>
        obtain ⟨v, H', os, bare, un, hok', r', q⟩ := h
        have q' : v = .bl true := q
        subst q'
        obtain rfl : u = Value.bool true := r'
        refine ⟨rfl, OldK.of_keep fun b o e => ?_, os, bare⟩
        cases q : H b with
        | none => exact un.keep b o e q (by intro z; exact absurd (show b ∈ ([] : List Addr) from z) (by simp)) (by simp)
        | some u =>
          rcases hO b with z | ⟨ob, xs, z⟩
          · rw [q] at z; cases z
          · have z2 := un.frzs b ob _ z
            obtain ⟨e1, _⟩ := hok b _ z
            obtain ⟨e2, _⟩ := hok' b _ z2
            rw [e] at e1; cases e1
            exact e2
  cases hk : K.lookup a with
  | some o =>
    -- the script is one of the module's own objects
    have e := KX a o hk
    rw [ha] at e
    cases e
    refine core (fun _ => none) (fun _ => .inl rfl) (.inr ⟨_, vs.toArray, _, hk, rfl, rfl, rfl, by rw [List.size_toArray, lenV]; exact hl, by simpa using rv⟩) (fun b u z => by have z' : (none : Option HO) = some u := z; cases z') (fun b z => absurd rfl z) fun z => absurd rfl z
  | none =>
    refine core (fun b => if b = a then some (.frz { cls := .type "list", data := .seq vs.toArray } (.lst (ns.map V.int))) else none) (fun b => ?_) (.inl (.inr ⟨{ cls := .type "list", data := .seq vs.toArray }, if_pos rfl⟩)) (fun b u z => ?_) (fun b z => ?_) fun _ => hk
    · by_cases hb : b = a
      · exact .inr ⟨_, _, if_pos hb⟩
      · exact .inl (if_neg hb)
    · by_cases hb : b = a
      · have z' := (if_pos hb).symm.trans z
        cases z'
        subst hb
        exact ⟨ha, by rw [List.length_map]; exact hl, vs, _, rv, ha⟩
      · have z' := (if_neg hb).symm.trans z
        cases z'
    · by_cases hb : b = a
      · exact hb
      · exact absurd (if_neg hb) z
end L2

namespace L2
open PySem PySem.Spec PyProof.Rows

abbrev KOf {K : PySem.W.Frag} {h : Heap} (_ : K.In h) : PySem.W.Frag := K

/-- the goal that k_head leaves (case hc), from the law's promise. F gives the function object fd (K's own) once, then the promise over every base -/
theorem walk_of {l : PySem.W.OpenLaw} {n k : Nat} {q : Program} {loose : List Str} {XP : (Str → Option Value) → Heap → Prop} {YP : World → Heap → Prop} {d : DefRec} {K : Params → PySem.W.Frag} {CX : World → CXT} {sp : World → Sp} {x : Str}
    (hn : l.most = some n) (hn2 : n ≤ sizeLine) (hdf : d.params.defaults = []) (hr : Room k callerA)
    (hY : ∀ (w : World) (h : Heap), YP w h → (K w.params).In h)
    (F : ∀ (w : World) (mg : Str → Option Value) (fa : Addr) (h : Heap), (K w.params).In h → h.Ns mainGlobals mg → mg d.name = some (.ref fa) →
      ∃ fd : FuncData, (∀ (s : Shared) (u : Value), BindsTo s fd ⟨[u], []⟩ [(x, u)]) ∧
        ∀ base : Heap, (K w.params).In base → base.Ns mainGlobals mg → FnOk l.prog w (K w.params) mg base (CX w) k fa fd [x] (sp w))
    (hsp : ∀ (w : World) (H : Hp) (a : Addr) (ns : List Int), ns.length ≤ n → Only H → SqL (K w.params) H a (ns.map V.int) → sp w [.ref a] H (fun v _ => v = .bl true) fun _ _ _ => False)
    (hCX : ∀ (w : World) (H : Hp) (s : Shared) (e : Value) (s' : Shared), CX w [] H s (fun _ _ _ => False) e s' → False) :
    PySem.W.WalkO q loose XP YP l.row.toRowW d [] (fun f vs => PySem.call f vs) := by
  refine Att.attach_call hn hdf fun w s₀ s₁ mg mb fa o pm cd doc a vs ns G Y ho hd hcd hmg hobj hints hlen hg => ?_
  have KX := hY w _ Y
  obtain ⟨fd, hb, hF⟩ := F w mg fa _ KX G.T.g hmg
  exact law_call KX G.T.g G.T.b G.T.builtins G.T.nolimit hg hobj hints (Nat.le_trans hlen hn2) hr hF hb (fun H hO hS => hsp w H a ns hlen hO hS) fun H e s' => hCX w H s₁ e s'
end L2

/-! SHORT WORDS over the layer: a def of the text, its body, what a loop and a test want. -/
namespace L2
open PySem PySem.Spec PyProof.Rows

/-! ### the text by places -/
/-- the j-th statement of a class's body -/
def inClass (s : Stmt) (j : Nat) : Stmt := match s with
  | .ClassDef _ _ _ body _ _ _ _ _ _ _ => body.getD j (.Pass ⟨0, 0, 0, 0⟩)
  | _ => .Pass ⟨0, 0, 0, 0⟩
def defArgs (s : Stmt) : Arguments := match s with
  | .FunctionDef _ a _ _ _ _ _ _ _ _ => a
  | _ => { posonlyargs := [], args := [], vararg := none, kwonlyargs := [], kw_defaults := [], kwarg := none, defaults := [] }
def defBody (s : Stmt) : List Stmt := match s with
  | .FunctionDef _ _ b _ _ _ _ _ _ _ => b
  | _ => []
def defScope (s : Stmt) : Scope := match s with
  | .FunctionDef _ _ _ _ _ _ sc _ _ _ => sc
  | _ => { kind := .function, names := [], isGenerator := false, isCoroutine := false }

/-! ### no exception leaves a def -/
abbrev CX0 : CXT := fun _ _ _ _ _ _ => False
abbrev E0 : XK := fun _ _ _ => False
theorem pass0 {X : Cx} : Passes CX0 X E0 := fun _ _ _ _ _ _ _ h => h.elim

/-! ### a def (or method) of the text as it stands behind the top -/
structure Fun (K : PySem.W.Frag) (x qual : Str) (st : Stmt) (f : Addr) (fd : FuncData) : Prop where
  ex : ∃ (oc : Value) (od : Option Addr) (kV doc pm : Value) (an : Option Addr) (cdv ct : Value) (osl : Array (Option Value)),
    fd = PySem.W.fnOf x qual (defArgs st) (defBody st) (defScope st) .none kV doc pm an cdv ct ∧ K.lookup f = some ⟨oc, od, .func fd, osl⟩ ∧ PySem.W.codeIn K cdv qual = true
  kp : PySem.W.keepIn K (.ref f) = true
section
variable {P : Program} {w : World} {K : PySem.W.Frag} {mg : Str → Option Value} {base : Heap}
/-- THE RULE for a def: its body as a term of rules, and the reading of that term -/
theorem Fun.ok {x qual : Str} {st : Stmt} {f : Addr} {fd : FuncData} {N ps : List Str} {k : Nat} {sp : Sp} (F : Fun K x qual st f fd) (S : FnScope N ps (defScope st)) (len : ∀ vs H Q E, sp vs H Q E → vs.length = ps.length)
    (hbody : ∀ (cdv : Value) (A : Around) (outer : List Env) (s : Shared) (H : Hp) (vs : List V) (Q : VK) (E : XK), Room k (A.deeper (envOfC qual (defScope st) s.heap.objs.size f cdv)) → sp vs H Q E →
      ∃ t, PSs (cxOf CX0 P w K mg base N qual (defScope st) f cdv A outer s H E).nox (defBody st) t ∧ t { nx := fun _ H' => Q .non H', rt := Q } (start N vs) H) : FnOk P w K mg base CX0 (k + 1) f fd ps sp := by
  obtain ⟨oc, od, kV, doc, pm, an, cdv, ct, osl, rfl, lk, hcd⟩ := F.ex
  refine fn_of lk hcd S len fun A outer s H vs Q E hr hsp => ?_
  obtain ⟨t, h, q⟩ := hbody cdv A outer s H vs Q E hr hsp
  exact ⟨t, h.nox, q⟩
/-- how its arguments bind (no defaults): h is «fun _ _ _ _ _ _ us hl => match us, hl with | [_, _], _ => rfl», one _ a parameter -/
theorem Fun.binds {x qual : Str} {st : Stmt} {f : Addr} {fd : FuncData} {ps : List Str} (F : Fun K x qual st f fd)
    (h : ∀ (kV doc pm : Value) (an : Option Addr) (cdv ct : Value) (us : List Value), us.length = ps.length → bindArgs (PySem.W.fnOf x qual (defArgs st) (defBody st) (defScope st) .none kV doc pm an cdv ct) ⟨us, []⟩ = pure (ps.zip us)) : Binds K fd ps [] := by
  obtain ⟨oc, od, kV, doc, pm, an, cdv, ct, osl, rfl, lk, hcd⟩ := F.ex
  exact .all (h kV doc pm an cdv ct)
theorem fun_mk {x qual : Str} {st : Stmt} {f : Addr} {oc : Value} {od an : Option Addr} {osl : Array (Option Value)} {kV doc pm cdv ct : Value} (l : K.lookup f = some ⟨oc, od, .func (PySem.W.fnOf x qual (defArgs st) (defBody st) (defScope st) .none kV doc pm an cdv ct), osl⟩)
    (c : PySem.W.codeIn K cdv qual = true) (k : PySem.W.keepIn K (.ref f) = true) : Fun K x qual st f (PySem.W.fnOf x qual (defArgs st) (defBody st) (defScope st) .none kV doc pm an cdv ct) := ⟨⟨oc, od, kV, doc, pm, an, cdv, ct, osl, rfl, l, c⟩, k⟩
end
theorem small1000 {n : Nat} (h : n ≤ 1000) : n < sizeLine := Nat.lt_of_le_of_lt h (by decide)

/-! ### expressions in short: the name that stands in the i-th slot -/
section
variable {X : Cx}
theorem pv (i : Nat) {x : Str} {pos : Pos} (hN : X.N[i]? = some x := by rfl) (hv : Vis X.env.scope x := by first | exact Or.inl rfl | exact Or.inr (Or.inl rfl) | exact Or.inr (Or.inr rfl)) (hd : (x == ("__debug__" : Str)) = false := by decide)
    (hcd : (x == ("__classdict__" : Str)) = false := by decide) : PE X (.Name x pos) (tVar i) := pe_var hN hv hd hcd
end

/-! ### tests -/
theorem iteF {A B : Prop} (h : B) : if false = true then A else B := by
  rw [if_neg Bool.false_ne_true]
  exact h
theorem iteT {A B : Prop} (h : A) : if true = true then A else B := by
  rw [if_pos rfl]
  exact h
theorem ite2 {c A B : Prop} [Decidable c] (h1 : c → A) (h2 : ¬ c → B) : if c then A else B := by
  by_cases h : c
  · rw [if_pos h]
    exact h1 h
  · rw [if_neg h]
    exact h2 h
/-! ### heaps -/
/-- all that was tracked is as it was -/
def Same (H H' : Hp) : Prop := ∀ b o, H b = some o → H' b = some o
theorem Same.refl (H : Hp) : Same H H := fun _ _ h => h
theorem Same.trans {H H1 H2 : Hp} (a : Same H H1) (b : Same H1 H2) : Same H H2 := fun c o h => b c o (a c o h)
theorem Same.free {H H' : Hp} (e : Same H H') {l : Addr} (h : H' l = Option.none) : H l = Option.none := by
  cases q : H l with
  | none => rfl
  | some o =>
    rw [e l o q] at h
    cases h
theorem Same.seq {K : PySem.W.Frag} {H H' : Hp} {a : Addr} {xs : List V} (e : Same H H') (h : SqL K H a xs) : SqL K H' a xs := by
  rcases h with (h | ⟨o, h⟩) | h
  · exact .inl (.inl (e _ _ h))
  · exact .inl (.inr ⟨o, e _ _ h⟩)
  · exact .inr h

/-! ### a dict's pairs: keys that differ -/
section
variable {κ : Type} [DecidableEq κ]
theorem valV_not {kvs : List (κ × V)} {k : κ} (h : valV kvs k = none) : ¬ k ∈ kvs.map (·.1) := by
  intro m
  obtain ⟨p, hp, e⟩ := List.mem_map.mp m
  have q : (kvs.any fun kv => decide (kv.1 = k)) = true := List.any_eq_true.mpr ⟨p, hp, decide_eq_true e⟩
  rw [valV_any, h] at q
  exact absurd q (by simp)
end
/-! ### lists -/
/-- a new instance and its __init__ leave all that was tracked as it was -/
theorem Same.made {H H1 : Hp} {x dx C : Addr} (nx : H x = Option.none) (nd : H dx = Option.none) (k : ∀ b o, (upd (upd H dx (.own x)) x (.ins C dx [])) b = some o → b ≠ x → H1 b = some o) : Same H H1 := fun b o e =>
  k b o (by rw [upd_ne (ne_of_none e nx), upd_ne (ne_of_none e nd)]; exact e) (ne_of_none e nx)
end L2

set_option maxHeartbeats 4000000
/-! Tuples walked by zip and enumerate, over the raw heap. -/
namespace ZT
open PySem PySem.Spec PyProof.Rows
section
variable {prog : Program} {w : World} {A : Around} {E : Value → Shared → Prop} {s : Shared}

/-- the next item of a tuple's iterator -/
theorem next_item {c t : Addr} {k : Nat} {ys : Array Value} {v : Value} {R : Value → Shared → Prop} (ci : s.heap.IsTupleIter c t k) (ct : s.heap.IsTuple t ys) (cv : ys[k]? = some v)
    (hR : ∀ g, g.IsTupleIter c t (k + 1) → Heap.SameBut c s.heap g → R v { s with heap := g }) : wpAny (model prog w) A (Builtin.SmallTypes.nextOf (.ref c)) R E s := by
  obtain ⟨oc, c1, c2, c3⟩ := id ci
  obtain ⟨ot, t1, _, m, t3⟩ := ct
  unfold Builtin.SmallTypes.nextOf
  refine wpAny_bind (wpAny_callSpecial?_slot (name := Str.ofString "__next__") ci.typeIs F.slot_tuple_iterator_next (wpAny_call_entry F.slot_tuple_iterator_next ci.typeIs F.entry_tuple_iterator_next ?_ (F.args_tuple_iterator_next_1 _)))
  show wpAny _ _ (field (.ref c) 0 >>= _) _ _ s
  refine wpAny_bind (wpAny_field c1 c3 (x := .ref t) rfl ?_)
  show wpAny _ _ (if (Value.ref t == Value.none) = true then _ else _) _ _ s
  rw [if_neg (show ¬ ((Value.ref t == Value.none) = true) from Bool.false_ne_true)]
  show wpAny _ _ (field (.ref c) 1 >>= _) _ _ s
  refine wpAny_bind (wpAny_field c1 c3 (x := .int k 0) rfl ?_)
  show wpAny _ _ (seqItems? (.ref t) >>= _) _ _ s
  refine wpAny_bind (wpAny_seqItems t1 t3 ?_)
  simp only [Int.toNat_natCast, cv]
  refine wpAny_bind (wpAny_setField c1 c3 (by simp) (wpAny_pure ⟨v, rfl, wpAny_pure (hR _ ?_ (Heap.SameBut.update ..))⟩))
  refine ⟨_, Heap.get?_update_self _ c1 (Obj.isFreed_of_fields (Obj.data_mapFields c3 _)), (Obj.cls_mapFields ..).trans c2, ?_⟩
  rw [Obj.data_mapFields c3]
  simp [rawInt]
/-- its end -/
theorem next_end {c t : Addr} {k : Nat} {ys : Array Value} {R : Value → Shared → Prop} (nh : A.handled = none) (ci : s.heap.IsTupleIter c t k) (ct : s.heap.IsTuple t ys) (cv : ys[k]? = none)
    (hX : ∀ g e, Heap.ExtBut c s.heap g → (∃ o, g.get? e = some o ∧ o.cls = .type "StopIteration") → E (.ref e) { s with heap := g }) : wpAny (model prog w) A (Builtin.SmallTypes.nextOf (.ref c)) R E s := by
  obtain ⟨oc, c1, c2, c3⟩ := id ci
  obtain ⟨ot, t1, _, m, t3⟩ := ct
  unfold Builtin.SmallTypes.nextOf
  refine wpAny_bind (wpAny_callSpecial?_slot (name := Str.ofString "__next__") ci.typeIs F.slot_tuple_iterator_next (wpAny_call_entry F.slot_tuple_iterator_next ci.typeIs F.entry_tuple_iterator_next ?_ (F.args_tuple_iterator_next_1 _)))
  show wpAny _ _ (field (.ref c) 0 >>= _) _ _ s
  refine wpAny_bind (wpAny_field c1 c3 (x := .ref t) rfl ?_)
  show wpAny _ _ (if (Value.ref t == Value.none) = true then _ else _) _ _ s
  rw [if_neg (show ¬ ((Value.ref t == Value.none) = true) from Bool.false_ne_true)]
  show wpAny _ _ (field (.ref c) 1 >>= _) _ _ s
  refine wpAny_bind (wpAny_field c1 c3 (x := .int k 0) rfl ?_)
  show wpAny _ _ (seqItems? (.ref t) >>= _) _ _ s
  refine wpAny_bind (wpAny_seqItems t1 t3 ?_)
  simp only [Int.toNat_natCast, cv]
  refine wpAny_bind (wpAny_rule (wpAny_bind (wpAny_setField c1 c3 (by simp) ?_)))
  show wpAny _ _ (newExc (.type "StopIteration") [] >>= _) _ _ _
  refine wpAny_bind ?_
  simp only [newExc, newTuple]
  refine wpAny_bind (wpAny_newObj_type ?_ (by size_fits))
  refine wpAny_bind (m := firstArgMember _ _) (wpAny_of_eq (a := Value.none) (by first | rfl | (simp only [firstArgMember]; rfl)) ?_)
  refine wpAny_newObj_type ?_ (by size_fits)
  simp only [raiseNew]
  refine wpAny_bind (wpAny_handled ?_)
  first | rw [show A.in1.handled = none from nh] | rw [nh]
  refine wpAny_bind (wpAny_pure (wpAny_throw ?_))
  exact hX _ _ (((Heap.SameBut.update ..).extBut.push _).push _) ⟨_, Heap.get?_push_size _ rfl, rfl⟩
/-- a tuple's iterator draws its items -/
theorem draws (nh : A.handled = none) {c t : Addr} (ne : t ≠ c) (ys : Array Value) : Draws prog w A c [c, t] ys.size (fun i v => ys[i]? = some v) (fun i h => h.IsTupleIter c t i ∧ h.IsTuple t ys) where
  live := fun i h st => let ⟨⟨o, q, _⟩, _⟩ := st; ⟨o, q⟩
  frame := fun i h h' st k => ⟨st.1.at fun o q => k c (by simp) o q, st.2.at fun o q => k t (by simp) o q⟩
  item := fun i s Q E hi st hQ => by
    refine next_item st.1 st.2 (v := ys[i]) (by simp [hi]) fun g g1 g2 => ?_
    exact hQ _ g s.toks (by simp [hi]) ⟨g1, st.2.extBut g2.extBut ne⟩ g2
  done := fun s Q E st hE => next_end nh st.1 st.2 (by simp) fun g e x y => hE g e x y
end
/-- the objects of zip(t, u) -/
abbrev zt1 (h : Heap) (l : Addr) : Heap := h.push { cls := .type "tuple_iterator", data := .fields #[.ref l, .int 0 0] }
abbrev zt2 (h : Heap) (l m : Addr) : Heap := (zt1 h l).push { cls := .type "tuple_iterator", data := .fields #[.ref m, .int 0 0] }
abbrev zt3 (h : Heap) (l m : Addr) : Heap := (zt2 h l m).push { cls := .type "tuple", data := .seq #[.ref h.objs.size, .ref (zt1 h l).objs.size] }
abbrev zt4 (h : Heap) (l m : Addr) : Heap := (zt3 h l m).push { cls := .type "tuple", data := .seq #[.none, .none] }
abbrev zt5 (h : Heap) (l m : Addr) : Heap := (zt4 h l m).push { cls := .type "zip", data := .fields #[.none, .bool false, .bool false, .ref (zt2 h l m).objs.size, .ref (zt3 h l m).objs.size] }
section
variable {prog : Program} {w : World} {A : Around} {E : Value → Shared → Prop} {s : Shared}
end
theorem enum_new (t : Addr) (ys : Array Value) : Meets (Builtin.«enumerate.__new__» ⟨[.type "enumerate", .ref t], []⟩) (fun _ R s => s.heap.IsTuple t ys ∧
    R (.ok (.ret (.ref (zt1 s.heap t).objs.size))) { s with heap := (zt1 s.heap t).push { cls := .type "enumerate", data := .fields #[.none, .bool false, .ref s.heap.objs.size, rawInt 0, .none, .none] } }) :=
  .of_wp fun prog w A R s h => by
    obtain ⟨hp, g, d, tk, os⟩ := s
    obtain ⟨t1, h⟩ := h
    have hsub := sub_enumerate
    have q1 : Heap.IsTuple (Shared.heap ⟨hp, g, d, tk, os⟩) t ys := t1
    wp_walk
    refine wpAny_stack_any fun st => wpAny_pure ?_
    split
    · rename_i c _ _ _ _ _
      cases (c == Value.type "enumerate")
      · wp_walk using wpAny_pyIter_tuple q1
        exact ⟨_, rfl, h⟩
      · wp_walk using wpAny_pyIter_tuple q1
        exact ⟨_, rfl, h⟩
    · wp_walk using wpAny_pyIter_tuple q1
      exact ⟨_, rfl, h⟩
section
variable {prog : Program} {w : World} {A : Around} {E : Value → Shared → Prop} {s : Shared}
theorem call_enum {t : Addr} {ys : Array Value} {R : Value → Shared → Prop} (t1 : s.heap.IsTuple t ys)
    (h : ∀ g, IsEnum g (s.heap.objs.size + 1) s.heap.objs.size 0 .none → g.IsTupleIter s.heap.objs.size t 0 → (∀ p o, s.heap.get? p = some o → g.get? p = some o) → R (.ref (s.heap.objs.size + 1)) { s with heap := g }) :
    wpAny (model prog w) A (call (.type "enumerate") [.ref t]) R E s := by
  refine callType_new F.called_enumerate (by decide) (F.typeCall_enumerate_1 _) (F.newCall_enumerate_1 _) (fun obj => F.args_object_init_2 obj _) F.entry_enumerate_new (enum_new t ys) ⟨t1, ?_⟩
  have n1 : (zt1 s.heap t).objs.size = s.heap.objs.size + 1 := Heap.size_push ..
  show _ ∧ _
  rw [n1]
  have e1 : IsEnum ((zt1 s.heap t).push { cls := .type "enumerate", data := .fields #[.none, .bool false, .ref s.heap.objs.size, rawInt 0, .none, .none] }) (s.heap.objs.size + 1) s.heap.objs.size 0 .none := by
    have q := Heap.get?_push_size (zt1 s.heap t) (o := { cls := .type "enumerate", data := .fields #[.none, .bool false, .ref s.heap.objs.size, rawInt 0, .none, .none] }) rfl
    rw [n1] at q
    exact q
  exact ⟨⟨_, e1, rfl⟩, h _ e1 ⟨_, Heap.get?_push_of_some _ (Heap.get?_push_size _ rfl), rfl, rfl⟩ fun p o q => Heap.get?_push_of_some _ (Heap.get?_push_of_some _ q)⟩
end
end ZT

/-! More rules: pairs of texts, deep membership, sorting of pairs, isinstance, zip and enumerate over tuples. -/
namespace L2
open PySem PySem.Spec PyProof.Rows
theorem Same.seqT {K : PySem.W.Frag} {H H' : Hp} {a : Addr} {xs : List V} (e : Same H H') (h : SqT K H a xs) : SqT K H' a xs := by
  rcases h with (h | ⟨o, h⟩) | h
  · exact .inl (.inl (e _ _ h))
  · exact .inl (.inr ⟨o, e _ _ h⟩)
  · exact .inr h
theorem same_new {H : Hp} {p : Addr} (h : H p = none) (o : HO) : Same H (upd H p o) := fun b u q => by rw [upd_ne (ne_of_none q h)]; exact q
/-! ### pairs of texts -/
abbrev SS := Str × Str
def IsPr (K : PySem.W.Frag) (H : Hp) (v : V) (p : SS) : Prop := ∃ a, v = .ref a ∧ SqT K H a [.str p.1, .str p.2]
abbrev Prs (K : PySem.W.Frag) (H : Hp) : List V → List SS → Prop := Paired (IsPr K H)
theorem IsPr.same {K : PySem.W.Frag} {H H' : Hp} {v : V} {p : SS} (h : IsPr K H v p) (e : Same H H') : IsPr K H' v p := let ⟨a, q, r⟩ := h; ⟨a, q, e.seqT r⟩
theorem Prs.same {K : PySem.W.Frag} {H H' : Hp} {vs : List V} {ps : List SS} (h : Prs K H vs ps) (e : Same H H') : Prs K H' vs ps := Paired.mapP h fun _ _ q => q.same e
/-- tuples stay, whatever is written -/
def KeepT (H H' : Hp) : Prop := (∀ b xs, H b = some (.tup xs) → H' b = some (.tup xs)) ∧ ∀ b o u, H b = some (.frz o u) → H' b = some (.frz o u)
theorem KeepT.seqT {K : PySem.W.Frag} {H H' : Hp} {a : Addr} {xs : List V} (e : KeepT H H') (h : SqT K H a xs) : SqT K H' a xs := by
  rcases h with (h | ⟨o, h⟩) | h
  · exact .inl (.inl (e.1 _ _ h))
  · exact .inl (.inr ⟨o, e.2 _ _ _ h⟩)
  · exact .inr h
theorem IsPr.keep {K : PySem.W.Frag} {H H' : Hp} {v : V} {p : SS} (h : IsPr K H v p) (e : KeepT H H') : IsPr K H' v p := let ⟨a, q, r⟩ := h; ⟨a, q, e.seqT r⟩
theorem Prs.keep {K : PySem.W.Frag} {H H' : Hp} {vs : List V} {ps : List SS} (h : Prs K H vs ps) (e : KeepT H H') : Prs K H' vs ps := Paired.mapP h fun _ _ q => q.keep e
theorem Same.keepT {H H' : Hp} (e : Same H H') : KeepT H H' := ⟨fun _ _ h => e _ _ h, fun _ _ _ h => e _ _ h⟩
theorem KeepT.trans {H H1 H2 : Hp} (a : KeepT H H1) (b : KeepT H1 H2) : KeepT H H2 := ⟨fun _ _ h => b.1 _ _ (a.1 _ _ h), fun _ _ _ h => b.2 _ _ _ (a.2 _ _ _ h)⟩
theorem keepT_upd {H : Hp} {l : Addr} {xs : List V} (h : H l = some (.lst xs)) (o : HO) : KeepT H (upd H l o) :=
  ⟨fun b ys q => by rw [upd_ne (ne_of q h (by intro z; cases z))]; exact q, fun b ob u q => by rw [upd_ne (ne_of q h (by intro z; cases z))]; exact q⟩
section
variable {X : Cx} {pins : List (Addr × Obj)} {σ : St} {H : Hp} {s : Shared}
theorem Inv.pr (I : Inv X pins σ H s) {v : V} {u : Value} {p : SS} (h : IsPr X.K H v p) (r : RelV v u) : ∃ a t t', u = .ref a ∧ s.heap.IsTuple a #[.str p.1 t, .str p.2 t'] := by
  obtain ⟨a, rfl, hq⟩ := h
  cases r
  obtain ⟨its, rv, hp, _⟩ := I.tuple hq
  cases rv with
  | cons r1 rr =>
    cases rr with
    | cons r2 rr =>
      cases rr
      obtain ⟨t, rfl⟩ := r1
      obtain ⟨t', rfl⟩ := r2
      exact ⟨a, t, t', rfl, hp⟩
end
/-- the pair that a value is -/
def prOf (h : Heap) : Value → Option SS
  | .ref a => match h.get? a with
    | some o => (match o.data with
      | .seq its _ => (match its.toList with
        | [.str x _, .str y _] => some (x, y)
        | _ => none)
      | _ => none)
    | none => none
  | _ => none
theorem prOf_of {h : Heap} {a : Addr} {x y : Str} {t t' : Tok} (q : h.IsTuple a #[.str x t, .str y t']) : prOf h (.ref a) = some (x, y) := by
  obtain ⟨o, h1, h2, n, h3⟩ := q
  simp [prOf, h1, h3]
theorem eqAt_pair {A : Around} {s : Shared} {a b : Addr} {x y x' y' : Str} {t u t' u' : Tok} (ha : s.heap.IsTuple a #[.str x t, .str y u]) (hb : s.heap.IsTuple b #[.str x' t', .str y' u']) (hu : A.units < cLine) :
    SeqAt.EqAt A s (.ref a) (.ref b) (decide ((x, y) = (x', y'))) := by
  by_cases e : a = b
  · subst e
    have q := (prOf_of ha).symm.trans (prOf_of hb)
    have q' : (x, y) = (x', y') := Option.some.inj q
    rw [decide_eq_true q']
    exact SeqAt.EqAt.same _
  · have r := SeqAt.RcAt.tuples (A := A) (e := fun j => if j = 0 then x == x' else y == y') ha hb hu (fun j h1 h2 => by
      have hj : j = 0 ∨ j = 1 := by
        have : j < 2 := by simpa using h1
        omega
      rcases hj with rfl | rfl
      · exact SeqAt.EqAt.str_str x t x' t'
      · exact SeqAt.EqAt.str_str y u y' u')
    have e2 : ((List.range (min (#[Value.str x t, Value.str y u]).size (#[Value.str x' t', Value.str y' u']).size)).all (fun j => if j = 0 then x == x' else y == y') && (#[Value.str x t, Value.str y u]).size == (#[Value.str x' t', Value.str y' u']).size) = decide ((x, y) = (x', y')) := by
      have e3 : List.range (min (#[Value.str x t, Value.str y u]).size (#[Value.str x' t', Value.str y' u']).size) = [0, 1] := rfl
      rw [e3]
      simp [Prod.ext_iff]
      by_cases c1 : x = x' <;> by_cases c2 : y = y' <;> simp [c1, c2]
    rw [e2] at r
    exact SeqAt.EqAt.of_refs e r
def rInP (K : PySem.W.Frag) (neg : Bool) : R2 := fun x y H Q => ∃ q vs ps px, y = .ref q ∧ (SqL K H q vs ∨ SqT K H q vs) ∧ Prs K H vs ps ∧ IsPr K H x px ∧ Q (.bl (if neg then !decide (px ∈ ps) else decide (px ∈ ps))) H
section
variable {X : Cx} {pins : List (Addr × Obj)} {σ : St} {H : Hp} {s : Shared}
theorem any_pr (I : Inv X pins σ H s) (px : SS) : ∀ {vs : List V} {its : List Value} {ps : List SS}, Vals vs its → Prs X.K H vs ps → (its.any fun u => decide (prOf s.heap u = some px)) = decide (px ∈ ps)
  | _, _, _, .nil, .nil => by simp
  | _, _, _, .cons r t, .cons (b := p) q u => by
    obtain ⟨a, t1, t2, rfl, hp⟩ := I.pr q r
    rw [List.any_cons, any_pr I px t u, prOf_of hp]
    by_cases c : p = px
    · subst c
      simp
    · have c' : ¬ px = p := fun z => c z.symm
      simp [c, c']
theorem mem_pr (I : Inv X pins σ H s) {px : SS} {x : V} {v : Value} (hx : IsPr X.K H x px) (rx : RelV x v) {A : Around} (hu : A.units < cLine) : ∀ {vs : List V} {its : List Value} {ps : List SS}, Vals vs its → Prs X.K H vs ps → ∀ u ∈ its, SeqAt.EqAt A s u v (decide (prOf s.heap u = some px))
  | _, _, _, .nil, .nil => fun u hu => by cases hu
  | _, _, _, .cons r t, .cons (b := p) q w => fun u hm => by
    rcases List.mem_cons.mp hm with rfl | hm
    · obtain ⟨a, t1, t2, rfl, hp⟩ := I.pr q r
      obtain ⟨b, t3, t4, rfl, hp2⟩ := I.pr hx rx
      have z := eqAt_pair (A := A) hp hp2 hu
      rw [prOf_of hp]
      have e : decide (some ((p.1, p.2) : SS) = some px) = decide (((p.1, p.2) : SS) = (px.1, px.2)) := by
        by_cases c : p = px <;> simp [c]
      rw [e]
      exact z
    · exact mem_pr I hx rx hu t w u hm
end
section
variable {X : Cx}
theorem op_inP (hu : X.A.units + 64 < cLine) : OpR X (compareOp .In) (rInP X.K false) := by
  intro pins s σ H x y v u Q I rx ry h
  obtain ⟨q, vs, ps, px, rfl, hq, hp, hx, hQ⟩ := h
  cases ry
  have hu1 : X.A.in1.units < cLine := by
    have : X.A.in1.units = X.A.units + 1 := rfl
    omega
  rcases hq with hq | hq
  · obtain ⟨its, r, pl, hz⟩ := I.list hq
    refine SeqAt.in_listAt (fun u => decide (prOf s.heap u = some px)) pl.isList (fun w hw => mem_pr I hx rx hu1 r hp w (by simpa using hw)) ⟨.bl _, H, I, rfl, ?_⟩
    rw [show its.toArray.any (fun u => decide (prOf s.heap u = some px)) = its.any (fun u => decide (prOf s.heap u = some px)) by simp, any_pr I px r hp]
    exact hQ
  · obtain ⟨its, r, pl, hz⟩ := I.tuple hq
    refine SeqAt.in_tupleAt (fun u => decide (prOf s.heap u = some px)) pl (fun w hw => mem_pr I hx rx hu1 r hp w (by simpa using hw)) ⟨.bl _, H, I, rfl, ?_⟩
    rw [show its.toArray.any (fun u => decide (prOf s.heap u = some px)) = its.any (fun u => decide (prOf s.heap u = some px)) by simp, any_pr I px r hp]
    exact hQ
theorem op_notInP (hu : X.A.units + 64 < cLine) : OpR X (compareOp .NotIn) (rInP X.K true) := by
  intro pins s σ H x y v u Q I rx ry h
  obtain ⟨q, vs, ps, px, rfl, hq, hp, hx, hQ⟩ := h
  cases ry
  have hu1 : X.A.in1.units < cLine := by
    have : X.A.in1.units = X.A.units + 1 := rfl
    omega
  rcases hq with hq | hq
  · obtain ⟨its, r, pl, hz⟩ := I.list hq
    refine SeqAt.notIn_listAt (fun u => decide (prOf s.heap u = some px)) pl.isList (fun w hw => mem_pr I hx rx hu1 r hp w (by simpa using hw)) ⟨.bl _, H, I, rfl, ?_⟩
    rw [show its.toArray.any (fun u => decide (prOf s.heap u = some px)) = its.any (fun u => decide (prOf s.heap u = some px)) by simp, any_pr I px r hp]
    exact hQ
  · obtain ⟨its, r, pl, hz⟩ := I.tuple hq
    refine SeqAt.notIn_tupleAt (fun u => decide (prOf s.heap u = some px)) pl (fun w hw => mem_pr I hx rx hu1 r hp w (by simpa using hw)) ⟨.bl _, H, I, rfl, ?_⟩
    rw [show its.toArray.any (fun u => decide (prOf s.heap u = some px)) = its.any (fun u => decide (prOf s.heap u = some px)) by simp, any_pr I px r hp]
    exact hQ
end
/-! ### sorted, of a list of pairs of texts, any length -/
def prKey (p : SS) : List (Int ⊕ List Nat) := [.inr p.1.cps.toList, .inr p.2.cps.toList]
def prLt (p q : SS) : Bool := lexLt itemOrd (prKey p) (prKey q)
def rSortedP (K : PySem.W.Frag) : List V → Hp → VK → Prop := fun vs H Q => ∃ (a : Addr) (xs : List V) (ps : List SS), vs = [V.ref a] ∧ SqL K H a xs ∧ Prs K H xs ps ∧
  ∀ (xs' : List V) (ps' : List SS) (p : Addr), Prs K H xs' ps' → ps'.Perm ps → ps'.Pairwise (fun p q => prLt q p = false) → H p = none → Q (.ref p) (upd H p (.lst xs'))
section
variable {X : Cx} {pins : List (Addr × Obj)} {σ : St} {H : Hp} {s : Shared}
theorem tups_pr (I : Inv X pins σ H s) : ∀ {vs : List V} {its : List Value} {ps : List SS}, Vals vs its → Prs X.K H vs ps → ∃ fs, TupsOf s.heap (fun _ => true) its fs
  | _, _, _, .nil, .nil => ⟨[], .nil⟩
  | _, _, _, .cons r t, .cons (b := p) q u => by
    obtain ⟨fs, h⟩ := tups_pr I t u
    obtain ⟨a, t1, t2, rfl, o, h1, h2, n, h3⟩ := I.pr q r
    exact ⟨_, .cons ⟨a, o, _, n, rfl, h1, h2, h3, rfl, (fun z => nomatch z), (fun _ => ⟨_, _, rfl⟩)⟩ h⟩
theorem key_pr {h : Heap} {a : Addr} {x y : Str} {t t' : Tok} (q : h.IsTuple a #[.str x t, .str y t']) : G.tupKeyC h (fun _ => true) (.ref a) = some (prKey (x, y)) := by
  obtain ⟨o, h1, h2, n, h3⟩ := q
  simp [G.tupKeyC, G.isTupObj, tupKey, h1, h2, h3, tupItems, prKey]
theorem all_pr (I : Inv X pins σ H s) : ∀ {vs : List V} {its : List Value} {ps : List SS}, Vals vs its → Prs X.K H vs ps → ∀ u ∈ its, ∃ v p, absV u = some v ∧ RelV v u ∧ IsPr X.K H v p ∧ prOf s.heap u = some p ∧ G.tupKeyC s.heap (fun _ => true) u = some (prKey p)
  | _, _, _, .nil, .nil => fun u hu => by cases hu
  | _, _, _, .cons r t, .cons (b := p) q w => fun u hm => by
    rcases List.mem_cons.mp hm with rfl | hm
    · obtain ⟨a, t1, t2, e, hp⟩ := I.pr q r
      exact ⟨_, p, r.abs, r, q, by rw [e]; exact prOf_of hp, by rw [e]; exact key_pr hp⟩
    · exact all_pr I t w u hm
theorem map_pr (I : Inv X pins σ H s) : ∀ {vs : List V} {its : List Value} {ps : List SS}, Vals vs its → Prs X.K H vs ps → its.map (fun u => (prOf s.heap u).getD default) = ps
  | _, _, _, .nil, .nil => rfl
  | _, _, _, .cons r t, .cons (b := p) q w => by
    obtain ⟨a, t1, t2, e, hp⟩ := I.pr q r
    rw [List.map_cons, map_pr I t w, e, prOf_of hp]
    rfl
theorem vals_back {f : Value → V} : ∀ {us : List Value}, (∀ u ∈ us, RelV (f u) u) → Vals (us.map f) us
  | [], _ => .nil
  | u :: us, h => .cons (h u (List.mem_cons_self ..)) (vals_back fun w hw => h w (List.mem_cons_of_mem _ hw))
theorem prs_back {K : PySem.W.Frag} {f : Value → V} {g : Value → SS} : ∀ {us : List Value}, (∀ u ∈ us, IsPr K H (f u) (g u)) → Prs K H (us.map f) (us.map g)
  | [], _ => .nil
  | u :: us, h => .cons (h u (List.mem_cons_self ..)) (prs_back fun w hw => h w (List.mem_cons_of_mem _ hw))
end
section
variable {X : Cx}
/-! ### isinstance -/
def tyIs (K : PySem.W.Frag) (H : Hp) : V → String → Prop
  | .str _, T => T = "str"
  | .int _, T => T = "int"
  | .ref a, T => T = "tuple" ∧ ∃ xs, SqT K H a xs
  | _, _ => False
def rIsi (K : PySem.W.Frag) : List V → Hp → VK → Prop := fun vs H Q => ∃ x Tx T, vs = [x, .ty T] ∧ tyIs K H x Tx ∧ (T = "tuple" ∨ T = "str" ∨ T = "int" ∨ T = "bool") ∧ Q (.bl (decide (Tx = T))) H
theorem boot_tuple : bootBuiltins "tuple" = some (.type "tuple") := by decide +kernel
theorem boot_int : bootBuiltins "int" = some (.type "int") := by decide +kernel
end
/-! ### enumerate(tuple) -/
def IteT (K : PySem.W.Frag) (a : Addr) : It :=
  ⟨fun i H => ∃ (xs : List V) (x : V), SqT K H a xs ∧ xs[i]? = some x, fun i H v H' => ∃ T x, v = .ref T ∧ H T = none ∧ H' = upd H T (.tup [.int (i : Nat), x]) ∧ ∀ xs, SqT K H a xs → xs[i]? = some x, fun i H => ∃ xs : List V, SqT K H a xs ∧ xs.length ≤ i⟩
theorem iter_ne {h : Heap} {t c : Addr} {k : Nat} {ys : Array Value} (ct : h.IsTuple t ys) (ci : h.IsTupleIter c t k) : t ≠ c := fun e => by
  subst e
  obtain ⟨o, h1, h2, _⟩ := ct
  obtain ⟨o', k1, k2, _⟩ := ci
  rw [h1] at k1
  cases k1
  rw [h2] at k2
  injection k2 with k2
  exact absurd k2 (by decide)
theorem enum_ne {h : Heap} {e it t : Addr} {i : Int} {old : Value} {ys : Array Value} (he : IsEnum h e it i old) (ct : h.IsTuple t ys) : e ≠ t := fun q => by
  subst q
  obtain ⟨o, h1, h2, _⟩ := ct
  rw [he] at h1
  cases h1
  injection h2 with h2
  exact absurd h2 (by decide)
theorem turn_enumT {P : Program} {w : World} {K : PySem.W.Frag} {elts : List Expr} {kk : Nat} {tpos : Pos} (a e it : Addr) :
    Turn P w K (.Tuple elts kk tpos) (IteT K a) [e, it] e (fun i h => (∃ old, IsEnum h e it ((i : Nat) : Int) old) ∧ h.IsTupleIter it a i ∧ e ≠ it) where
  mem := by simp
  obj := fun i h st b hb => by
    obtain ⟨⟨old, he⟩, ⟨o, ho, hc, hd⟩, _⟩ := st
    have e' : b = e ∨ b = it := by simpa using hb
    rcases e' with z | z
    · rw [z]; exact ⟨_, he, fun v q => nomatch q⟩
    · rw [z]; exact ⟨o, ho, fun v q => by rw [hd] at q; cases q⟩
  keep := fun i h h' st k => let ⟨⟨old, he⟩, hi, hne⟩ := st; ⟨⟨old, k e (by simp) _ he⟩, hi.at fun o q => k it (by simp) o q, hne⟩
  item := by
    intro X hP hw hK hc i pins s σ H E I hf st hg
    subst hP hw hK
    obtain ⟨⟨old, he⟩, hit, hne⟩ := st
    obtain ⟨xs, x, hq, hx⟩ := hg
    obtain ⟨its, rv, p, hz⟩ := I.tuple hq
    obtain ⟨u, hu, ru⟩ := rv.get hx
    have hel : e < s.heap.objs.size := Heap.lt_size he
    have hil : it < s.heap.objs.size := by obtain ⟨_, q, _⟩ := hit; exact Heap.lt_size q
    have hlt : i < its.toArray.size := by
      have := (List.getElem?_eq_some_iff.mp hu).1
      simpa using this
    have nt : e ≠ a := enum_ne he p
    refine wpAny_pyNext_enum_itemD (ZT.draws (A := X.A.in1) (I.ok.hd hc) (iter_ne p hit) its.toArray) he ⟨hit, p⟩ hlt hne (by simp [hne, nt]) fun x' h' tk hx' ho st' hT hsz hk => ?_
    have ex : x' = u := by
      have e1 : its[i]? = some x' := by simpa using hx'
      rw [hu] at e1
      exact (Option.some.inj e1).symm
    subst ex
    refine ⟨_, rfl, wpAny_letOwnedTupleGo_enum (s := { s with heap := h', toks := tk + 1 }) ho fun h'' he' sb => ?_⟩
    have hT2 : h''.get? s.heap.objs.size = some { cls := .type "tuple", data := .seq #[.int i tk, x'] } := (sb.2 _ (Nat.ne_of_gt hel)).trans hT
    have new : ObjOk X.prog X.w (upd H s.heap.objs.size (.tup [.int (i : Nat), x])) h'' s.heap.objs.size (.tup [.int (i : Nat), x]) :=
      ⟨by show 2 ≤ sizeLine; decide, [.int i tk, x'], .cons ⟨_, rfl⟩ (.cons ru .nil), ⟨_, hT2, rfl, _, rfl⟩⟩
    have I1 : Inv X pins σ (upd H s.heap.objs.size (.tup [.int (i : Nat), x])) { s with heap := h'', toks := tk + 1 } :=
      I.turnedNew (ch := [e, it]) (fun b ob hb q => (sb.2 b (fun z => hb (by simp [z]))).trans (hk b ob (fun z => hb (by simp [z])) (fun z => hb (by simp [z])) q)) hf (Nat.le_refl _) new
    refine ⟨.ref s.heap.objs.size, _, I1, rfl, ⟨_, x, rfl, I.hok.fresh (Nat.le_refl _), rfl, fun ys hy => by rw [I.tuple_inj hy hq]; exact hx⟩, ⟨⟨x', ?_⟩, st'.1.at fun o q => (sb.2 it (Ne.symm hne)).trans q, hne⟩, fun b hb => ?_⟩
    · have e1 : ((i + 1 : Nat) : Int) = (i : Int) + 1 := by omega
      rw [e1]; exact he'
    · have hb' : b < s.heap.objs.size := by
        have e' : b = e ∨ b = it := by simpa using hb
        rcases e' with z | z
        · rw [z]; exact hel
        · rw [z]; exact hil
      rw [upd_ne (Nat.ne_of_lt hb')]
      exact (hf b hb).1
  done := by
    intro X hP hw hK hc i pins s σ H E I hf st hg
    subst hP hw hK
    obtain ⟨⟨old, he⟩, hit, hne⟩ := st
    obtain ⟨xs, hq, hx⟩ := hg
    obtain ⟨its, rv, p, hz⟩ := I.tuple hq
    obtain ⟨f0, f1, f2, f3, f4, f5⟩ := hf it (by simp)
    have hl := rv.length
    have hend : its.toArray[i]? = none := by simp; omega
    have hT : s.TypeIs (.ref e) "enumerate" := ⟨_, he, rfl⟩
    unfold pyNext
    refine wpAny_bind (wpAny_attempt (wpAny_callSpecial?_slot (name := Str.ofString "__next__") hT F.slot_enumerate_next (wpAny_call_entry F.slot_enumerate_next hT F.entry_enumerate_next ?_ (F.args_enumerate_next_1 _))))
    show wpAny _ _ (field (.ref e) 2 >>= _) _ _ _
    refine wpAny_bind (wpAny_field he rfl (x := .ref it) rfl ?_)
    refine wpAny_bind (ZT.next_end (A := X.A.in1) (I.ok.hd hc) hit p hend fun h' x he' hx' => ?_)
    obtain ⟨o, ho, hcl⟩ := hx'
    refine wpAny_bind (wpAny_isInstance (T := "StopIteration") (b := true) ⟨o, ho, hcl⟩ isSubtype_stop ?_)
    exact wpAny_pure ⟨rfl, I.turned (t' := s.toks) (fun b o hb q => he' b o hb q) f0 f1 f3 f4 f5⟩
  self := fun A i s Q E st h => let ⟨⟨_, he⟩, _⟩ := st; wpAny_pyIter_enum he h
def iEnumT (K : PySem.W.Frag) (ta : TA) : TI := fun σ H R => ta σ H fun vs H1 => ∃ a xs, vs = [.ref a] ∧ SqT K H1 a xs ∧ R (IteT K a) H1
theorem pi_enumT {X : Cx} {e : Expr} {ta : TA} {p pos tpos : Pos} {elts : List Expr} {kk : Nat} (hg : Gl X "enumerate") (hm : X.mg "enumerate" = none) (ha : PA X [e] ta) (hs : starEach [e] X.env = [(false, eval e X.env)] := by rfl) :
    PI X (.Tuple elts kk tpos) (.Call (.Name "enumerate" p) [e] [] pos) (iEnumT X.K ta) := by
  intro pins s σ H R I h
  refine Call_ (ld_blt I hg hm boot_enumerate (PyProof.Rows.callWith_type1 (thn (ha pos pins s σ H _ I h) fun us s1 ⟨vs, H1, I1, r1, q1⟩ => ?_) hs rfl))
  obtain ⟨a, xs, ex, hq, q⟩ := q1
  subst ex
  cases r1 with
  | cons r rr =>
    cases rr
    cases r
    obtain ⟨its, rv, p', hz⟩ := I1.tuple hq
    refine ZT.call_enum p' fun h' he hit hk => wpAny_pyIter_enum he ?_
    have I2 : Inv X pins σ H1 { s1 with heap := h' } := I1.kept (t' := s1.toks) hk
    refine ⟨s1.heap.objs.size + 1, [s1.heap.objs.size + 1, s1.heap.objs.size], _, _, H1, rfl, I2, turn_enumT a (s1.heap.objs.size + 1) s1.heap.objs.size, ⟨⟨.none, he⟩, hit, Nat.succ_ne_self _⟩, fun b hb => ?_, q⟩
    have e' : b = s1.heap.objs.size + 1 ∨ b = s1.heap.objs.size := by simpa using hb
    have hle : s1.heap.objs.size ≤ b := by
      rcases e' with z | z
      · rw [z]; exact Nat.le_add_right _ _
      · rw [z]; exact Nat.le_refl _
    exact I1.fpOk hle (I1.hok.fresh hle)
/-! ### zip(tuple, tuple), of one length -/
def ItzT (K : PySem.W.Frag) (a b : Addr) : It :=
  ⟨fun i H => ∃ (xs ys : List V) (x y : V), SqT K H a xs ∧ SqT K H b ys ∧ xs[i]? = some x ∧ ys[i]? = some y,
    fun i H v H' => ∃ T x y, v = .ref T ∧ H T = none ∧ H' = upd H T (.tup [x, y]) ∧ (∀ xs, SqT K H a xs → xs[i]? = some x) ∧ ∀ ys, SqT K H b ys → ys[i]? = some y,
    fun i H => ∃ xs : List V, SqT K H a xs ∧ xs.length ≤ i⟩
def iZipT (K : PySem.W.Frag) (ta : TA) : TI := fun σ H R => ta σ H fun vs H1 => ∃ a b xs ys, vs = [.ref a, .ref b] ∧ SqT K H1 a xs ∧ SqT K H1 b ys ∧ R (ItzT K a b) H1
end L2
namespace L2
open PySem
theorem boot_len : bootBuiltins "len" = some (.builtin "len") := PySem.boot_len
theorem boot_min : bootBuiltins "min" = some (.builtin "min") := by decide +kernel
theorem boot_sorted : bootBuiltins "sorted" = some (.builtin "sorted") := by decide +kernel
theorem boot_all : bootBuiltins "all" = some (.builtin "all") := by decide +kernel
theorem boot_any : bootBuiltins "any" = some (.builtin "any") := by decide +kernel
theorem boot_list : bootBuiltins "list" = some (.type "list") := by decide +kernel
end L2

/-! Words of small letters. -/
namespace Wd
open PySem L2
abbrev lett : Str := "abcdefghijklmnopqrstuvwxyz"
abbrev own12 : List Str := ["web", "put", "take", "tie", "untie", "show", "first", "next", "all", "count", "sizes", "biggest"]
abbrev own4 : List Str := ["fill", "tied", "apart", "cover"]
def own16 : List Str := own12 ++ own4
/-- small letters alone -/
def Lt (x : Str) : Prop := ∀ c ∈ x.cps.toList, 97 ≤ c ∧ c ≤ 122
structure Word (x : Str) : Prop where
  lo : 1 ≤ x.length
  hi : x.length ≤ 8
  lt : Lt x
theorem len_tl (x : Str) : x.length = x.cps.toList.length := rfl
theorem lett_all : ∀ k : Nat, k < 26 → (lett.cps.toList)[k]? = some (97 + k) := by decide +kernel
theorem lett_at {r : Int} (h0 : 0 ≤ r) (h1 : r < 26) : atI lett.cps.toList r = some (97 + r.toNat) := by
  obtain ⟨k, rfl⟩ := Int.eq_ofNat_of_zero_le h0
  rw [Int.toNat_natCast]
  exact atI_nat (lett_all k (by omega))
theorem lett_len : lett.length ≤ sizeLine := by decide +kernel
theorem sign_len (k : Nat) : (⟨#[k]⟩ : Str).length = 1 := rfl
theorem app_len (x y : Str) : (x ++ y).length = x.length + y.length := by
  show (x.cps ++ y.cps).size = x.cps.size + y.cps.size
  rw [Array.size_append]
/-- the words that are tried in turn -/
def turnW (t : Nat) : Str := (⟨#[97 + t % 26]⟩ : Str) ++ (⟨#[97 + t / 26]⟩ : Str)
/-- a list without doubles within another is not longer -/
theorem nodup_le {α : Type} [DecidableEq α] : ∀ {xs ys : List α}, xs.Nodup → (∀ x ∈ xs, x ∈ ys) → xs.length ≤ ys.length
  | [], _, _, _ => Nat.zero_le _
  | x :: r, ys, h, hs => by
    have h1 := List.nodup_cons.mp h
    have hx : x ∈ ys := hs x (List.mem_cons_self ..)
    have ih := nodup_le (ys := ys.erase x) h1.2 fun y hy => by
      have ne : y ≠ x := fun e => h1.1 (e ▸ hy)
      exact (List.mem_erase_of_ne ne).mpr (hs y (List.mem_cons_of_mem _ hy))
    rw [List.length_erase_of_mem hx] at ih
    have hl : 0 < ys.length := List.length_pos_of_mem hx
    rw [List.length_cons]
    omega
end Wd

/-! The rules once more, behind structures: what a rule speaks of is not opened while a long term is read. -/
namespace L2
open PySem PySem.Spec PyProof.Rows
structure SE (X : Cx) (e : Expr) (t : TE) : Prop where
  o : PE X e t
structure SA (X : Cx) (es : List Expr) (t : TA) : Prop where
  o : PA X es t
structure ST (X : Cx) (e : Expr) (t : TT) : Prop where
  o : PT X e t
structure SW (X : Cx) (e : Expr) (t : TT) : Prop where
  o : PW X e t
structure SS1 (X : Cx) (st : Stmt) (t : TS) : Prop where
  o : PS X st t
structure SB (X : Cx) (sts : List Stmt) (t : TS) : Prop where
  o : PSs X sts t
structure SG (X : Cx) (tg : Expr) (g : TG) : Prop where
  o : PG X tg g
structure SH (X : Cx) (ts : List Expr) (g : TGs) : Prop where
  o : PGs X ts g
structure SI (X : Cx) (tg it : Expr) (wi : TI) : Prop where
  o : PI X tg it wi
structure SU (X : Cx) (ifs : List Expr) (t : TT) : Prop where
  o : PTs X ifs t
structure SO (X : Cx) (e : Option Expr) (t : TO) : Prop where
  o : PO X e t
section
variable {X : Cx} {a b e o i : Expr} {ta tb te to ti : TE} {pos p p2 apos tpos : Pos} {t u : TS} {tA tB' tt : TT} {st : Stmt} {rest : List Stmt} {es : List Expr} {tas : TA}
theorem SB.use {D : Ends} {σ : St} {H : Hp} (h : SB X rest t) (q : t D σ H) : ∃ t, PSs X rest t ∧ t D σ H := ⟨t, h.o, q⟩
theorem bcons (h1 : SS1 X st t) (h2 : SB X rest u) : SB X (st :: rest) (tSeq t u) := ⟨pss_cons h1.o h2.o⟩
theorem bone (h1 : SS1 X st t) : SB X [st] t := ⟨pss_one h1.o⟩
theorem bnil : SB X [] tNext := ⟨pss_nil⟩
theorem bset {n : Nat} {x : Str} (hN : X.N.Nodup) (hi : X.N[n]? = some x) (hx : Loc X.env.scope x) (he : SE X e te) (hs : swapsWith e (some (.Name x p)) pos.line X.env = pure false) (hf : X.fn x = true ∨ X.env.scope.names.lookup x = some .local) : SS1 X (.Assign [.Name x p] e pos) (tAsg te (gName n)) := ⟨ps_set hN hi hx he.o hs hf⟩
theorem basg {tg : Expr} {g : TG} (he : SE X e te) (hg : SG X tg g) (hs : swapsWithSole [tg] e pos.line X.env = pure false) (hw : swappedStores [tg] e X.env = pure none) (h1 : (assignEach [tg] X.env).map (·.2) = [assign tg X.env]) : SS1 X (.Assign [tg] e pos) (tAsg te g) := ⟨ps_asg he.o hg.o hs hw h1⟩
theorem bwhile {body : List Stmt} {tb : TS} (hp : PassesOwn (model X.prog X.w) X.A X.env X.xe) (hc : ST X a tA) (hb : SB X body tb) : SS1 X (.While a body [] pos) (tWhile tA tb) := ⟨ps_while hp hc.o hb.o⟩
theorem bfor {tg it : Expr} {body : List Stmt} {wi : TI} {g : TG} {tb : TS} (hp : PassesOwn (model X.prog X.w) X.A X.env X.xe) (hc : X.calm = true) (hi : SI X tg it wi) (hg : SG X tg g) (hb : SB X body tb) (hs : ∀ x, foldedSetIterable it X.env x = pure x) : SS1 X (.For tg it body [] pos) (tFor wi g tb) := ⟨ps_for hp hc hi.o hg.o hb.o hs⟩
theorem bifs {xs ys : List Stmt} (hc : ST X a tA) (ha : SB X xs t) (hb : SB X ys u) : SS1 X (.If a xs ys pos) (tIfS tA t u) := ⟨ps_if hc.o ha.o hb.o⟩
theorem bret (he : SE X e te) : SS1 X (.Return (some e) pos) (tRet te) := ⟨ps_ret he.o⟩
theorem bexpr (he : SE X e te) (hs : swapsWith e none pos.line X.env = pure false) : SS1 X (.Expr e pos) (tDrop te) := ⟨ps_expr he.o hs⟩
theorem eint {i : Int} {j : Nat} : SE X (.Constant (.int i) j pos) (tC (.int i)) := ⟨pe_int⟩
theorem ebl {b : Bool} {j : Nat} : SE X (.Constant (.bool b) j pos) (tC (.bl b)) := ⟨pe_bl⟩
theorem estr {x : Str} {j : Nat} : SE X (.Constant (.str x) j pos) (tC (.str x)) := ⟨pe_str⟩
theorem ev (n : Nat) {x : Str} (hN : X.N[n]? = some x) (hv : Vis X.env.scope x) (hd : (x == ("__debug__" : Str)) = false) (hcd : (x == ("__classdict__" : Str)) = false) : SE X (.Name x pos) (tVar n) := ⟨pv n hN hv hd hcd⟩
theorem eop {op : Operator} {r : R2} (ho : OpR X (binaryOp op) r) (ha : SE X a ta) (hb : SE X b tb) : SE X (.BinOp a op b pos) (tOp r ta tb) := ⟨pe_op ho ha.o hb.o⟩
theorem anil : SA X [] tNil := ⟨pa_nil⟩
theorem acons (ha : SE X e te) (hr : SA X es tas) (hs : starEach (e :: es) X.env = (false, eval e X.env) :: starEach es X.env) : SA X (e :: es) (tCons te tas) := ⟨pa_cons ha.o hr.o hs⟩
theorem elst (h : SA X es tas) : SE X (.List es pos) (tLst tas) := ⟨pe_lst h.o⟩
theorem etup {k : Nat} (h : SA X es tas) : SE X (.Tuple es k pos) (tTup tas) := ⟨pe_tup h.o⟩
theorem eix {r : R2} (hr : IxR X r) (ha : SE X a ta) (hb : SE X b tb) (hs : PlainIx b) : SE X (.Subscript a b pos) (tOp r ta tb) := ⟨pe_ix hr ha.o hb.o hs⟩
theorem onone : SO X none tNoPart := ⟨po_none⟩
theorem osome (h : SE X e te) : SO X (some e) (tPart te) := ⟨po_some h.o⟩
theorem eslice {lo hi : Option Expr} {tl th : TO} {r : V → Option Int → Option Int → Hp → VK → Prop} (hr : SlR X r) (he : SE X e te) (hl : SO X lo tl) (hu : SO X hi th) : SE X (.Subscript e (.Slice lo hi none p2) pos) (tSl r te tl th) := ⟨pe_slice hr he.o hl.o hu.o⟩
theorem ecallB {x : Str} {id : String} {r : List V → Hp → VK → Prop} (hc : CallR X (.builtin id) r) (hg : Gl X x) (hm : X.mg x = none) (hv : bootBuiltins x = some (.builtin id)) (ha : SA X (e :: es) tas) (hn : x ≠ "__name__") (hdb : (x == ("__debug__" : Str)) = false)
    (he : starEach (e :: es) X.env = (false, eval e X.env) :: starEach es X.env) (hpl : (backTo pos (starEach es X.env)).any (·.1) = false) : SE X (.Call (.Name x p) (e :: es) [] pos) (tCB r tas) := ⟨pe_callB hc hg hm hv ha.o hn hdb he hpl⟩
theorem ecallT {x : Str} {T : String} {r : List V → Hp → VK → Prop} (hc : CallR X (.type T) r) (hg : Gl X x) (hm : X.mg x = none) (hv : bootBuiltins x = some (.type T)) (ha : SA X (e :: es) tas) (hn : x ≠ "__name__") (hdb : (x == ("__debug__" : Str)) = false)
    (he : starEach (e :: es) X.env = (false, eval e X.env) :: starEach es X.env) (hpl : (backTo pos (starEach es X.env)).any (·.1) = false) : SE X (.Call (.Name x p) (e :: es) [] pos) (tCB r tas) := ⟨pe_callTy hc hg hm hv ha.o hn hdb he hpl⟩
theorem ecall {x : Str} {CX : CXT} {k : Nat} {f : Addr} {fd : FuncData} {ps : List Str} {sp : Sp} {dvs : List V} {ds : List Value} {E : XK} (F : FnOk X.prog X.w X.K X.mg X.base CX k f fd ps sp) (hr : Room k X.A) (hg : Gl X x) (hm : X.mg x = some (.ref f)) (hk : PySem.W.keepIn X.K (.ref f) = true) (hb : Binds X.K fd ps ds) (hd : Vals dvs ds) (hx : Passes CX X E)
    (ha : SA X (e :: es) tas) (hdb : (x == ("__debug__" : Str)) = false) (he : starEach (e :: es) X.env = (false, eval e X.env) :: starEach es X.env) (hpl : (backTo pos (starEach es X.env)).any (·.1) = false) : SE X (.Call (.Name x p) (e :: es) [] pos) (tCall sp dvs E tas) := ⟨pe_call F hr hg hm hk hb hd hx ha.o hdb he hpl⟩
theorem ecmp {op : CmpOp} {r : R2} (ho : OpR X (compareOp op) r) (ha : SE X a ta) (hb : SE X b tb) (hm : behindInMarks op b = false) : SE X (.Compare a [op] [b] pos) (tOp r ta tb) := ⟨pe_cmpR ho ha.o hb.o hm⟩
theorem enot (h : SE X a ta) : SE X (.UnaryOp .Not a pos) (tNotV ta) := ⟨pe_not h.o⟩
theorem ebm {name : Str} {T id : String} {r : V → List V → Hp → VK → Prop} (pa : PlainAttrs T) (slot : Slot T name id) (hty : typeOf (.builtin id) = pure (.type "method_descriptor")) (hm : MtR X id r) (ho : SE X o to) (ha : SA X (e :: es) tas)
    (hbase : attributeBase o name X.env (eval o X.env) = eval o X.env)
    (hfew : ((backTo pos (starEach (e :: es) X.env)).all (fun x => !x.1) && (backToKw pos (keywordEach [] X.env)).all (fun x => x.1.isSome) && decide ((e :: es).length + ([] : List Keyword).length + (if ([] : List Keyword).isEmpty then 0 else 1) < 30)) = true)
    (hline : (apos.endLine == pos.line) = true) (hs : starEach (e :: es) X.env = (false, eval e X.env) :: starEach es X.env) (hplain : (backTo pos (starEach es X.env)).any (·.1) = false) : SE X (.Call (.Attribute o name apos) (e :: es) [] pos) (tBM X.K T r to tas) := ⟨pe_bm pa slot hty hm ho.o ha.o hbase hfew hline hs hplain⟩
theorem elc {elt tg it : Expr} {ifs : List Expr} {scope : Scope} {own : List (Str × Nat)} {wi : TI} {g : TG} (hc : X.calm = true) (hN : X.N.Nodup) (hi : SI X tg it wi) (ok : BlkOk X.N X.env.scope scope own)
    (hg : ∀ (s : Shared) (H : Hp) (C : Addr) (cl : List (Str × Addr)) (fp : List Addr), SG (X.blk s H scope (compEnvC scope cl C X.env) fp) tg g) (ht : ∀ (s : Shared) (H : Hp) (C : Addr) (cl : List (Str × Addr)) (fp : List Addr), SU (X.blk s H scope (compEnvC scope cl C X.env) fp) ifs tt)
    (he : ∀ (s : Shared) (H : Hp) (C : Addr) (cl : List (Str × Addr)) (fp : List Addr), SE (X.blk s H scope (compEnvC scope cl C X.env) fp) elt te) (hs : ∀ x, foldedSetIterable it X.env x = pure x) : SE X (.ListComp elt [⟨tg, it, ifs, 0⟩] scope pos) (tLc wi g tt te (own.map (·.2))) :=
  ⟨pe_lc hc hN hi.o ok (fun s H C cl fp => (hg s H C cl fp).o) (fun s H C cl fp => (ht s H C cl fp).o) (fun s H C cl fp => (he s H C cl fp).o) hs⟩
theorem bsetLc {n : Nat} {y : Str} {elt tg it : Expr} {ifs : List Expr} {scope : Scope} {own : List (Str × Nat)} {wi : TI} {g : TG} (hc : X.calm = true) (hN : X.N.Nodup) (hy : X.N[n]? = some y) (hyl : X.env.scope.names.lookup y = some .local) (hsw : swapsWith (.ListComp elt [⟨tg, it, ifs, 0⟩] scope pos) (some (.Name y p)) p2.line X.env = pure true) (hi : SI X tg it wi) (ok : BlkOk X.N X.env.scope scope own)
    (hg : ∀ (s : Shared) (H : Hp) (C : Addr) (cl : List (Str × Addr)) (fp : List Addr), SG (X.blk s H scope (compEnvC scope cl C X.env) fp) tg g) (ht : ∀ (s : Shared) (H : Hp) (C : Addr) (cl : List (Str × Addr)) (fp : List Addr), SU (X.blk s H scope (compEnvC scope cl C X.env) fp) ifs tt)
    (he : ∀ (s : Shared) (H : Hp) (C : Addr) (cl : List (Str × Addr)) (fp : List Addr), SE (X.blk s H scope (compEnvC scope cl C X.env) fp) elt te) (hs : ∀ x, foldedSetIterable it X.env x = pure x) : SS1 X (.Assign [.Name y p] (.ListComp elt [⟨tg, it, ifs, 0⟩] scope pos) p2) (tAsg (tLc wi g tt te (own.map (·.2))) (gName n)) :=
  ⟨ps_setLc hc hN hy hyl hsw hi.o ok (fun s H C cl fp => (hg s H C cl fp).o) (fun s H C cl fp => (ht s H C cl fp).o) (fun s H C cl fp => (he s H C cl fp).o) hs⟩
theorem elc2 {elt tg it tg1 it1 : Expr} {ifs ifs1 : List Expr} {scope : Scope} {own : List (Str × Nat)} {vs1 : List Nat} {wi wi1 : TI} {g g1 : TG} {tt1 : TT} (hc : X.calm = true) (hN : X.N.Nodup) (hi : SI X tg it wi) (ok : BlkOk X.N X.env.scope scope own) (hv : ∀ i ∈ vs1, i ∈ own.map (·.2))
    (hg : ∀ (s : Shared) (H : Hp) (C : Addr) (cl : List (Str × Addr)) (fp : List Addr), SG (X.blk s H scope (compEnvC scope cl C X.env) fp) tg g) (ht : ∀ (s : Shared) (H : Hp) (C : Addr) (cl : List (Str × Addr)) (fp : List Addr), SU (X.blk s H scope (compEnvC scope cl C X.env) fp) ifs tt)
    (hi1 : ∀ (s : Shared) (H : Hp) (C : Addr) (cl : List (Str × Addr)) (fp : List Addr), SI (X.blk s H scope (compEnvC scope cl C X.env) fp) tg1 it1 wi1)
    (hg1 : ∀ (s : Shared) (H : Hp) (C : Addr) (cl : List (Str × Addr)) (fp : List Addr), SG (X.blk s H scope (compEnvC scope cl C X.env) fp) tg1 g1) (ht1 : ∀ (s : Shared) (H : Hp) (C : Addr) (cl : List (Str × Addr)) (fp : List Addr), SU (X.blk s H scope (compEnvC scope cl C X.env) fp) ifs1 tt1)
    (he : ∀ (s : Shared) (H : Hp) (C : Addr) (cl : List (Str × Addr)) (fp : List Addr), SE (X.blk s H scope (compEnvC scope cl C X.env) fp) elt te) (hs : ∀ x, foldedSetIterable it X.env x = pure x) (hs1 : ∀ env x, foldedSetIterable it1 env x = pure x) :
    SE X (.ListComp elt [⟨tg, it, ifs, 0⟩, ⟨tg1, it1, ifs1, 0⟩] scope pos) (tLc2 wi g tt wi1 g1 tt1 te (own.map (·.2)) vs1) :=
  ⟨pe_lc2 hc hN hi.o ok hv (fun s H C cl fp => (hg s H C cl fp).o) (fun s H C cl fp => (ht s H C cl fp).o) (fun s H C cl fp => (hi1 s H C cl fp).o) (fun s H C cl fp => (hg1 s H C cl fp).o) (fun s H C cl fp => (ht1 s H C cl fp).o) (fun s H C cl fp => (he s H C cl fp).o) hs hs1⟩
theorem tcmp {op : CmpOp} {r : R2} (ho : OpR X (compareOp op) r) (ha : SE X a ta) (hb : SE X b tb) (hm : behindInMarks op b = false) : ST X (.Compare a [op] [b] pos) (tTest (tOp r ta tb)) := ⟨pt_cmpR ho ha.o hb.o hm⟩
theorem tval (h : SE X e te) (he : ∀ whole, isTrue e X.env whole = (do let v ← whole; standAt e.pos; holding [v] (truthy v))) : ST X e (tB te) := ⟨pt_val h.o he⟩
theorem ttruth (h : SE X e te) (he : ∀ whole, isTrue e X.env whole = (do let v ← whole; standAt e.pos; holding [v] (truthy v))) : ST X e (fun σ H Q => te σ H fun x H' => ∃ k, TruV X.K x H' k ∧ Q k H') := ⟨pt_truth h.o he⟩
theorem tnot (h : ST X a tA) : ST X (.UnaryOp .Not a pos) (tNot tA) := ⟨pt_not h.o⟩
theorem tw (h : SW X e tA) : ST X e tA := ⟨h.o.pt⟩
theorem wor {es : List Expr} (ha : ST X a tA) (hb : SW X (.BoolOp .Or (b :: es) pos) tB') : SW X (.BoolOp .Or (a :: b :: es) pos) (tOr tA tB') := ⟨pw_or ha.o hb.o⟩
theorem wor1 (ha : ST X a tA) : SW X (.BoolOp .Or [a] pos) tA := ⟨pw_or1 ha.o⟩
theorem wand {es : List Expr} (ha : ST X a tA) (hb : SW X (.BoolOp .And (b :: es) pos) tB') : SW X (.BoolOp .And (a :: b :: es) pos) (tAnd tA tB') := ⟨pw_and ha.o hb.o⟩
theorem wand1 (ha : ST X a tA) : SW X (.BoolOp .And [a] pos) tA := ⟨pw_and1 ha.o⟩
theorem gname {n : Nat} {x : Str} (hN : X.N.Nodup) (hi : X.N[n]? = some x) (hx : Loc X.env.scope x) (hf : X.fn x = true ∨ X.env.scope.names.lookup x = some .local) : SG X (.Name x pos) (gName n) := ⟨pg_name hN hi hx hf⟩
theorem gtup {k n : Nat} {g : TGs} (hc : X.calm = true) (h : SH X es g) (hn : (assignEach es X.env).length = n) (hst : (assignEach es X.env).findIdx? (·.1) = none) : SG X (.Tuple es k pos) (gTup X.K n g) := ⟨pg_tup hc h.o hn hst⟩
theorem gsnil : SH X [] gNil := ⟨pgs_nil⟩
theorem gscons {g : TG} {gs : TGs} (h1 : SG X e g) (h2 : SH X es gs) (hs : (assignEach (e :: es) X.env).map (·.2) = assign e X.env :: (assignEach es X.env).map (·.2)) : SH X (e :: es) (gCons g gs) := ⟨pgs_cons h1.o h2.o hs⟩
theorem gsub {g : TSet} (ho : SE X o to) (hi : SE X i ti) (hs : PSet X g)
    (ha : ∀ v, assign (.Subscript o i pos) X.env v = (do
      let ov ← holding [v] (eval o X.env)
      let iv ← holding [v, ov] (eval i X.env)
      standAt pos
      holding [v, ov, iv] (setItem ov iv v)
      release [v, ov, iv] [])) : SG X (.Subscript o i pos) (gSub to ti g) := ⟨pg_sub ho.o hi.o hs ha⟩
theorem irange1 {tg : Expr} (hg : Gl X "range") (hm : X.mg "range" = none) (ha : SA X [a] tas) (hs : starEach [a] X.env = [(false, eval a X.env)]) : SI X tg (.Call (.Name "range" p) [a] [] pos) (iRng1 tas) := ⟨pi_range1 hg hm ha.o hs⟩
theorem irange2 {tg : Expr} (hg : Gl X "range") (hm : X.mg "range" = none) (ha : SA X [a, b] tas) (hs : starEach [a, b] X.env = [(false, eval a X.env), (false, eval b X.env)]) (hs2 : starEach [b] X.env = [(false, eval b X.env)]) : SI X tg (.Call (.Name "range" p) [a, b] [] pos) (iRng2 tas) := ⟨pi_range2 hg hm ha.o hs hs2⟩
theorem ilist {tg : Expr} (h : SE X e te) : SI X tg e (iList X.K te) := ⟨pi_list h.o⟩
theorem itup {tg : Expr} (h : SE X e te) : SI X tg e (iTup X.K te) := ⟨pi_tup h.o⟩
theorem istr {tg : Expr} (h : SE X e te) : SI X tg e (iStr te) := ⟨pi_str h.o⟩
theorem ienumT {k : Nat} (hg : Gl X "enumerate") (hm : X.mg "enumerate" = none) (ha : SA X [e] tas) (hs : starEach [e] X.env = [(false, eval e X.env)]) : SI X (.Tuple es k tpos) (.Call (.Name "enumerate" p) [e] [] pos) (iEnumT X.K tas) := ⟨pi_enumT hg hm ha.o hs⟩
theorem unil : SU X [] tYes := ⟨pts_nil⟩
theorem uone (h : ST X e tt) : SU X [e] tt := ⟨pts_one h.o⟩
end
theorem tyes {σ : St} {H : Hp} {F G : Hp → Prop} (h : F H) : tYes σ H (fun b H3 => if b = true then F H3 else G H3) := by
  show (if true = true then F H else G H)
  rw [if_pos rfl]
  exact h
end L2

/-! Webs, plainly: names in order, pairs in order. -/
namespace Wm
open PySem PySem.Spec L2 Wd PyProof.Rows
def sLt (a b : Str) : Prop := a.cps.toList < b.cps.toList
instance (a b : Str) : Decidable (sLt a b) := inferInstanceAs (Decidable (a.cps.toList < b.cps.toList))
theorem sLt_irr (a : Str) : ¬ sLt a a := List.lt_irrefl _
theorem sLt_trans {a b c : Str} (h : sLt a b) (k : sLt b c) : sLt a c := List.lt_trans h k
theorem sLt_tot {a b : Str} (h : ¬ sLt a b) (k : ¬ sLt b a) : a = b := ext_toList (List.le_antisymm (List.not_lt.mp k) (List.not_lt.mp h))
theorem sLt_ne {a b : Str} (h : sLt a b) : a ≠ b := fun e => sLt_irr a (by rw [← e] at h; exact h)
theorem le_lt {a b c : Str} (h : ¬ sLt b a) (k : sLt b c) : sLt a c := List.lt_of_le_of_lt (List.not_lt.mp h) k
theorem rising : ∀ {p : Str} {l : List Str}, risingS p l = true → (p :: l).Pairwise (fun a b => ¬ sLt b a)
  | p, [], _ => List.pairwise_singleton _ _
  | p, x :: r, h => by
    have h' : (!ltCps x.cps.toList p.cps.toList && risingS x r) = true := h
    rw [Bool.and_eq_true] at h'
    have hx : ¬ sLt x p := by
      have := h'.1
      rw [ltCps_eq] at this
      simpa [sLt] using this
    have ih := rising h'.2
    refine List.pairwise_cons.mpr ⟨fun y hy => ?_, ih⟩
    rcases List.mem_cons.mp hy with rfl | hy
    · exact hx
    · have := List.rel_of_pairwise_cons ih hy
      exact fun z => hx (le_lt this z)
theorem sorted_le {l : List Str} (h : sortedS l = true) : l.Pairwise (fun a b => ¬ sLt b a) := by
  cases l with
  | nil => exact List.Pairwise.nil
  | cons x r => exact rising h
theorem strict {l : List Str} (h : sortedS l = true) (n : l.Nodup) : l.Pairwise sLt := by
  have h1 := sorted_le h
  have h2 := List.nodup_iff_pairwise_ne.mp n
  refine List.Pairwise.imp₂ ?_ h1 h2
  intro a b k ne
  exact Classical.byContradiction fun c => ne (sLt_tot c k)
theorem inj {l : List Str} (h : l.Pairwise sLt) {i j : Nat} {x : Str} (hi : l[i]? = some x) (hj : l[j]? = some x) : i = j := by
  rw [List.pairwise_iff_getElem] at h
  obtain ⟨i1, i2⟩ := List.getElem?_eq_some_iff.mp hi
  obtain ⟨j1, j2⟩ := List.getElem?_eq_some_iff.mp hj
  rcases Nat.lt_trichotomy i j with k | k | k
  · have := h i j i1 j1 k
    rw [i2, j2] at this
    exact absurd this (sLt_irr x)
  · exact k
  · have := h j i j1 i1 k
    rw [i2, j2] at this
    exact absurd this (sLt_irr x)
theorem at_lt {l : List Str} (h : l.Pairwise sLt) {i j : Nat} {x y : Str} (hij : i < j) (hi : l[i]? = some x) (hj : l[j]? = some y) : sLt x y := by
  rw [List.pairwise_iff_getElem] at h
  obtain ⟨i1, i2⟩ := List.getElem?_eq_some_iff.mp hi
  obtain ⟨j1, j2⟩ := List.getElem?_eq_some_iff.mp hj
  have := h i j i1 j1 hij
  rw [i2, j2] at this
  exact this
/-! pairs -/
theorem prKey_inj {p q : SS} (h : prKey p = prKey q) : p = q := by
  unfold prKey at h
  injection h with h1 h2
  injection h2 with h2 _
  injection h1 with h1
  injection h2 with h2
  exact Prod.ext (ext_toList h1) (ext_toList h2)
theorem prLt_irr (p : SS) : prLt p p = false := lex_irrefl (O := itemOrd) (prKey p)
theorem prLt_tot {p q : SS} (h : prLt p q = false) (k : prLt q p = false) : p = q := prKey_inj (lex_total (O := itemOrd) _ _ h k)
theorem prLt_iff (p q : SS) : prLt p q = true ↔ sLt p.1 q.1 ∨ (¬ sLt q.1 p.1 ∧ sLt p.2 q.2) := by
  have e : prLt p q = (decide (sLt p.1 q.1) || (!decide (sLt q.1 p.1) && (decide (sLt p.2 q.2) || (!decide (sLt q.2 p.2) && false)))) := rfl
  rw [e]
  simp
/-- in order, each once -/
abbrev Asc (l : List SS) : Prop := l.Pairwise (fun p q => prLt p q = true)
theorem asc_of {l : List SS} (h : l.Pairwise (fun p q => prLt q p = false)) (n : l.Nodup) : Asc l := by
  refine List.Pairwise.imp₂ ?_ h (List.nodup_iff_pairwise_ne.mp n)
  intro a b k ne
  cases e : prLt a b with
  | true => rfl
  | false => exact absurd (prLt_tot e k) ne
theorem Asc.nodup {l : List SS} (h : Asc l) : l.Nodup := List.nodup_iff_pairwise_ne.mpr (List.Pairwise.imp (fun {a b} k e => by rw [e, prLt_irr] at k; cases k) h)
structure WebOk (names : List Str) (ties : List SS) : Prop where
  ns : names.Pairwise sLt
  nw : ∀ x ∈ names, Word x ∧ x ∉ own16
  ts : Asc ties
  ti : ∀ p ∈ ties, p.1 ∈ names ∧ p.2 ∈ names ∧ sLt p.1 p.2
/-! all pairs of names in order, as pairs_of makes them -/
def pairsL : List Str → List SS
  | [] => []
  | x :: r => r.map (fun y => (x, y)) ++ pairsL r
theorem mem_pairs : ∀ {l : List Str} {p : SS}, l.Pairwise sLt → (p ∈ pairsL l ↔ p.1 ∈ l ∧ p.2 ∈ l ∧ sLt p.1 p.2)
  | [], p, _ => by simp [pairsL]
  | x :: r, p, h => by
    have h1 := List.pairwise_cons.mp h
    have ih := mem_pairs (p := p) h1.2
    have e : pairsL (x :: r) = r.map (fun y => (x, y)) ++ pairsL r := rfl
    rw [e, List.mem_append, ih]
    constructor
    · rintro (k | ⟨k1, k2, k3⟩)
      · obtain ⟨y, hy, e⟩ := List.mem_map.mp k
        subst e
        exact ⟨List.mem_cons_self .., List.mem_cons_of_mem _ hy, h1.1 y hy⟩
      · exact ⟨List.mem_cons_of_mem _ k1, List.mem_cons_of_mem _ k2, k3⟩
    · rintro ⟨k1, k2, k3⟩
      rcases List.mem_cons.mp k1 with e1 | k1
      · rcases List.mem_cons.mp k2 with e2 | k2
        · rw [e1, e2] at k3; exact absurd k3 (sLt_irr x)
        · exact .inl (List.mem_map.mpr ⟨p.2, k2, Prod.ext e1.symm rfl⟩)
      · rcases List.mem_cons.mp k2 with e2 | k2
        · have := h1.1 p.1 k1
          rw [e2] at k3
          exact absurd (sLt_trans k3 this) (sLt_irr _)
        · exact .inr ⟨k1, k2, k3⟩
theorem asc_pairs : ∀ {l : List Str}, l.Pairwise sLt → Asc (pairsL l)
  | [], _ => List.Pairwise.nil
  | x :: r, h => by
    have h1 := List.pairwise_cons.mp h
    refine List.pairwise_append.mpr ⟨?_, asc_pairs h1.2, fun p hp q hq => ?_⟩
    · rw [List.pairwise_map]
      exact List.Pairwise.imp (fun {a b} k => (prLt_iff _ _).mpr (.inr ⟨sLt_irr x, k⟩)) h1.2
    · obtain ⟨y, hy, e⟩ := List.mem_map.mp hp
      subst e
      exact (prLt_iff _ _).mpr (.inl (h1.1 _ ((mem_pairs h1.2).mp hq).1))
theorem len_pairs : ∀ l : List Str, 2 * (pairsL l).length = l.length * (l.length - 1)
  | [] => rfl
  | x :: r => by
    have ih := len_pairs r
    have e : (pairsL (x :: r)).length = r.length + (pairsL r).length := by
      show (r.map (fun y => (x, y)) ++ pairsL r).length = _
      rw [List.length_append, List.length_map]
    rw [e, List.length_cons]
    cases hn : r.length with
    | zero =>
      rw [hn] at ih
      simp at ih ⊢
      all_goals omega
    | succ n =>
      rw [hn] at ih
      have e2 : (n + 1 + 1) * (n + 1 + 1 - 1) = (n + 1) * (n + 1 - 1) + 2 * (n + 1) := by
        simp only [Nat.add_sub_cancel]
        rw [Nat.mul_comm (n + 1 + 1) (n + 1), Nat.mul_comm 2 (n + 1), ← Nat.mul_add]
      omega
/-- the ties of a web turned over -/
def over (names : List Str) (ties : List SS) : List SS := (pairsL names).filter fun p => !decide (p ∈ ties)
theorem asc_filter {l : List SS} (h : Asc l) (f : SS → Bool) : Asc (l.filter f) := List.Pairwise.filter _ h
theorem over_ok {names : List Str} {ties : List SS} (h : WebOk names ties) : WebOk names (over names ties) :=
  ⟨h.ns, h.nw, asc_filter (asc_pairs h.ns) _, fun p hp => (mem_pairs h.ns).mp (List.mem_filter.mp hp).1⟩
end Wm

/-! Comprehensions over zip and enumerate of tuples; equal data. -/
namespace L2
open PySem PySem.Spec PyProof.Rows
/-- equal data: texts, numbers, tuples of such -/
def Eqd (K : PySem.W.Frag) (H : Hp) : Nat → V → V → Prop
  | 0, _, _ => False
  | n + 1, x, y => ((∃ z, x = .str z ∧ y = .str z) ∨ ∃ i, x = .int i ∧ y = .int i) ∨ ∃ a b xs ys, x = .ref a ∧ y = .ref b ∧ SqT K H a xs ∧ SqT K H b ys ∧ Paired (Eqd K H n) xs ys
theorem Eqd.same {K : PySem.W.Frag} {H H' : Hp} (e : Same H H') : ∀ {n : Nat} {x y : V}, Eqd K H n x y → Eqd K H' n x y
  | 0, _, _, h => h
  | n + 1, _, _, h => by
    rcases h with h | ⟨a, b, xs, ys, h1, h2, h3, h4, h5⟩
    · exact .inl h
    · exact .inr ⟨a, b, xs, ys, h1, h2, e.seqT h3, e.seqT h4, Paired.mapP h5 fun _ _ q => Eqd.same e q⟩
theorem Eqd.up {K : PySem.W.Frag} {H : Hp} : ∀ {n : Nat} {x y : V}, Eqd K H n x y → Eqd K H (n + 1) x y
  | 0, _, _, h => h.elim
  | n + 1, _, _, h => by
    rcases h with h | ⟨a, b, xs, ys, h1, h2, h3, h4, h5⟩
    · exact .inl h
    · exact .inr ⟨a, b, xs, ys, h1, h2, h3, h4, Paired.mapP h5 fun _ _ q => Eqd.up q⟩
theorem Paired.get {α β : Type} {F : α → β → Prop} : ∀ {l : List α} {m : List β} {i : Nat} {x : α} {y : β}, Paired F l m → l[i]? = some x → m[i]? = some y → F x y
  | _, _, _, _, _, .nil, h, _ => by simp at h
  | _, _, 0, _, _, .cons r _, h, k => by
    simp at h k
    subst h k
    exact r
  | _, _, i + 1, _, _, .cons _ t, h, k => Paired.get (i := i) t (by simpa using h) (by simpa using k)
theorem Eqd.strs {K : PySem.W.Frag} {H : Hp} {n : Nat} : ∀ xs : List Str, Paired (Eqd K H (n + 1)) (xs.map V.str) (xs.map V.str)
  | [] => .nil
  | x :: r => .cons (.inl (.inl ⟨x, rfl, rfl⟩)) (Eqd.strs r)
theorem Eqd.prs {K : PySem.W.Frag} {H : Hp} {n : Nat} : ∀ {vs us : List V} {ps : List SS}, Prs K H vs ps → Prs K H us ps → Paired (Eqd K H (n + 2)) vs us
  | _, _, _, .nil, .nil => .nil
  | _, _, _, .cons ⟨a, ea, ha⟩ t, .cons ⟨b, eb, hb⟩ u => .cons (.inr ⟨a, b, _, _, ea, eb, ha, hb, .cons (.inl (.inl ⟨_, rfl, rfl⟩)) (.cons (.inl (.inl ⟨_, rfl, rfl⟩)) .nil)⟩) (Eqd.prs t u)
end L2

/-! first, *others = a list; enumerate(list, start=1). -/
namespace L2
open PySem PySem.W PySem.Spec PyProof.Rows
section
variable {prog : Program} {w : World} {A : Around} {E : Value → Shared → Prop} {s : Shared}
end
def gStar (K : PySem.W.Frag) (t : TGs) : TG := fun v σ H Q => ∃ a x xs, v = .ref a ∧ SqL K H a (x :: xs) ∧ xs.length ≤ 16000 ∧ ∀ D, H D = none → t [x, .ref D] σ (upd H D (.lst xs)) Q
section
variable {X : Cx} {e : Expr} {es : List Expr} {pos p : Pos}
end
end L2

/-! len(set(words)) of a list of texts. -/
namespace SetT
open PySem PySem.Spec PyProof.Rows
def put1 (acc : List Str) (x : Str) : List Str := if x ∈ acc then acc else acc ++ [x]
/-- each text once, where it is met first -/
def dd (l : List Str) : List Str := l.foldl put1 []
theorem dd_snoc (l : List Str) (x : Str) : dd (l ++ [x]) = put1 (dd l) x := by unfold dd; rw [List.foldl_append]; rfl
theorem mem_put1 {acc : List Str} {x y : Str} : y ∈ put1 acc x ↔ y ∈ acc ∨ y = x := by
  unfold put1
  split
  · exact ⟨.inl, fun h => h.elim id fun e => by rw [e]; assumption⟩
  · simp
theorem len_put1 (acc : List Str) (x : Str) : (put1 acc x).length = if decide (x ∈ acc) then acc.length else acc.length + 1 := by
  unfold put1
  by_cases h : x ∈ acc <;> simp [h]
theorem dd_le : ∀ (n : Nat) (l : List Str), l.length = n → (dd l).length ≤ n
  | 0, l, h => by
    have : l = [] := List.eq_nil_of_length_eq_zero h
    subst this
    exact Nat.le_refl _
  | n + 1, l, h => by
    rcases List.eq_nil_or_concat l with e | ⟨r, x, e⟩
    · subst e; simp at h
    · rw [List.concat_eq_append] at e
      subst e
      have hr : r.length = n := by simpa using h
      have ih := dd_le n r hr
      rw [dd_snoc, len_put1]
      split <;> omega
section
variable {prog : Program} {w : World} {A : Around} {R : Result → Shared → Prop} {c : Addr} {fp wr : List Addr} {G : Array GenState → Array GenState → Prop} {P : Nat → Value → Prop} {St : Nat → Shared → Prop} {xs : List Str}
abbrev HasOf (h : Heap) (prog : Program) (w : World) (S : Addr) (l : List Str) : Prop := h.SetOf (PySem.strKind prog w) S (fun k => decide (k ∈ dd l)) (dd l).length
theorem loop (W : WalksS prog w A.in1 c fp wr G xs.length P St) (S : Addr) (nS : S ∉ fp) (hv : ∀ i v, P i v → ∃ x t, xs[i]? = some x ∧ v = .str x t) (hb : xs.length + 1 < scanBound) :
    ∀ (k i : Nat) (s : Shared), xs.length - i = k → i ≤ xs.length → St i s → HasOf s.heap prog w S (xs.take i) →
      (∀ s', Moved (S :: wr) G s s' → HasOf s'.heap prog w S xs → R (.ok (.ret .none)) s') → codeAny (model prog w) A (.builtin "set.update.loop" ⟨[.ref S, .ref c], []⟩) R s := by
  have nw : S ∉ wr := fun h => nS (W.sub _ h)
  have sub : ∀ b ∈ wr, b ∈ S :: wr := fun b hb => List.mem_cons_of_mem _ hb
  have stay : ∀ {l : List Str} {s s' : Shared}, HasOf s.heap prog w S l → (∀ o, s.heap.get? S = some o → s'.heap.get? S = some o) → HasOf s'.heap prog w S l := fun {l s s'} h k => by
    obtain ⟨o, es, ep, t, ho, rest⟩ := h
    exact ⟨o, es, ep, t, k _ ho, rest⟩
  intro k
  induction k with
  | zero =>
    intro i s hk hi st hS hR
    have e : i = xs.length := by omega
    subst e
    rw [List.take_length] at hS
    refine codeAny_builtin PyProof.Rows.F.entry_set_update_loop ?_
    rw [Around.under_plainId PyProof.Rows.F.plain_set_update_loop _]
    show wpAny _ A.in1 (pyNext (.ref c) >>= _) _ _ s
    refine wpAny_bind (W.done s _ _ st fun s' hm => ?_)
    show wpAny _ A.in1 (ret Value.none) _ _ s'
    exact wpAny_pure (hR s' (hm.mono sub) (stay hS fun o q => hm.heap S _ nw q))
  | succ k ih =>
    intro i s hk hi st hS hR
    have lt : i < xs.length := by omega
    refine codeAny_builtin PyProof.Rows.F.entry_set_update_loop ?_
    rw [Around.under_plainId PyProof.Rows.F.plain_set_update_loop _]
    show wpAny _ A.in1 (pyNext (.ref c) >>= _) _ _ s
    refine wpAny_bind (W.item i s _ _ lt st fun v s' hP st' hm => ?_)
    obtain ⟨x, t, hx, rfl⟩ := hv i v hP
    have hS' := stay (s' := s') hS fun o q => hm.heap S _ nw q
    show wpAny _ A.in1 (holding [Value.str x t] (setAdd S (.str x t)) >>= _) _ _ s'
    refine wpAny_bind (wpAny_holding ?_)
    unfold setAdd
    refine wpAny_holding ?_
    have hk1 : (PySem.strKind prog w).is x (.str x t) = true := by simp [PySem.strKind, Value.isStrOf]
    refine wpAny_bind ((PySem.strKind prog w).pyHash (k := x) hk1 ?_)
    have room : (dd (xs.take i)).length + 1 < scanBound := by
      have := dd_le _ (xs.take i) rfl
      rw [List.length_take] at this
      omega
    refine wpAny_setAddHashed_of (knd := PySem.strKind prog w) (s := { s' with toks := s'.toks + 1 }) hk1 rfl hS' room fun h' sb hS2 => ?_
    have tk : xs.take (i + 1) = xs.take i ++ [x] := by rw [List.take_succ, hx]; rfl
    have hSi : HasOf h' prog w S (xs.take (i + 1)) := by
      refine SetOf_congr hS2 (fun k' => ?_) ?_
      · rw [tk, dd_snoc]
        by_cases c1 : k' ∈ dd (xs.take i) <;> by_cases c2 : k' = x <;> simp [mem_put1, c1, c2]
      · rw [tk, dd_snoc, len_put1]
    refine wpAny_pure ⟨plainId_quiet PyProof.Rows.F.plain_set_update_loop _, ih (i + 1) _ (by omega) lt (W.frame _ s' _ _ st' (Nat.le_succ _) fun b hb o e => ?_) hSi fun s'' hm'' hS'' => ?_⟩
    · rw [sb.2 b fun h : b = S => nS (by rw [← h]; exact hb)]; exact e
    · refine hR s'' (Moved.trans W.gtrans ((hm.mono sub).then_heap (Nat.le_succ _) fun b o hb e => ?_) hm'') hS''
      rw [sb.2 b fun h : b = S => hb (by rw [h]; exact List.mem_cons_self)]; exact e
end
abbrev newS (led : Bool) : Obj := { cls := .type "set", dict := none, data := .set #[] 0 (.fresh 0 0 led) }
section
variable {prog : Program} {w : World} {A : Around} {E : Value → Shared → Prop} {s : Shared}
end
end SetT

/-! enumerate(list, start=1) -/
namespace EnK
open PySem PySem.Spec PyProof.Rows
open AutoSeq1 (wpAny_loadPart')
abbrev k1 (t : Tok) : List (Str × Value) := [(Str.ofString "start", Value.int 1 t)]
theorem tc (a : Value) (t : Tok) : checkTypeCall "enumerate" ⟨[a], k1 t⟩ = pure () := by kernel_rfl
theorem nc (a : Value) (t : Tok) : checkBuiltinCall "enumerate.__new__" ⟨[.type "enumerate", a], k1 t⟩ = pure () := by kernel_rfl
theorem oi (o a : Value) (t : Tok) : argsOk "object.__init__" ⟨[o, a], k1 t⟩ := by
  unfold argsOk
  rw [signature?_of (id := "object.__init__") (n := ['_', '_', 't', 'i', 'n', 'i', '_', '_']) (o := ['t', 'c', 'e', 'j', 'b', 'o']) (by kernel_rfl) F.owner_object]
  kernel_rfl
section
variable {prog : Program} {w : World} {A : Around} {E : Value → Shared → Prop} {s : Shared}
end
end EnK

namespace L2
open PySem PySem.Spec PyProof.Rows
section
variable {prog : Program} {w : World} {A : Around} {E : Value → Shared → Prop} {s : Shared}
end
/-- the list at a, each item in a new pair behind its number, from 1 on -/
def Ite1 (K : PySem.W.Frag) (a : Addr) : It :=
  ⟨fun i H => ∃ (xs : List V) (x : V), SqL K H a xs ∧ xs[i]? = some x, fun i H v H' => ∃ T x, v = .ref T ∧ H T = none ∧ H' = upd H T (.tup [.int ((i + 1 : Nat) : Int), x]) ∧ ∀ xs, SqL K H a xs → xs[i]? = some x, fun i H => ∃ xs : List V, SqL K H a xs ∧ xs.length ≤ i⟩
def iEnum1 (K : PySem.W.Frag) (ta : TA) : TI := fun σ H R => ta σ H fun vs H1 => ∃ a xs, vs = [.ref a] ∧ SqL K H1 a xs ∧ R (Ite1 K a) H1
section
variable {X : Cx} {e : Expr} {tas : TA} {es : List Expr} {pos p tpos kp cp : Pos} {k j : Nat}
end
/-! ### len(set(words)) -/
def tLenSet (K : PySem.W.Frag) (ta : TA) : TE := fun σ H Q => ta σ H fun vs H1 => ∃ a xs, vs = [.ref a] ∧ SqL K H1 a (xs.map V.str) ∧ xs.length ≤ 4000 ∧ Q (.int (SetT.dd xs).length) H1
theorem vals_strs_at : ∀ {xs : List Str} {us : List Value}, Vals (xs.map V.str) us → ∀ (i : Nat) (v : Value), us[i]? = some v → ∃ x t, xs[i]? = some x ∧ v = Value.str x t
  | [], _, .nil, i, v, h => by simp at h
  | x :: r, _, .cons q t, 0, v, h => by
    obtain ⟨tk, rfl⟩ := q
    simp at h
    exact ⟨x, tk, rfl, h.symm⟩
  | x :: r, _, .cons q t, i + 1, v, h => by
    obtain ⟨y, tk, h1, h2⟩ := vals_strs_at t i v (by simpa using h)
    exact ⟨y, tk, by simpa using h1, h2⟩
section
variable {X : Cx} {e : Expr} {tas : TA} {pos p pos2 p2 : Pos}
end
/-! ### more rules behind structures -/
section
variable {X : Cx} {a b c e o : Expr} {ta tb tc te to : TE} {pos p apos : Pos} {st : Stmt}
end
/-- a comprehension over a text's signs -/
theorem lc_str {x : Str} {g : TG} {tt : TT} {te : TE} {vs : List Nat} {σ : St} {H1 : Hp} {D : Addr} {Qd : Hp → Prop} (Pv : Nat → Hp → Prop) (h0 : Pv 0 (upd H1 D (.lst [])))
    (hs : ∀ (i c : Nat) H, x.cps[i]? = some c → Pv i H → g (.str ⟨#[c]⟩) (wipe σ vs) H fun σ2 H2 => wipe σ2 vs = wipe σ vs ∧ tt σ2 H2 fun b H3 =>
      if b = true then te σ2 H3 fun y H4 => ∃ acc, H4 D = some (.lst acc) ∧ acc.length < sizeLine ∧ Pv (i + 1) (upd H4 D (.lst (acc ++ [y]))) else Pv (i + 1) H3) (hd : ∀ H, Pv x.cps.size H → Qd H) :
    ∃ W : Nat → Nat → Hp → Prop, (∃ m, W 0 m (upd H1 D (.lst []))) ∧ ∀ i m H, W i m H →
      ((Its x).stop i H ∧ Qd H) ∨ ((Its x).go i H ∧ ∃ Nx : Hp → Prop, (∀ H', Nx H' → ∃ m', m' < m ∧ W (i + 1) m' H') ∧ ∀ v H', (Its x).yld i H v H' → g v (wipe σ vs) H' fun σ2 H2 => wipe σ2 vs = wipe σ vs ∧ tt σ2 H2 fun b H3 =>
        if b = true then te σ2 H3 fun y H4 => ∃ acc, H4 D = some (.lst acc) ∧ acc.length < sizeLine ∧ Nx (upd H4 D (.lst (acc ++ [y]))) else Nx H3) := by
  refine ⟨fun i m H => m = x.cps.size - i ∧ i ≤ x.cps.size ∧ Pv i H, ⟨x.cps.size, by simp, Nat.zero_le _, h0⟩, ?_⟩
  rintro i m H ⟨rfl, hi, p⟩
  by_cases hlt : i < x.cps.size
  · refine .inr ⟨hlt, Pv (i + 1), fun H' p' => ⟨x.cps.size - (i + 1), by omega, rfl, hlt, p'⟩, ?_⟩
    rintro v H' ⟨rfl, c, hc, rfl⟩
    exact hs i c H' hc p
  · have e : i = x.cps.size := by omega
    subst e
    exact .inl ⟨Nat.le_refl _, hd H p⟩
/-! ### within a comprehension's block: the same rules, the module's objects by a letter -/
section
variable {X : Cx} {K : PySem.W.Frag} {e o : Expr} {te to : TE} {es : List Expr} {tas : TA} {pos apos : Pos}
theorem ix_listK (hK : X.K = K) : IxR X (rIxL K) := by subst hK; exact ix_list
theorem sl_tupK (hK : X.K = K) : SlR X (rSlT K) := by subst hK; exact sl_tup
theorem op_notIn_seqK (hK : X.K = K) : OpR X (compareOp .NotIn) (rIn K true) := by subst hK; exact op_notIn_seq
theorem op_notInPK (hK : X.K = K) (hu : X.A.units + 64 < cLine) : OpR X (compareOp .NotIn) (rInP K true) := by subst hK; exact op_notInP hu
theorem itupK {tg : Expr} (hK : X.K = K) (h : SE X e te) : SI X tg e (iTup K te) := by subst hK; exact itup h
end
end L2

/-! f-strings of texts, a starred list within a list display, deep comparison of texts. -/
namespace L2
open PySem PySem.Spec PyProof.Rows
/-- an f-string's parts from the left, out the text so far -/
abbrev TJ := Str → St → Hp → VK → Prop
structure SJ (X : Cx) (es : List Expr) (t : TJ) : Prop where
  o : ∀ (out : Str) (pins : List (Addr × Obj)) (s : Shared) (σ : St) (H : Hp) (Q : VK), Inv X pins σ H s → t out σ H Q → wpAny (model X.prog X.w) X.A (joinParts out (evalEach es X.env)) (EP X pins σ Q) X.xe s
def tJNil : TJ := fun out σ H Q => out.length ≤ sizeLine ∧ Q (.str out) H
def tJCons (te : TE) (tj : TJ) : TJ := fun out σ H Q => te σ H fun v H1 => ∃ y : Str, v = .str y ∧ (out ++ y).length ≤ sizeLine ∧ tj (out ++ y) σ H1 Q
def tFv (te : TE) : TE := fun σ H Q => te σ H fun v H1 => ∃ y : Str, v = .str y ∧ y.length ≤ sizeLine ∧ Q (.str y) H1
def tJs (tj : TJ) : TE := fun σ H Q => tj Str.empty σ H Q
section
variable {X : Cx} {e a b : Expr} {es : List Expr} {te : TE} {tj : TJ} {tas : TA} {pos p : Pos}
/-- a starred list in a display -/
def tStar (K : PySem.W.Frag) (te : TE) (tr : TA) : TA := fun σ H Q => te σ H fun x H1 => ∃ a xs, x = .ref a ∧ SqL K H1 a xs ∧ tr σ H1 fun ys H2 => Q (xs ++ ys) H2
theorem vals_app : ∀ {xs ys : List V} {us vs : List Value}, Vals xs us → Vals ys vs → Vals (xs ++ ys) (us ++ vs)
  | _, _, _, _, .nil, h => h
  | _, _, _, _, .cons r t, h => .cons r (vals_app t h)
theorem acons_star (ha : SE X e te) (hr : SA X es tas) (hs : starEach (.Starred e p :: es) X.env = (true, eval e X.env) :: starEach es X.env) : SA X (.Starred e p :: es) (tStar X.K te tas) := by
  refine ⟨fun pos pins s σ H Q I h => ?_⟩
  rw [hs]
  show wpAny _ _ (spliced ((true, (do let v ← eval e X.env; standAt pos; pure v)) :: backTo pos (starEach es X.env))) _ _ s
  rw [spliced]
  refine wpAny_bind (wpAny_bind (thn (ha.o pins s σ H _ I h) fun u s1 ⟨x, H1, I1, r1, q1⟩ => wpAny_bind (wpAny_standAt (wpAny_pure ?_))))
  obtain ⟨a, xs, rfl, hq, q⟩ := q1
  cases r1
  obtain ⟨its, rv, hl, hz⟩ := I1.list hq
  obtain ⟨ol, hol, hcl, dl, hdl⟩ := hl.isList
  have hlen := rv.length
  simp only [if_true]
  refine wpAny_bind ?_
  unfold notIterableAtAll
  refine wpAny_bind (wpAny_specialOf hl.isList.typeIs slot_list_iter.lookup (wpAny_pure ?_))
  simp only [Bool.false_eq_true, if_false]
  refine wpAny_bind (PySem.wpAny_collect_seq a (.inl rfl) hol hcl hdl (fun h' hk => ?_) (by rw [List.size_toArray, ← hlen]; exact hz))
  have I2 : Inv X pins σ H1 { s1 with heap := h' } := I1.kept (t' := s1.toks) hk
  refine wpAny_bind (wpAny_holding (thn (hr.o pos pins _ σ H1 _ I2 q) fun us s2 ⟨ys, H2, I3, r2, q2⟩ => wpAny_pure ⟨xs ++ ys, H2, I3, ?_, q2⟩))
  simpa using vals_app rv r2
end
/-! ### deep facts of texts -/
theorem dpAll_strs {K : PySem.W.Frag} {H : Hp} : ∀ xs : List Str, DpAll K H (xs.map V.str) (xs.map PyData.str)
  | [] => .nil
  | x :: r => .cons (.str x) (dpAll_strs r)
theorem dp_strs {K : PySem.W.Frag} {H : Hp} {a : Addr} {xs : List Str} (h : SqT K H a (xs.map V.str)) : Dp K H (.ref a) (.tuple (xs.map PyData.str)) := .tup h (dpAll_strs xs)
theorem eqvAll_strs : ∀ xs ys : List Str, PyData.eqvAll (xs.map PyData.str) (ys.map PyData.str) = decide (xs = ys)
  | [], [] => by simp [PyData.eqvAll]
  | [], y :: s => by simp [PyData.eqvAll]
  | x :: r, [] => by simp [PyData.eqvAll]
  | x :: r, y :: s => by
    simp only [List.map_cons, PyData.eqvAll, PyData.eqv, eqvAll_strs r s]
    by_cases h : x = y <;> by_cases k : r = s <;> simp [h, k]
theorem eqv_strs (xs ys : List Str) : PyData.eqv (.tuple (xs.map PyData.str)) (.tuple (ys.map PyData.str)) = decide (xs = ys) := by
  rw [PyData.eqv]; exact eqvAll_strs xs ys
def prD (p : SS) : PyData := .tuple [.str p.1, .str p.2]
def webD (ns : List Str) (ts : List SS) : PyData := .tuple [.tuple (ns.map PyData.str), .tuple (ts.map prD)]
theorem lay_word {x : Str} (h : Wd.Lt x) : PyData.canLay0 (.str x) = true := by
  unfold PyData.canLay0 PyData.strOk
  rw [Array.all_eq_true]
  intro i hi
  have := h x.cps[i] (Array.mem_toList_iff.mpr (Array.getElem_mem hi))
  simp
  omega
theorem layAll_strs : ∀ {xs : List Str}, (∀ x ∈ xs, Wd.Lt x) → PyData.canLayAll0 (xs.map PyData.str) = true
  | [], _ => rfl
  | x :: r, h => by
    simp only [List.map_cons, PyData.canLayAll0, lay_word (h x (List.mem_cons_self ..)), layAll_strs (fun y hy => h y (List.mem_cons_of_mem _ hy)), Bool.and_true]
theorem dep_strs : ∀ xs : List Str, PyData.depthAll (xs.map PyData.str) = 0
  | [] => rfl
  | x :: r => by simp only [List.map_cons, PyData.depthAll, PyData.depth, dep_strs r]; rfl
theorem shaped_strs {xs : List Str} (h : ∀ x ∈ xs, Wd.Lt x) : SeqAt.shaped (.tuple (xs.map PyData.str)) = true := by
  unfold SeqAt.shaped
  simp only [PyData.canLay0, layAll_strs h, PyData.depth, dep_strs]
  decide
end L2

/-! Texts of webs. -/
namespace Tm
open PySem L2 Wd Wm PyProof.Rows
def RowNames (row : Str) (words : List Str) : Prop := row.length ≤ 10000 ∧ ((row.length = 0 ∧ words = []) ∨ (row.length ≠ 0 ∧ Txt.split row " " = words))
def RowTie (row : Str) (p : SS) : Prop := row.length ≤ 10000 ∧ (Txt.split row " " = [p.1, p.2] ∨ Txt.split row " " = [p.2, p.1])
structure TextOf (text : Str) (names : List Str) (ties : List SS) : Prop where
  len : text.length ≤ 1000000
  ex : ∃ row0 rows words ps, Txt.split text "\n" = row0 :: rows ∧ rows.length ≤ 1000 ∧ RowNames row0 words ∧ words.Perm names ∧ Paired RowTie rows ps ∧ ps.Perm ties
theorem tl_sp : TL.tl (" " : Str) = [32] := by decide +kernel
theorem tl_nl : TL.tl ("\n" : Str) = [10] := by decide +kernel
theorem tl_joinT (y : Str) (ws : List Str) : (Txt.join y ws).cps.toList = TL.joinL (TL.tl y) (ws.map TL.tl) := by
  rw [TL.join_eq]
  exact TL.tl_join y ws
/-- the rows of a text have no line end within -/
def NoNl (x : Str) : Prop := 10 ∉ x.cps.toList
end Tm

/-! The text of a web, written two ways. -/
namespace Sm
open PySem PySem.Spec L2 Wd Wm Tm PyProof.Rows
def rowOf (p : SS) : Str := Txt.join (" " : Str) [p.1, p.2]
def shown (names : List Str) (ties : List SS) : Str := Txt.join ("\n" : Str) (Txt.join (" " : Str) names :: ties.map rowOf)
def fN (n : Str) : List Nat := 32 :: n.cps.toList
def fT (p : SS) : List Nat := 10 :: (rowOf p).cps.toList
theorem joinL_sp : ∀ (x : List Nat) (ls : List (List Nat)), TL.joinL [32] (x :: ls) = x ++ ls.flatMap (fun l => 32 :: l)
  | x, [] => by simp [TL.joinL]
  | x, y :: r => by
    show x ++ ([32] ++ TL.joinL [32] (y :: r)) = _
    rw [joinL_sp y r]
    simp
theorem joinL_nl : ∀ (x : List Nat) (ls : List (List Nat)), TL.joinL [10] (x :: ls) = x ++ ls.flatMap (fun l => 10 :: l)
  | x, [] => by simp [TL.joinL]
  | x, y :: r => by
    show x ++ ([10] ++ TL.joinL [10] (y :: r)) = _
    rw [joinL_nl y r]
    simp
theorem flat_map {α : Type} (f : α → List Nat) (c : Nat) (l : List α) : (l.map f).flatMap (fun x => c :: x) = l.flatMap (fun x => c :: f x) := by
  induction l with
  | nil => rfl
  | cons x r ih => simp [ih]
theorem shown_tl (names : List Str) (ties : List SS) : (shown names ties).cps.toList = (names.flatMap fN).drop 1 ++ ties.flatMap fT := by
  unfold shown
  rw [tl_joinT, tl_nl, List.map_cons, joinL_nl]
  congr 1
  · show (Txt.join (" " : Str) names).cps.toList = _
    rw [tl_joinT, tl_sp]
    cases names with
    | nil => rfl
    | cons x r =>
      rw [List.map_cons, joinL_sp, flat_map]
      simp [fN]
      rfl
  · rw [List.map_map, flat_map]
    rfl
theorem cut_from_s (z : Str) (k : Nat) (h : k ≤ z.length) : (cutS z (some (k : Int)) none).cps.toList = z.cps.toList.drop k := by
  unfold cutS
  rw [HT.sIx_nat, HT.sIx_none]
  have e : min k z.length = k := by omega
  rw [e]
  show (List.take (z.length - k) (List.drop k z.cps.toList)).toArray.toList = _
  rw [List.take_of_length_le (by rw [List.length_drop]; exact Nat.le_refl _)]
theorem no_ties {names : List Str} {ties : List SS} (h : WebOk names ties) (e : names = []) : ties = [] := by
  cases ties with
  | nil => rfl
  | cons p r =>
    have := (h.ti p (List.mem_cons_self ..)).1
    rw [e] at this
    cases this
/-- what is written with all its blanks, its first blank off -/
theorem written {names : List Str} {ties : List SS} (h : WebOk names ties) {z : Str} (hz : z.cps.toList = names.flatMap fN ++ ties.flatMap fT) : cutS z (some (if (!decide (names = [])) = true then (1 : Int) else 0)) none = shown names ties := by
  apply ext_toList
  rw [shown_tl]
  by_cases e : names = []
  · have e2 := no_ties h e
    subst e
    subst e2
    have : cutS z (some (if (!decide (([] : List Str) = [])) = true then (1 : Int) else 0)) none = cutS z (some ((0 : Nat) : Int)) none := rfl
    rw [this, cut_from_s _ _ (Nat.zero_le _), hz]
    rfl
  · have c : (!decide (names = [])) = true := by simp [e]
    rw [c]
    have : cutS z (some (if true = true then (1 : Int) else 0)) none = cutS z (some ((1 : Nat) : Int)) none := rfl
    cases names with
    | nil => exact absurd rfl e
    | cons x r =>
      rw [this, cut_from_s z 1 (by rw [len_tl, hz]; simp [fN]), hz]
      simp [fN]
end Sm

/-! t + u of any tuples; t[::-1] and xs[::-1]; more loops. -/
namespace L2
open PySem PySem.Spec PyProof.Rows
section
variable {prog : Program} {w : World} {A : Around} {E : Value → Shared → Prop} {s : Shared}
end
def tRevT (K : PySem.W.Frag) (te ts : TE) : TE := fun σ H Q => te σ H fun x H1 => ts σ H1 fun i H2 => i = .int (-1) ∧ ∃ a xs, x = .ref a ∧ SqT K H2 a xs ∧ ∀ p, H2 p = none → Q (.ref p) (upd H2 p (.tup xs.reverse))
def tRevL (K : PySem.W.Frag) (te ts : TE) : TE := fun σ H Q => te σ H fun x H1 => ts σ H1 fun i H2 => i = .int (-1) ∧ ∃ a xs, x = .ref a ∧ SqL K H2 a xs ∧ ∀ p, H2 p = none → Q (.ref p) (upd H2 p (.lst xs.reverse))
section
variable {X : Cx} {e st : Expr} {te ts : TE} {pos p2 : Pos}
/-! ### t + u -/
def rCatA (K : PySem.W.Frag) : R2 := fun x y H Q => ∃ a b xs ys, x = .ref a ∧ y = .ref b ∧ SqT K H a xs ∧ SqT K H b ys ∧ xs.length + ys.length ≤ sizeLine ∧ ∀ r H', Same H H' → SqT K H' r (xs ++ ys) → Q (.ref r) H'
theorem op_catA : OpR X (binaryOp .Add) (rCatA X.K) := by
  intro pins s σ H x y v u Q I rx ry h
  obtain ⟨a, b, xs, ys, rfl, rfl, ha, hb, hz, q⟩ := h
  by_cases hx : xs = []
  · subst hx
    cases rx
    cases ry
    obtain ⟨its, r1, p1, _⟩ := I.tuple ha
    obtain ⟨its2, r2, p2, _⟩ := I.tuple hb
    cases r1
    obtain ⟨⟨cls, dd, data, sl⟩, ho, hc, n, hd⟩ := id p1
    obtain ⟨⟨cls2, dd2, data2, sl2⟩, ho2, hc2, n2, hd2⟩ := id p2
    simp only at hc hd hc2 hd2
    subst hc hd hc2 hd2
    exact concat_meets ⟨_, ho, rfl⟩ ⟨_, ho2, rfl⟩ noFill_tuple_add seq_tuple_add PySem.F.slot_tuple_add PySem.F.entry_tuple_add (PySem.F.args_tuple_add_2 _ _)
      (tuple_addW0 a b _ its2.toArray n n2 dd dd2 sl sl2 (by simp)) ⟨ho, ho2, ⟨.ref b, H, I, rfl, q b H (fun _ _ e => e) hb⟩⟩
  · exact op_catT pins s σ H _ _ v u Q I rx ry ⟨a, b, xs, ys, rfl, rfl, ha, hb, hx, hz, fun e => q a H (fun _ _ e => e) (by rw [e, List.append_nil]; exact ha), fun _ p hp => q p _ (same_new hp _) (SqT.of upd_same)⟩
end
end L2

/-! Webs by some of their names, without some of them. -/
namespace Km
open PySem PySem.Spec L2 Wd Wm PyProof.Rows
def kN (names xs : List Str) : List Str := names.filter fun n => decide (n ∈ xs)
def kT (ties : List SS) (xs : List Str) : List SS := ties.filter fun p => decide (p.1 ∈ xs) && decide (p.2 ∈ xs)
def nN (names xs : List Str) : List Str := names.filter fun n => !decide (n ∈ xs)
def nT (ties : List SS) (xs : List Str) : List SS := ties.filter fun p => !decide (p.1 ∈ xs) && !decide (p.2 ∈ xs)
theorem filt_congr {α : Type} {f g : α → Bool} : ∀ {l : List α}, (∀ x ∈ l, f x = g x) → l.filter f = l.filter g
  | [], _ => rfl
  | x :: r, h => by
    have h2 := filt_congr (f := f) (g := g) (l := r) fun y hy => h y (List.mem_cons_of_mem _ hy)
    rw [List.filter_cons, List.filter_cons, h x (List.mem_cons_self ..), h2]
theorem mem_kN {names xs : List Str} {n : Str} : n ∈ kN names xs ↔ n ∈ names ∧ n ∈ xs := by unfold kN; rw [List.mem_filter]; simp
theorem mem_nN {names xs : List Str} {n : Str} : n ∈ nN names xs ↔ n ∈ names ∧ n ∉ xs := by unfold nN; rw [List.mem_filter]; simp
theorem mem_kT {ties : List SS} {xs : List Str} {p : SS} : p ∈ kT ties xs ↔ p ∈ ties ∧ p.1 ∈ xs ∧ p.2 ∈ xs := by unfold kT; rw [List.mem_filter]; simp
theorem mem_nT {ties : List SS} {xs : List Str} {p : SS} : p ∈ nT ties xs ↔ p ∈ ties ∧ p.1 ∉ xs ∧ p.2 ∉ xs := by unfold nT; rw [List.mem_filter]; simp
theorem kN_sub (names xs : List Str) : (kN names xs).Sublist names := List.filter_sublist
theorem nN_sub (names xs : List Str) : (nN names xs).Sublist names := List.filter_sublist
theorem kN_nN (names xs : List Str) : kN names (nN names xs) = nN names xs := by
  refine filt_congr fun n hn => ?_
  have : decide (n ∈ nN names xs) = !decide (n ∈ xs) := by
    rw [Bool.eq_iff_iff]; simp [mem_nN, hn]
  exact this
theorem ndp {names : List Str} {ties : List SS} (h : WebOk names ties) : names.Nodup := List.nodup_iff_pairwise_ne.mpr (List.Pairwise.imp (fun {a b} k => sLt_ne k) h.ns)
theorem ties_le {names : List Str} {ties : List SS} (h : WebOk names ties) (h14 : names.length ≤ 14) : ties.length ≤ 98 := by
  have sub : ∀ p ∈ ties, p ∈ pairsL names := fun p hp => (mem_pairs h.ns).mpr (h.ti p hp)
  have l1 := nodup_le h.ts.nodup sub
  have l2 := len_pairs names
  have l3 : names.length * (names.length - 1) ≤ 14 * 13 := Nat.mul_le_mul h14 (by omega)
  omega
/-! ### together -/
theorem parts (names one : List Str) : ∀ {ties : List SS}, (∀ p ∈ ties, p.1 ∈ names ∧ p.2 ∈ names) → (kT ties one).length + (kT ties (nN names one)).length + (ties.filter fun p => !decide (decide (p.1 ∈ one) = decide (p.2 ∈ one))).length = ties.length
  | [], _ => rfl
  | p :: r, h => by
    have ih := parts names one (ties := r) fun q hq => h q (List.mem_cons_of_mem _ hq)
    have z := h p (List.mem_cons_self ..)
    unfold kT at ih ⊢
    rw [List.filter_cons, List.filter_cons, List.filter_cons, List.length_cons]
    have e1 : decide (p.1 ∈ nN names one) = !decide (p.1 ∈ one) := by rw [Bool.eq_iff_iff]; simp [mem_nN, z.1]
    have e2 : decide (p.2 ∈ nN names one) = !decide (p.2 ∈ one) := by rw [Bool.eq_iff_iff]; simp [mem_nN, z.2]
    rw [e1, e2]
    generalize r.filter (fun p => decide (p.1 ∈ one) && decide (p.2 ∈ one)) = A at ih ⊢
    generalize r.filter (fun p => decide (p.1 ∈ nN names one) && decide (p.2 ∈ nN names one)) = B at ih ⊢
    generalize r.filter (fun p => !decide (decide (p.1 ∈ one) = decide (p.2 ∈ one))) = C at ih ⊢
    by_cases c1 : p.1 ∈ one <;> by_cases c2 : p.2 ∈ one <;> simp [c1, c2] <;> omega
end Km

/-! tuple.index, min and max of texts, a dict of the module, dicts by pairs, list(range(n)). -/
namespace L2
open PySem PySem.Spec PyProof.Rows
section
variable {prog : Program} {w : World} {A : Around} {E : Value → Shared → Prop} {s : Shared}
theorem index_loop {x : Value} {items : Array Value} {e : Value → Bool} {j : Nat} (hj : j < items.size) (hit : e items[j] = true) (hno : ∀ m (hm : m < items.size), m < j → e items[m] = false) (he : ∀ y, y ∈ items → SeqAt.EqAt A s y x (e y)) {Q : Option PySem.Fin × Unit → Shared → Prop}
    (h : Q (some (.done (.ret (.int j s.toks))), ()) { s with toks := s.toks + 1 }) : ∀ (k i : Nat), j - i = k → i ≤ j → ∀ n, j < i + n →
    wpAny (model prog w) A (forIn (List.range' i n 1) ((none, ()) : Option PySem.Fin × Unit) fun (i : Nat) (__s : Option PySem.Fin × Unit) => (match items[i]? with
                    | some y => do
                      let __do_lift ← eqBool y x
                      if __do_lift = true then do
                          let __do_lift ← retInt ((i : Nat) : Int)
                          pure (ForInStep.done (some __do_lift, ()))
                        else pure (ForInStep.yield (none, ()))
                    | x => pure (ForInStep.yield (none, ())) : Sem (ForInStep (Option PySem.Fin × Unit)))) Q E s := by
  intro k
  induction k with
  | zero =>
    intro i hk hi n hn
    have ei : i = j := by omega
    subst ei
    obtain ⟨n', rfl⟩ : ∃ n', n = n' + 1 := ⟨n - 1, by omega⟩
    rw [List.range'_succ, List.forIn_cons]
    refine wpAny_bind ?_
    rw [Array.getElem?_eq_getElem hj]
    refine wpAny_bind (he _ (Array.getElem_mem hj) prog w E _ ?_)
    rw [hit]
    simp only [if_true]
    exact wpAny_bind (wpAny_bind (wpAny_mkInt (wpAny_pure (wpAny_pure (wpAny_pure h)))))
  | succ k ih =>
    intro i hk hi n hn
    have hlt : i < items.size := by omega
    obtain ⟨n', rfl⟩ : ∃ n', n = n' + 1 := ⟨n - 1, by omega⟩
    rw [List.range'_succ, List.forIn_cons]
    refine wpAny_bind ?_
    rw [Array.getElem?_eq_getElem hlt]
    refine wpAny_bind (he _ (Array.getElem_mem hlt) prog w E _ ?_)
    rw [hno i hlt (by omega)]
    simp only [Bool.false_eq_true, if_false]
    exact wpAny_pure (ih (i + 1) (by omega) (by omega) n' (by omega))
def s2 (a b : Str) : Nat → Str
  | 0 => a
  | _ => b
end
section
variable {X : Cx}
/-- names.index(x), names unlike texts -/
def rIndexT (K : PySem.W.Frag) : V → List V → Hp → VK → Prop := fun x xs H Q => ∃ (a : Addr) (ys : List Str) (y : Str) (j : Nat), x = V.ref a ∧ xs = [.str y] ∧ SqT K H a (ys.map V.str) ∧ ys[j]? = some y ∧ (∀ m, m < j → ys[m]? ≠ some y) ∧ Q (.int (j : Nat)) H
end
/-! ### a dict of the module, read by a text -/
def TopD (K : PySem.W.Frag) (w : World) (a : Addr) : Prop := ∃ es n, K.lookup a = some ⟨.type "dict", none, .dict es n, #[]⟩ ∧ PySem.W.KeysLit w.params es.toList
def tTop (K : PySem.W.Frag) (a : Addr) (ti : TE) : TE := fun σ H Q => ti σ H fun y H1 => ∃ x v u, y = .str x ∧ PySem.W.nsIn K a x = some (some u) ∧ RelV v u ∧ Q v H1
section
variable {X : Cx} {o i e value : Expr} {pos pos' tpos p : Pos} {td ty tv te ti : TE}
theorem etop {x : Str} {a : Addr} (hg : Gl X x) (hm : X.mg x = some (.ref a)) (ht : TopD X.K X.w a) (hd : (x == ("__debug__" : Str)) = false) (hi : SE X i ti) (hs : NoSl i) : SE X (.Subscript (.Name x p) i pos) (tTop X.K a ti) := by
  refine ⟨fun pins s σ H Q I h => ?_⟩
  obtain ⟨es, n, hl, hk⟩ := ht
  have he : PE X (.Name x p) (tC (.ref a)) := pe_glob hg hm rfl hd
  refine subD_of PySem.F.slot_dict_getitem.lookup hs (thn (he pins s σ H (fun v H' => v = .ref a ∧ H' = H) I ⟨rfl, rfl⟩) fun u s1 ⟨x1, H1, I1, rx, e1, e2⟩ => ?_)
  subst e1 e2
  cases rx
  refine thn (hi.o pins s1 σ _ _ I1 h) fun iv s2 ⟨y, H2, I2, ry, x2, v, u2, ey, hn, rv, q⟩ => ?_
  subst ey
  obtain ⟨t, rfl⟩ := ry
  have hm := PySem.W.mapOf_K (prog := X.prog) (w := X.w) (h := s2.heap) I2.kIn hl hk
  exact ⟨hm.typeIs, wpAny_getItem_of (strKind_is X.prog X.w x2 t) hm (PySem.W.find_K hl hn) ⟨v, H2, I2.tok _, rv, q⟩⟩
/-! ### dicts by pairs -/
theorem ednewT : SE X (.Dict [] [] pos) tDNewT := ⟨pe_dnewT⟩
theorem edin (hu : X.A.units + 64 < cLine) (hi : SE X i ty) (ho : SE X o td) (hm : behindInMarks .In o = false) : SE X (.Compare i [.In] [o] pos) (tDIn ty td) := ⟨pe_cmp (pc_din (by omega) hi.o ho.o) hm⟩
theorem bdput (hu : X.A.units + 64 < cLine) (ho : SE X o td) (hi : SE X i ty) (hv : SE X value tv) (hs : swapsWith value (some (.Subscript o i pos')) pos.line X.env = pure false) : SS1 X (.Assign [.Subscript o i pos'] value pos) (sDPut td ty tv) := ⟨ps_dput (by omega) ho.o hi.o hv.o hs⟩
/-! ### list(range(n)) -/
def tLrange (ta : TA) : TE := fun σ H Q => ta σ H fun vs H1 => ∃ n : Nat, vs = [.int n] ∧ n ≤ 1000 ∧ ∀ l, H1 l = none → Q (.ref l) (upd H1 l (.lst ((List.range n).map fun k => V.int (k : Nat))))
end
end L2
namespace L2
open PySem
/-- the scope of the comprehension that a def returns -/
def retComp (st : Stmt) : Scope := match (defBody st).getLast? with
  | some (.Return (some (.ListComp _ _ sc _)) _) => sc
  | _ => defScope st
section
variable {X : Cx} {K : PySem.W.Frag}
end
section
open PyProof.Rows
variable {X : Cx} {K : PySem.W.Frag}
end
/-! ### a tuple that is known to have no dict: its methods -/
def TupD (H : Hp) (a : Addr) : Prop := ∃ o xs, H a = some (.frz o (.tup xs)) ∧ o.dict = none
theorem TupD.keep {H H' : Hp} {a : Addr} (h : TupD H a) (k : KeepT H H') : TupD H' a := let ⟨o, xs, e, d⟩ := h; ⟨o, xs, k.2 _ _ _ e, d⟩
def tBD (r : V → List V → Hp → VK → Prop) (to : TE) (t : TA) : TE := fun σ H Q => to σ H fun x H1 => (∃ a, x = .ref a ∧ TupD H1 a) ∧ t σ H1 fun xs H2 => r x xs H2 Q
section
open PySem.Spec PyProof.Rows
variable {X : Cx} {K : PySem.W.Frag} {o e : Expr} {es : List Expr} {to : TE} {tas : TA} {name : Str} {apos pos : Pos} {id : String} {r : V → List V → Hp → VK → Prop}
end
end L2

/-! Rows as bits, kinds of rows. -/
namespace Bm
open PySem PySem.Spec L2 Wd Wm Km PyProof.Rows
/-! ### bits as sums -/
def sb (f : Nat → Bool) : Nat → Nat
  | 0 => 0
  | n + 1 => sb f n + (if f n = true then 2 ^ n else 0)
/-! ### the model's own -/
/-! ### kinds -/
inductive Kd
  | T | A | C
def Kd.s : Kd → Str
  | .T => "tied"
  | .A => "apart"
  | .C => "cover"
def Tie (ties : List SS) (a b : Str) : Prop := (a, b) ∈ ties ∨ (b, a) ∈ ties
instance (ties : List SS) (a b : Str) : Decidable (Tie ties a b) := inferInstanceAs (Decidable (_ ∨ _))
theorem Tie.symm {ties : List SS} {a b : Str} (h : Tie ties a b) : Tie ties b a := h.elim .inr .inl
theorem tie_irr {names : List Str} {ties : List SS} (h : WebOk names ties) (a : Str) : ¬ Tie ties a a := by
  rintro (z | z) <;> exact sLt_irr _ (h.ti _ z).2.2
/-- a row is of a kind -/
def isK (ties : List SS) : Kd → List Str → Prop
  | .T, xs => ∀ a ∈ xs, ∀ b ∈ xs, a ≠ b → Tie ties a b
  | .A, xs => ∀ a ∈ xs, ∀ b ∈ xs, ¬ Tie ties a b
  | .C, xs => ∀ p ∈ ties, p.1 ∈ xs ∨ p.2 ∈ xs
open Classical in
noncomputable def isB (ties : List SS) (kd : Kd) (xs : List Str) : Bool := decide (isK ties kd xs)
theorem isB_iff {ties : List SS} {kd : Kd} {xs : List Str} : isB ties kd xs = true ↔ isK ties kd xs := by unfold isB; simp
/-! ### rows by bits -/
def adj (names : List Str) (ties : List SS) (a : Str) : Nat := sb (fun j => match names[j]? with | some b => decide (Tie ties a b) | none => false) names.length
def rowL (names : List Str) (r : Nat) : List Str := (List.range names.length).filterMap fun k => if r.testBit k = true then names[k]? else none
/-- one place keeps to the kind, by bits -/
def okAt (kd : Kd) (r b k : Nat) : Bool := match kd with
  | .T => !(r.testBit k && !decide (r - (r &&& b) = 2 ^ k))
  | .A => !(r.testBit k && !decide (r &&& b = 0))
  | .C => !(!r.testBit k && !decide (b - (b &&& r) = 0))
/-! ### rows that grow -/
end Bm

/-! Kinds, as the program asks for them. -/
namespace L2
open PySem
section
variable {X : Cx} {tg it : Expr} {wi wi' : TI}
/-- what is walked is of either form -/
theorem iseq (h : SI X tg it wi) (h' : SI X tg it wi') : SI X tg it (fun σ H R => wi σ H R ∨ wi' σ H R) :=
  ⟨fun pins s σ H R I q => q.elim (h.o pins s σ H R I) (h'.o pins s σ H R I)⟩
end
end L2
namespace Gm
open PySem PySem.Spec L2 Wd Wm Km Bm PyProof.Rows
/-- the table's keys -/
abbrev k2 (a b : Str) : List Key := [.inr a, .inr b]
def Tbl (ties : List SS) (kvs : List (List Key × V)) : Prop := ∀ a b, (valV kvs (k2 a b)).isSome = decide (Tie ties a b)
theorem k2_inj {a b c d : Str} (h : k2 a b = k2 c d) : a = c ∧ b = d := by
  unfold k2 at h
  injection h with h1 h2
  injection h1 with h1
  injection h2 with h2 _
  injection h2 with h2
  exact ⟨h1, h2⟩
theorem tbl_nil : Tbl [] [] := fun a b => by
  have : ¬ Tie [] a b := by rintro (z | z) <;> cases z
  simp [valV, this]
theorem tbl_add {ties : List SS} {kvs : List (List Key × V)} (h : Tbl ties kvs) (p : SS) : Tbl (ties ++ [p]) (putK (putK kvs (k2 p.1 p.2) (.bl true)) (k2 p.2 p.1) (.bl true)) := fun a b => by
  obtain ⟨x, y⟩ := p
  rw [valV_put, valV_put]
  have key : Tie (ties ++ [(x, y)]) a b ↔ Tie ties a b ∨ (a = x ∧ b = y) ∨ (a = y ∧ b = x) := by
    unfold Tie
    simp only [List.mem_append, List.mem_singleton, Prod.mk.injEq]
    constructor
    · rintro ((z | z) | (z | z))
      · exact .inl (.inl z)
      · exact .inr (.inl z)
      · exact .inl (.inr z)
      · exact .inr (.inr ⟨z.2, z.1⟩)
    · rintro ((z | z) | z | z)
      · exact .inl (.inl z)
      · exact .inr (.inl z)
      · exact .inl (.inr z)
      · exact .inr (.inr ⟨z.2, z.1⟩)
  by_cases c1 : k2 a b = k2 y x
  · rw [if_pos c1]
    have e := k2_inj c1
    have : Tie (ties ++ [(x, y)]) a b := key.mpr (.inr (.inr e))
    simp [this]
  · rw [if_neg c1]
    by_cases c2 : k2 a b = k2 x y
    · rw [if_pos c2]
      have e := k2_inj c2
      have : Tie (ties ++ [(x, y)]) a b := key.mpr (.inr (.inl e))
      simp [this]
    · rw [if_neg c2, h a b]
      refine decide_eq_decide.mpr ?_
      rw [key]
      constructor
      · exact .inl
      · rintro (z | ⟨e1, e2⟩ | ⟨e1, e2⟩)
        · exact z
        · exact absurd (by rw [e1, e2]) c2
        · exact absurd (by rw [e1, e2]) c1
/-- tied wants ties, apart none -/
def want : Kd → Bool
  | .T => true
  | _ => false
def goB (ties : List SS) (kd : Kd) (x : Str) (ys : List Str) : Bool := (ys.map fun y => decide (V.bl (decide (Tie ties x y)) = V.bl (want kd))).all id
theorem goB_iff {ties : List SS} {kd : Kd} {x : Str} {ys : List Str} : goB ties kd x ys = true ↔ ∀ y ∈ ys, decide (Tie ties x y) = want kd := by
  unfold goB
  rw [List.all_eq_true]
  constructor
  · intro h y hy
    have := h _ (List.mem_map.mpr ⟨y, hy, rfl⟩)
    have := of_decide_eq_true this
    injection this
  · intro h b hb
    obtain ⟨y, hy, rfl⟩ := List.mem_map.mp hb
    exact decide_eq_true (by rw [h y hy])
def goAll (ties : List SS) (kd : Kd) (xs : List Str) (i : Nat) : List Bool := (List.range i).map fun k => goB ties kd (xs.getD k "") (xs.take k)
end Gm

/-! Greatest rows, least covers. -/
namespace Hm
open PySem PySem.Spec L2 Wd Wm Km Bm Gm PyProof.Rows
theorem isK_congr {ties : List SS} {kd : Kd} {xs ys : List Str} (h : ∀ x, x ∈ xs ↔ x ∈ ys) : isK ties kd xs ↔ isK ties kd ys := by
  cases kd with
  | T => exact ⟨fun q a ha b hb => q a ((h a).mpr ha) b ((h b).mpr hb), fun q a ha b hb => q a ((h a).mp ha) b ((h b).mp hb)⟩
  | A => exact ⟨fun q a ha b hb => q a ((h a).mpr ha) b ((h b).mpr hb), fun q a ha b hb => q a ((h a).mp ha) b ((h b).mp hb)⟩
  | C => exact ⟨fun q p hp => (q p hp).imp (h _).mp (h _).mp, fun q p hp => (q p hp).imp (h _).mpr (h _).mpr⟩
def less (xs : List Str) (x : Str) : List Str := xs.filter fun y => !decide (y = x)
theorem mem_less {xs : List Str} {x y : Str} : y ∈ less xs x ↔ y ∈ xs ∧ y ≠ x := by unfold less; rw [List.mem_filter]; simp
/-- whether a kind's rows shrink -/
def shr : Kd → Bool
  | .C => true
  | _ => false
/-- the row with one place other -/
def other (kd : Kd) (xs : List Str) (x : Str) : List Str := match kd with
  | .C => less xs x
  | _ => x :: xs
/-- greatest (of covers least) -/
def isM (names : List Str) (ties : List SS) (kd : Kd) (xs : List Str) : Prop := isK ties kd xs ∧ ∀ x ∈ names, decide (x ∈ xs) = shr kd → ¬ isK ties kd (other kd xs x)
open Classical in
noncomputable def mB (names : List Str) (ties : List SS) (kd : Kd) (xs : List Str) : Bool := decide (isM names ties kd xs)
theorem mB_iff {names : List Str} {ties : List SS} {kd : Kd} {xs : List Str} : mB names ties kd xs = true ↔ isM names ties kd xs := by unfold mB; simp
/-! ### as the program asks -/
theorem go_more {names : List Str} {ties : List SS} {kd : Kd} {xs : List Str} {x : Str} (h : WebOk names ties) (hk : kd ≠ .C) (hx : x ∉ xs) (q : isK ties kd xs) : goB ties kd x xs = true ↔ isK ties kd (x :: xs) := by
  rw [goB_iff]
  cases kd with
  | C => exact absurd rfl hk
  | T =>
    constructor
    · intro g a ha b hb ne
      rcases List.mem_cons.mp ha with rfl | ha' <;> rcases List.mem_cons.mp hb with rfl | hb'
      · exact absurd rfl ne
      · exact of_decide_eq_true (g b hb')
      · exact Tie.symm (of_decide_eq_true (g a ha'))
      · exact q a ha' b hb' ne
    · intro g y hy
      exact decide_eq_true (g x (List.mem_cons_self ..) y (List.mem_cons_of_mem _ hy) fun e => hx (e ▸ hy))
  | A =>
    constructor
    · intro g a ha b hb
      rcases List.mem_cons.mp ha with rfl | ha' <;> rcases List.mem_cons.mp hb with rfl | hb'
      · exact tie_irr h _
      · exact of_decide_eq_false (g b hb')
      · exact fun t => of_decide_eq_false (g a ha') t.symm
      · exact q a ha' b hb'
    · intro g y hy
      exact decide_eq_false (g x (List.mem_cons_self ..) y (List.mem_cons_of_mem _ hy))
theorem not_of {names : List Str} {ties : List SS} {kd : Kd} {xs : List Str} (q : isB ties kd xs = false) : mB names ties kd xs = false := by
  refine Bool.eq_false_iff.mpr fun z => ?_
  rw [isB_iff.mpr (mB_iff.mp z).1] at q
  cases q
end Hm

/-! reversed(tuple). -/
namespace RT
open PySem PySem.Spec PyProof.Rows
theorem owner_rev : Manifest.owners.lookup (String.ofList ['d', 'e', 's', 'r', 'e', 'v', 'e', 'r'].reverse) = some Manifest.sig_reversed := by kernel_rfl
theorem slot_next : Slot "reversed" "__next__" "reversed.__next__" :=
  .of (owner := "reversed") (n := "__next__") (by rw [typeLookup_type, builtinLookup_eq_fast]; kernel_rfl) (by decide +kernel) (by decide +kernel) (by decide +kernel)
    (by first | exact .inl (by decide +kernel) | exact .inr (by decide +kernel)) (by rw [isSubtype_type]; kernel_rfl)
theorem entry_next : entryFor table "reversed.__next__" = some Builtin.«reversed.__next__» := entryFor_of_tree (by kernel_rfl)
theorem args_next (a : Value) : argsOk "reversed.__next__" ⟨[a], []⟩ := by
  unfold argsOk; rw [signature?_of (id := "reversed.__next__") (n := ['_', '_', 't', 'x', 'e', 'n', '_', '_']) (o := ['d', 'e', 's', 'r', 'e', 'v', 'e', 'r']) (by kernel_rfl) owner_rev]; kernel_rfl
def IsRv (h : Heap) (a t : Addr) (i : Int) : Prop := ∃ o, h.get? a = some o ∧ o.cls = .type "reversed" ∧ o.data = .fields #[.ref t, rawInt i]
section
variable {prog : Program} {w : World} {A : Around} {E : Value → Shared → Prop} {s : Shared}
theorem IsRv.typeIs {a t : Addr} {i : Int} (x : IsRv s.heap a t i) : s.TypeIs (.ref a) "reversed" := let ⟨o, ho, hc, _⟩ := x; ⟨o, ho, hc⟩
theorem IsRv.at {h h' : Heap} {a t : Addr} {i : Int} (x : IsRv h a t i) (e : ∀ o, h.get? a = some o → h'.get? a = some o) : IsRv h' a t i := let ⟨o, ho, r⟩ := x; ⟨o, e _ ho, r⟩
theorem next_item {it t : Addr} {i : Nat} {items : Array Value} {x : Value} {Q : Option Value → Shared → Prop} (hit : IsRv s.heap it t (i : Int)) (ht : IsTup s.heap t items) (hx : items[i]? = some x) (hz : items.size ≤ sizeLine)
    (hQ : ∀ h' tk, IsRv h' it t ((i : Int) - 1) → Heap.SameBut it s.heap h' → Q (some x) { s with heap := h', toks := tk }) : wpAny (model prog w) A (pyNext (.ref it)) Q E s := by
  obtain ⟨o, ho, hc, hd⟩ := id hit
  have hi : i < items.size := (Array.getElem?_eq_some_iff.mp hx).1
  unfold pyNext
  refine wpAny_bind (wpAny_attempt (wpAny_callSpecial?_slot (name := Str.ofString "__next__") hit.typeIs slot_next
    (wpAny_call_entry slot_next hit.typeIs entry_next ?_ (args_next _))))
  unfold Builtin.«reversed.__next__»
  refine wpAny_bind (wpAny_of_eq (a := (Value.ref it, [])) rfl ?_)
  try dsimp only
  refine wpAny_bind (wpAny_field ho hd (x := .ref t) rfl ?_)
  refine wpAny_bind (wpAny_field ho hd (x := rawInt (i : Int)) rfl ?_)
  show wpAny _ _ (if (i : Int) < 0 then _ else _) _ _ s
  rw [if_neg (by omega)]
  refine wpAny_bind (wpAny_specialOf ht.typeIs PyProof.Rows.slot_tuple_getitem.lookup ?_)
  try dsimp only
  rw [if_neg (by simp)]
  refine wpAny_bind (wpAny_mkInt ?_)
  refine wpAny_bind (wpAny_attempt (getItem_tuple ht (by omega) (by rw [sizeLine_eq] at hz; omega) (j := i) (seqIndex_of (by omega) (by omega)) hx ?_))
  refine wpAny_bind (wpAny_field ho hd (x := rawInt (i : Int)) rfl ?_)
  show wpAny _ _ (setField (.ref it) 1 (rawInt ((i : Int) - 1)) >>= _) _ _ _
  refine wpAny_bind (wpAny_setField ho hd (by simp) ?_)
  refine wpAny_pure ⟨x, rfl, wpAny_pure (hQ _ _ ?_ (Heap.SameBut.update ..))⟩
  exact ⟨_, Heap.get?_update_self _ ho (Obj.isFreed_of_fields (Obj.data_mapFields hd _)), (Obj.cls_mapFields ..).trans hc, by
    rw [Obj.data_mapFields hd]; simp⟩
theorem next_end {it t : Addr} {Q : Option Value → Shared → Prop} (hh : A.handled = none) (hit : IsRv s.heap it t (-1))
    (hQ : ∀ h', Heap.ExtBut it s.heap h' → Q none { s with heap := h' }) : wpAny (model prog w) A (pyNext (.ref it)) Q E s := by
  obtain ⟨o, ho, hc, hd⟩ := id hit
  unfold pyNext
  refine wpAny_bind (wpAny_attempt (wpAny_callSpecial?_slot (name := Str.ofString "__next__") hit.typeIs slot_next
    (wpAny_call_entry slot_next hit.typeIs entry_next ?_ (args_next _))))
  unfold Builtin.«reversed.__next__»
  refine wpAny_bind (wpAny_of_eq (a := (Value.ref it, [])) rfl ?_)
  try dsimp only
  refine wpAny_bind (wpAny_field ho hd (x := .ref t) rfl ?_)
  refine wpAny_bind (wpAny_field ho hd (x := rawInt (-1)) rfl ?_)
  show wpAny _ _ (if (-1 : Int) < 0 then _ else _) _ _ s
  rw [if_pos (by decide)]
  refine wpAny_bind (wpAny_rule ?_)
  refine wpAny_bind (wpAny_bind (wpAny_setField ho hd (by simp) ?_))
  have ho1 := Heap.get?_update_self (Obj.mapFields (fun x => x.set! 1 (rawInt (-1)))) ho (Obj.isFreed_of_fields (Obj.data_mapFields hd _))
  refine wpAny_setField (Heap.get?_update_self _ ho (Obj.isFreed_of_fields (Obj.data_mapFields hd _))) (Obj.data_mapFields hd _) (by simp) ?_
  refine wpAny_bind ?_
  unfold Builtin.SmallTypes.stopIteration
  show wpAny _ _ (newExc (.type "StopIteration") [] >>= _) _ _ _
  refine wpAny_bind ?_
  simp only [newExc, newTuple]
  refine wpAny_bind (wpAny_newObj_type ?_ (by size_fits))
  refine wpAny_bind (m := firstArgMember _ _) (wpAny_of_eq (a := Value.none) (by first | rfl | (simp only [firstArgMember]; rfl)) ?_)
  refine wpAny_newObj_type ?_ (by size_fits)
  simp only [raiseNew]
  refine wpAny_bind (wpAny_handled ?_)
  first | rw [show A.in1.handled = none from hh] | rw [hh]
  refine wpAny_bind (wpAny_pure (wpAny_throw ?_))
  refine wpAny_bind (wpAny_isInstance (T := "StopIteration") (b := true) ⟨_, Heap.get?_push_size _ rfl, rfl⟩ isSubtype_stop ?_)
  refine wpAny_pure (hQ _ ?_)
  intro b o' hb e
  exact Heap.get?_push_of_some _ (Heap.get?_push_of_some _ ((Heap.SameBut.update ..).extBut b o' hb ((Heap.SameBut.update ..).extBut b o' hb e)))
end
end RT
namespace L2
open PySem PySem.Spec PyProof.Rows RT
/-- the tuple at a, from its end -/
def Itw (K : PySem.W.Frag) (a : Addr) (n : Nat) : It :=
  ⟨fun i H => i < n ∧ ∃ (xs : List V) (x : V), SqT K H a xs ∧ xs[n - 1 - i]? = some x, fun i H x H' => H' = H ∧ ∀ xs, SqT K H a xs → xs[n - 1 - i]? = some x, fun i _ => n ≤ i⟩
def iRevT (K : PySem.W.Frag) (ta : TA) : TI := fun σ H R => ta σ H fun vs H1 => ∃ (a : Addr) (xs : List V), vs = [.ref a] ∧ SqT K H1 a xs ∧ R (Itw K a xs.length) H1
section
variable {X : Cx} {tg e : Expr} {tas : TA} {p pos : Pos}
end
end L2

/-! sorted(tuple of texts). -/
namespace L2
open PySem PySem.Spec PyProof.Rows
section
variable {X : Cx}
def rSortedT (K : PySem.W.Frag) : List V → Hp → VK → Prop := fun vs H Q => ∃ (a : Addr) (xs : List Str), vs = [V.ref a] ∧ SqT K H a (xs.map V.str) ∧ xs.length < 64 ∧
  ∀ (ys : List Str) (p : Addr), ys.Perm xs → sortedS ys = true → H p = none → Q (.ref p) (upd H p (.lst (ys.map V.str)))
end
end L2

/-! what fills a row; kinds in the web turned over, and of the others. -/
namespace Fm
open PySem L2 Wd Wm Km Bm Gm Hm PyProof.Rows
theorem nd_s {l : List Str} (h : l.Pairwise sLt) : l.Nodup := List.nodup_iff_pairwise_ne.mpr (List.Pairwise.imp (fun {a b} k => sLt_ne k) h)
theorem s_ext {l m : List Str} (h : l.Pairwise sLt) (k : m.Pairwise sLt) (e : ∀ x, x ∈ l ↔ x ∈ m) : l = m :=
  ((List.perm_ext_iff_of_nodup (nd_s h) (nd_s k)).mpr e).eq_of_pairwise (fun a b _ _ h1 h2 => absurd (sLt_trans h1 h2) (sLt_irr _)) h k
theorem kN_asc {names : List Str} (h : names.Pairwise sLt) (xs : List Str) : (kN names xs).Pairwise sLt := h.sublist (kN_sub _ _)
theorem sorted_kN {names ys held : List Str} (h : names.Pairwise sLt) (p : ys.Perm held) (s : sortedS ys = true) (nd : held.Nodup) (sub : ∀ x ∈ held, x ∈ names) : ys = kN names held :=
  s_ext (strict s (p.nodup_iff.mpr nd)) (kN_asc h _) fun x => by
    rw [p.mem_iff, mem_kN]
    exact ⟨fun k => ⟨sub x k, k⟩, fun k => k.2⟩
theorem sub_of {names xs : List Str} (h : names.Pairwise sLt) (k : xs.Pairwise sLt) (sub : ∀ x ∈ xs, x ∈ names) : xs.Sublist names := by
  have e : xs = kN names xs := s_ext k (kN_asc h _) fun x => by rw [mem_kN]; exact ⟨fun z => ⟨sub x z, z⟩, fun z => z.2⟩
  rw [e]
  exact kN_sub _ _
/-! ### filling -/
def stF (ties : List SS) (kd : Kd) (held : List Str) (x : Str) : List Str := if (!decide (x ∈ held) && goB ties kd x held) = true then held ++ [x] else held
def fillL (ties : List SS) (kd : Kd) (ns held : List Str) : List Str := ns.foldl (stF ties kd) held
theorem fill_take {ties : List SS} {kd : Kd} {names row : List Str} {i : Nat} {x : Str} (h : names[i]? = some x) : fillL ties kd (names.take (i + 1)) row = stF ties kd (fillL ties kd (names.take i) row) x := by
  unfold fillL
  rw [List.take_succ, h, List.foldl_append]
  rfl
structure Hd (names : List Str) (ties : List SS) (kd : Kd) (row held : List Str) : Prop where
  nd : held.Nodup
  sub : ∀ x ∈ held, x ∈ names
  k : isK ties kd held
  sup : ∀ x ∈ row, x ∈ held
theorem snoc_iff {x y : Str} {held : List Str} : y ∈ x :: held ↔ y ∈ held ++ [x] := by simp [or_comm]
theorem Hd.step {names : List Str} {ties : List SS} {kd : Kd} {row held : List Str} {x : Str} (w : WebOk names ties) (hk : kd ≠ .C) (h : Hd names ties kd row held) (hx : x ∈ names) : Hd names ties kd row (stF ties kd held x) := by
  unfold stF
  by_cases c : (!decide (x ∈ held) && goB ties kd x held) = true
  · rw [if_pos c]
    rw [Bool.and_eq_true] at c
    have nx : x ∉ held := by simpa using c.1
    refine ⟨?_, fun y hy => ?_, (isK_congr fun y => snoc_iff).mp ((go_more w hk nx h.k).mp c.2), fun y hy => List.mem_append_left _ (h.sup y hy)⟩
    · refine List.nodup_append.mpr ⟨h.nd, List.nodup_cons.mpr ⟨List.not_mem_nil, List.nodup_nil⟩, fun a ha b hb e => ?_⟩
      rw [List.mem_singleton.mp hb] at e
      exact nx (e ▸ ha)
    · rcases List.mem_append.mp hy with hy | hy
      · exact h.sub y hy
      · rw [List.mem_singleton.mp hy]; exact hx
  · rw [if_neg c]
    exact h
theorem Hd.fill {names : List Str} {ties : List SS} {kd : Kd} {row : List Str} (w : WebOk names ties) (hk : kd ≠ .C) : ∀ {ns held : List Str}, (∀ x ∈ ns, x ∈ names) → Hd names ties kd row held → Hd names ties kd row (fillL ties kd ns held)
  | [], held, _, h => h
  | x :: ns, held, hn, h => Hd.fill w hk (ns := ns) (held := stF ties kd held x) (fun y hy => hn y (List.mem_cons_of_mem _ hy)) (h.step w hk (hn x (List.mem_cons_self ..)))
theorem Hd.start {names : List Str} {ties : List SS} {kd : Kd} {row : List Str} (w : WebOk names ties) (s : row.Sublist names) (k : isK ties kd row) : Hd names ties kd row row := ⟨(ndp w).sublist s, fun x hx => s.subset hx, k, fun x hx => hx⟩
theorem Hd.len {names : List Str} {ties : List SS} {kd : Kd} {row held : List Str} (h : Hd names ties kd row held) : held.length ≤ names.length := nodup_le h.nd h.sub
/-! ### turned over -/
theorem tie_over {names : List Str} {ties : List SS} (w : WebOk names ties) {a b : Str} (ha : a ∈ names) (hb : b ∈ names) (ne : a ≠ b) : Tie (over names ties) a b ↔ ¬ Tie ties a b := by
  have key : ∀ {a b : Str}, a ∈ names → b ∈ names → sLt a b → (Tie (over names ties) a b ↔ ¬ Tie ties a b) := by
    intro a b ha hb lt
    have nlt : ¬ sLt b a := fun k => sLt_irr _ (sLt_trans lt k)
    have n1 : (b, a) ∉ ties := fun k => nlt (w.ti _ k).2.2
    have n2 : (b, a) ∉ over names ties := fun k => nlt ((over_ok w).ti _ k).2.2
    have e : (a, b) ∈ over names ties ↔ (a, b) ∉ ties := by
      unfold over
      rw [List.mem_filter, mem_pairs w.ns]
      simp [ha, hb, lt]
    unfold Tie
    simp [n1, n2, e]
  by_cases c : sLt a b
  · exact key ha hb c
  · have c2 : sLt b a := Classical.byContradiction fun k => ne (sLt_tot c k)
    have := key hb ha c2
    exact ⟨fun k l => this.mp k.symm l.symm, fun k => (this.mpr fun l => k l.symm).symm⟩
/-! ### the others -/
theorem rest_K {names : List Str} {ties : List SS} (w : WebOk names ties) {xs : List Str} : isK ties .A xs ↔ isK ties .C (nN names xs) := by
  constructor
  · intro h p hp
    by_cases c : p.1 ∈ xs
    · refine .inr (mem_nN.mpr ⟨(w.ti _ hp).2.1, fun c2 => h _ c _ c2 (.inl hp)⟩)
    · exact .inl (mem_nN.mpr ⟨(w.ti _ hp).1, c⟩)
  · intro h a ha b hb t
    rcases t with t | t
    · rcases h _ t with z | z
      · exact (mem_nN.mp z).2 ha
      · exact (mem_nN.mp z).2 hb
    · rcases h _ t with z | z
      · exact (mem_nN.mp z).2 hb
      · exact (mem_nN.mp z).2 ha
theorem rest_M {names : List Str} {ties : List SS} (w : WebOk names ties) {xs : List Str} : mB names ties .A xs = mB names ties .C (nN names xs) := by
  rw [Bool.eq_iff_iff, mB_iff, mB_iff]
  have e : ∀ x : Str, (isK ties .A (x :: xs) ↔ isK ties .C (less (nN names xs) x)) := fun x => by
    rw [rest_K w]
    refine isK_congr fun y => ?_
    rw [mem_nN, mem_less, mem_nN, List.mem_cons, not_or]
    exact ⟨fun ⟨a, b, c⟩ => ⟨⟨a, c⟩, b⟩, fun ⟨⟨a, c⟩, b⟩ => ⟨a, b, c⟩⟩
  have d : ∀ x ∈ names, (decide (x ∈ xs) = false ↔ decide (x ∈ nN names xs) = true) := fun x hx => by
    rw [decide_eq_false_iff_not, decide_eq_true_iff, mem_nN]
    exact ⟨fun k => ⟨hx, k⟩, fun k => k.2⟩
  exact ⟨fun h => ⟨(rest_K w).mp h.1, fun x hx c k => h.2 x hx ((d x hx).mpr c) ((e x).mpr k)⟩, fun h => ⟨(rest_K w).mpr h.1, fun x hx c k => h.2 x hx ((d x hx).mp c) ((e x).mp k)⟩⟩
/-! ### fewer, alone -/
theorem shr_no {kd : Kd} (hk : kd ≠ .C) : shr kd = false := by
  cases kd with
  | C => exact absurd rfl hk
  | T => rfl
  | A => rfl
theorem oth_no {kd : Kd} (hk : kd ≠ .C) (xs : List Str) (x : Str) : other kd xs x = x :: xs := by
  cases kd with
  | C => exact absurd rfl hk
  | T => rfl
  | A => rfl
theorem alone {names : List Str} {ties : List SS} {kd : Kd} (hk : kd ≠ .C) {row : List Str} (k : isK ties kd row) : mB (kN names row) (kT ties row) kd row = true := by
  refine mB_iff.mpr ⟨?_, fun x hx c => ?_⟩
  · cases kd with
    | C => exact absurd rfl hk
    | T =>
      intro a ha b hb e
      rcases k a ha b hb e with t | t
      · exact .inl (mem_kT.mpr ⟨t, ha, hb⟩)
      · exact .inr (mem_kT.mpr ⟨t, hb, ha⟩)
    | A =>
      intro a ha b hb t
      rcases t with t | t
      · exact k a ha b hb (.inl (mem_kT.mp t).1)
      · exact k a ha b hb (.inr (mem_kT.mp t).1)
  · rw [shr_no hk] at c
    exact absurd (mem_kN.mp hx).2 (of_decide_eq_false c)
/-! ### taking out -/
noncomputable def stC (ties : List SS) (row : List Str) (x : Str) : List Str := if isB ties .C (less row x) = true then less row x else row
noncomputable def thinL (ties : List SS) (ns row : List Str) : List Str := ns.foldl (stC ties) row
/-- what comes of filling -/
noncomputable def filL (names : List Str) (ties : List SS) (kd : Kd) (row : List Str) : List Str := match kd with
  | .C => thinL ties names.reverse row
  | _ => kN names (fillL ties kd names row)
theorem fil_no {names : List Str} {ties : List SS} {kd : Kd} {row : List Str} (hk : kd ≠ .C) : filL names ties kd row = kN names (fillL ties kd names row) := by
  cases kd with
  | C => exact absurd rfl hk
  | T => rfl
  | A => rfl
end Fm

/-! t < u, t > u of tuples of texts; t[a:b], the whole, too. -/
namespace LS
open PySem PySem.Spec PyProof.Rows
/-- the order of tuples of texts -/
def lexS : List Str → List Str → Bool
  | [], [] => false
  | [], _ :: _ => true
  | _ :: _, [] => false
  | x :: xs, y :: ys => if x = y then lexS xs ys else decide (x.cps.toList < y.cps.toList)
theorem lexS_cons (x y : Str) (xs ys : List Str) : lexS (x :: xs) (y :: ys) = if x = y then lexS xs ys else decide (x.cps.toList < y.cps.toList) := rfl
theorem eqAt_s (A : Around) (s : Shared) (a : Str) (t : Tok) (c : Str) (u : Tok) : ∃ e, SeqAt.EqAt A s (.str a t) (.str c u) e ∧ (e = true ↔ a = c) :=
  ⟨(a == c), SeqAt.EqAt.str_str a t c u, by simp⟩
theorem rc_lt (A : Around) (s : Shared) (a : Str) (t : Tok) (c : Str) (u : Tok) (prog : Program) (w : World) (E : Value → Shared → Prop) (Q : Value → Shared → Prop) (h : Q (.bool (decide (a.cps.toList < c.cps.toList))) s) :
    wpAny (model prog w) A (richCompare .Lt (.str a t) (.str c u)) Q E s := (PyProof.Rows.lt_str h : wpAny (model prog w) A (compareOp .Lt (.str a t) (.str c u)) Q E s)
section
open PySem.SeqAt
open PySem.AutoSeq1 (wpAny_loadPart')
open PySem.MeetsSeq PySem.MeetsSeq2 PySem.MeetsSeq3
theorem tuple_lt_strs (l b : Addr) (items items2 : Array Value) (n n2 : Nat) (dd dd2 : Option Addr) (sl sl2 : Array (Option Value)) (ns ms : List Str) (hi : StrsAre items.toList ns) (hj : StrsAre items2.toList ms) :
    Meets (Builtin.«tuple.__lt__» ⟨[.ref l, .ref b], []⟩)
      (fun _ R s => s.heap.get? l = some ⟨.type "tuple", dd, .seq items n, sl⟩ ∧ s.heap.get? b = some ⟨.type "tuple", dd2, .seq items2 n2, sl2⟩ ∧ R (.ok (.ret (.bool (lexS ns ms)))) s) :=
  .of_wp fun prog w A R s h => by
    obtain ⟨hp, g, d, tk, os⟩ := s; obtain ⟨hl, hb, h⟩ := h
    have f2 := AutoSeq1.sub_tuple_tuple
    have z1 : items.size = ns.length := by rw [← hi.length]; simp
    have z2 : items2.size = ms.length := by rw [← hj.length]; simp
    wp_walk using wpAny_loadPart' hl, wpAny_loadPart' hb, wpAny_forIn_list _ (fun rest b s' => b.1 = none ∧ s' = ⟨hp, g, d, tk, os⟩ ∧ ∃ (vs ws : List Value) (ns' ms' : List Str), rest = vs.zip ws ∧
      StrsAre vs ns' ∧ StrsAre ws ms' ∧ ns'.length + items2.size = ms'.length + items.size ∧ R (.ok (.ret (.bool (lexS ns' ms')))) ⟨hp, g, d, tk, os⟩) _
    case turn =>
      rintro ⟨y, x⟩ rest b s' ⟨hb', rfl, vs, ws, ns', ms', hz, hvi, hwi, hlen, hR⟩
      cases hvi with
      | nil => rw [List.zip_nil_left] at hz; cases hz
      | cons a t hvi' =>
        cases hwi with
        | nil => rw [List.zip_nil_right] at hz; cases hz
        | cons c u hwi' =>
          rw [List.zip_cons_cons] at hz
          injection hz with hyx hrest
          injection hyx with hy hx
          subst hy hx
          rw [lexS_cons] at hR
          simp only [List.length_cons] at hlen
          obtain ⟨e, he, hiff⟩ := eqAt_s A.in1 ⟨hp, g, d, tk, os⟩ a t c u
          refine wpAny_bind (he prog w _ _ ?_)
          cases e with
          | true =>
            rw [if_pos (hiff.mp rfl)] at hR
            wp_walk
            exact ⟨rfl, rfl, _, _, _, _, hrest, hvi', hwi', by omega, hR⟩
          | false =>
            rw [if_neg (fun q => absurd (hiff.mpr q) Bool.false_ne_true)] at hR
            have hri := rc_lt A.in1 ⟨hp, g, d, tk, os⟩ a t c u prog w
            wp_walk using hri
            exact ⟨_, rfl, by simpa using hR⟩
    case fin =>
      rintro ⟨b1, b2⟩ s' ⟨hb', rfl, vs, ws, ns', ms', hz, hvi, hwi, hlen, hR⟩
      simp only at hb'
      subst hb'
      have hv : lexS ns' ms' = decide (items.size < items2.size) := by
        cases hvi with
        | nil =>
          cases hwi with
          | nil => simp only [List.length_nil] at hlen; exact (decide_eq_false (by omega)).symm
          | cons c u hw => simp only [List.length_nil, List.length_cons] at hlen; exact (decide_eq_true (by omega)).symm
        | cons a t hv =>
          cases hwi with
          | nil => simp only [List.length_nil, List.length_cons] at hlen; exact (decide_eq_false (by omega)).symm
          | cons c u hw =>
            rw [List.zip_cons_cons] at hz
            cases hz
      rw [hv] at hR
      wp_walk
      exact ⟨_, rfl, by simpa [Builtin.Tuple.tupleCompareSizes] using hR⟩
    case h => exact ⟨rfl, rfl, items.toList, items2.toList, ns, ms, rfl, hi, hj, by omega, h⟩
end
section
variable {prog : Program} {w : World} {A : Around} {E : Value → Shared → Prop} {s : Shared}
theorem lt_strs {l b : Addr} {items items2 : Array Value} {ns ms : List Str} {Q : Value → Shared → Prop} (hl : IsTup s.heap l items) (hb : IsTup s.heap b items2) (hi : StrsAre items.toList ns) (hj : StrsAre items2.toList ms)
    (hu : A.units < cLine) (h : Q (.bool (lexS ns ms)) s) : wpAny (model prog w) A (compareOp .Lt (.ref l) (.ref b)) Q E s := by
  obtain ⟨⟨cls, dd, data, sl⟩, ho, hc, n, hd⟩ := id hl
  obtain ⟨⟨cls2, dd2, data2, sl2⟩, ho2, hc2, n2, hd2⟩ := id hb
  simp only at hc hd hc2 hd2
  subst hc hd hc2 hd2
  exact richCompare_meets_room (op := .Lt) ⟨_, ho, rfl⟩ ⟨_, ho2, rfl⟩ PySem.F.slot_tuple_lt PySem.F.entry_tuple_lt (PySem.F.args_tuple_lt_2 _ _) (tuple_lt_strs l b items items2 n n2 dd dd2 sl sl2 ns ms hi hj)
    ⟨ho, ho2, show Value.bool (lexS ns ms) ≠ Value.notImplemented ∧ Q (.bool (lexS ns ms)) s from ⟨(fun x => nomatch x), h⟩⟩ hu
open HT in
end
end LS
namespace L2
open PySem PySem.Spec PyProof.Rows
section
variable {X : Cx}
def rLtS (K : PySem.W.Frag) : R2 := fun x y H Q => ∃ a b xs ys, x = .ref a ∧ y = .ref b ∧ SqT K H a (xs.map V.str) ∧ SqT K H b (ys.map V.str) ∧ Q (.bl (LS.lexS xs ys)) H
def rGtS (K : PySem.W.Frag) : R2 := fun x y H Q => ∃ a b xs ys, x = .ref a ∧ y = .ref b ∧ SqT K H a (xs.map V.str) ∧ SqT K H b (ys.map V.str) ∧ Q (.bl (LS.lexS ys xs)) H
/-- t[a:b], the whole, too -/
def rSlA (K : PySem.W.Frag) : V → Option Int → Option Int → Hp → VK → Prop := fun x lo hi H Q => ∃ a xs, x = .ref a ∧ SqT K H a xs ∧ ∀ r H', Same H H' → SqT K H' r (cutV xs lo hi) → Q (.ref r) H'
end
end L2

/-! dict(zip(t, u)) of two tuples. -/
namespace ZT
open PySem PySem.Spec PyProof.Rows
open PySem.Builtin.SmallTypes
/-- a zip whose last tuple is still about -/
abbrev IsZ2 (h : Heap) (z U O q : Addr) (bb : Bool) : Prop := h.get? z = some ⟨.type "zip", none, .fields #[rawInt q, .bool bb, .bool false, .ref U, .ref O], #[]⟩
section
variable {prog : Program} {w : World} {A : Around} {E : Value → Shared → Prop} {s : Shared}
/-- the zip at any turn; its last tuple is not at S -/
def ZS (h : Heap) (z U O S : Addr) : Prop := IsZip h z U O .none ∨ ∃ (q : Addr) (bb : Bool) (x y : Value), IsZ2 h z U O q bb ∧ IsPair h q x y ∧ q ≠ S
theorem ZS.ne {h : Heap} {z U O q : Addr} {bb : Bool} {x y : Value} (hz : IsZ2 h z U O q bb) (hq : IsPair h q x y) : q ≠ z := fun e => by
  subst e
  have := hz.symm.trans hq
  simp at this
end
end ZT
namespace L2
open PySem PySem.Spec PyProof.Rows ZT
section
variable {prog : Program} {w : World} {A : Around} {E : Value → Shared → Prop}
end
def dzK (xs : List Str) (ys : List V) : List (Key × V) := (xs.map Sum.inr).zip ys
section
variable {X : Cx} {e e2 : Expr} {p p2 pos pos2 : Pos} {tas : TA}
/-- dict(zip(t, u)), t texts, each once -/
def tDzip (K : PySem.W.Frag) (ta : TA) : TE := fun σ H Q => ta σ H fun vs H1 => ∃ (a b : Addr) (xs : List Str) (ys : List V), vs = [.ref a, .ref b] ∧ SqT K H1 a (xs.map V.str) ∧ SqT K H1 b ys ∧ xs.length = ys.length ∧ xs.Nodup ∧ ∀ l, H1 l = none → Q (.ref l) (upd H1 l (.dK (dzK xs ys)))
end
end L2

/-! a, b = a list; d[k]. -/
namespace L2
open PySem PySem.W PySem.Spec PyProof.Rows
section
variable {prog : Program} {w : World} {A : Around} {E : Value → Shared → Prop} {s : Shared}
theorem list_items {l : Addr} {items : Array Value} {R : List Value → Shared → Prop} (nh : A.handled = none) (hl : s.heap.IsList l items)
    (h : ∀ g, (∀ b o, s.heap.get? b = some o → g.get? b = some o) → R items.toList { s with heap := g }) : wpAny (model prog w) A (unpackItems (.ref l) items.size none) R E s := by
  have hlt : l ≠ s.heap.objs.size := by obtain ⟨o, ho, _⟩ := hl; exact Nat.ne_of_lt (Heap.lt_size ho)
  unfold unpackItems
  refine wpAny_bind ?_
  unfold notIterableAtAll
  refine wpAny_bind (wpAny_specialOf hl.typeIs slot_list_iter.lookup (wpAny_pure ?_))
  simp only [Bool.false_eq_true, if_false]
  refine wpAny_bind (wpAny_holding (wpAny_pyIter_list hl ?_))
  refine wpAny_bind (wpAny_holding (kun_draw hlt items.size 0 _ _ ⟨_, Heap.get?_push_size _ rfl, rfl, rfl⟩ (hl.push _) (by simp) fun g1 it1 s1 => ?_))
  have l1 : g1.IsList l items := (hl.push _).extBut s1.extBut hlt
  have et : (List.drop 0 items.toList).take items.size = items.toList := by rw [List.drop_zero]; exact List.take_of_length_le (by simp)
  rw [et]
  rw [if_neg (by simp)]
  refine wpAny_bind (wpAny_holding (wpAny_pyNext_list_end nh it1 l1 (by simp) fun g2 e2 => ?_))
  simp only [Option.isSome_none, Bool.false_eq_true, if_false]
  refine wpAny_pure (h g2 fun b o e => ?_)
  have hb : b ≠ s.heap.objs.size := Nat.ne_of_lt (Heap.lt_size e)
  exact e2 b o hb (s1.extBut b o hb (Heap.get?_push_of_some _ e))
end
/-- (a, b, ..) = a list of that length -/
def gTupL (K : PySem.W.Frag) (n : Nat) (t : TGs) : TG := fun v σ H Q => ∃ a xs, v = .ref a ∧ SqL K H a xs ∧ xs.length = n ∧ t xs σ H Q
section
variable {X : Cx} {es : List Expr} {pos p : Pos}
theorem gtupL {k n : Nat} {g : TGs} (hc : X.calm = true) (h : SH X es g) (hn : (assignEach es X.env).length = n) (hst : (assignEach es X.env).findIdx? (·.1) = none) : SG X (.Tuple es k pos) (gTupL X.K n g) := by
  refine ⟨fun pins s σ H v u Q I r hw => ?_⟩
  obtain ⟨a, xs, rfl, hq, hl, hw⟩ := hw
  cases r
  obtain ⟨its, rv, pl, _⟩ := I.list hq
  have hlen := rv.length
  rw [assign_Tuple]
  refine wpAny_bind (wpAny_standAt ?_)
  unfold unpack
  rw [hn, hst]
  have e : n = its.toArray.size := by rw [List.size_toArray]; omega
  rw [e]
  refine wpAny_bind (wpAny_holding (list_items (I.ok.hd hc) pl.isList fun g1 kp => ?_))
  have I1 : Inv X pins σ H { s with heap := g1 } := I.kept (t' := s.toks) kp
  exact h.o pins _ σ H xs _ Q I1 (by simpa using rv) hw
variable {o i : Expr} {td ty : TE}
theorem edget (hu : X.A.units + 64 < cLine) (ho : SE X o td) (hi : SE X i ty) (hs : NoSl i) : SE X (.Subscript o i pos) (tDGet td ty) := ⟨pe_dget (by omega) ho.o hi.o hs⟩
end
end L2

/-! a filled row is greatest, least in the order of tuples; by other names. -/
namespace Fn
open PySem L2 Wd Wm Km Bm Gm Hm Fm LS
/-! ### what filling does -/
/-! ### the first one -/
/-! ### by other names -/
structure Ren (ρ : Str → Str) (names : List Str) : Prop where
  mono : ∀ x ∈ names, ∀ y ∈ names, sLt x y → sLt (ρ x) (ρ y)
theorem Ren.inj {ρ : Str → Str} {names : List Str} (h : Ren ρ names) {x y : Str} (hx : x ∈ names) (hy : y ∈ names) (e : ρ x = ρ y) : x = y := by
  refine sLt_tot (fun k => ?_) fun k => ?_
  · have := h.mono x hx y hy k
    rw [e] at this
    exact sLt_irr _ this
  · have := h.mono y hy x hx k
    rw [e] at this
    exact sLt_irr _ this
theorem Ren.mem {ρ : Str → Str} {names : List Str} (h : Ren ρ names) {x : Str} {xs : List Str} (hx : x ∈ names) (sub : ∀ y ∈ xs, y ∈ names) : ρ x ∈ xs.map ρ ↔ x ∈ xs := by
  constructor
  · intro k
    obtain ⟨y, hy, e⟩ := List.mem_map.mp k
    rw [← h.inj (sub y hy) hx e]
    exact hy
  · exact fun k => List.mem_map.mpr ⟨x, k, rfl⟩
def renT (ρ : Str → Str) (ties : List SS) : List SS := ties.map fun p => (ρ p.1, ρ p.2)
theorem ren_ok {ρ : Str → Str} {names : List Str} {ties : List SS} (h : Ren ρ names) (w : WebOk names ties) (nw : ∀ x ∈ names, Word (ρ x) ∧ ρ x ∉ own16) : WebOk (names.map ρ) (renT ρ ties) where
  ns := by
    refine List.pairwise_map.mpr (List.Pairwise.imp_of_mem (fun {x y} hx hy k => ?_) w.ns)
    exact h.mono x hx y hy k
  nw := fun y hy => by
    obtain ⟨x, hx, rfl⟩ := List.mem_map.mp hy
    exact nw x hx
  ts := by
    refine List.pairwise_map.mpr (List.Pairwise.imp_of_mem (fun {p q} hp hq k => ?_) w.ts)
    have p1 := w.ti p hp
    have q1 := w.ti q hq
    rw [prLt_iff] at k ⊢
    rcases k with k | ⟨k1, k2⟩
    · exact .inl (h.mono _ p1.1 _ q1.1 k)
    · refine (Classical.em (sLt p.1 q.1)).elim (fun c => .inl (h.mono _ p1.1 _ q1.1 c)) fun c => ?_
      have e := sLt_tot c k1
      refine .inr ⟨?_, h.mono _ p1.2.1 _ q1.2.1 k2⟩
      show ¬ sLt (ρ q.1) (ρ p.1)
      rw [e]
      exact sLt_irr _
  ti := fun p hp => by
    obtain ⟨q, hq, rfl⟩ := List.mem_map.mp hp
    have q1 := w.ti q hq
    exact ⟨List.mem_map.mpr ⟨_, q1.1, rfl⟩, List.mem_map.mpr ⟨_, q1.2.1, rfl⟩, h.mono _ q1.1 _ q1.2.1 q1.2.2⟩
theorem ren_tie {ρ : Str → Str} {names : List Str} {ties : List SS} (h : Ren ρ names) (w : WebOk names ties) {a b : Str} (ha : a ∈ names) (hb : b ∈ names) : Tie (renT ρ ties) (ρ a) (ρ b) ↔ Tie ties a b := by
  have key : ∀ {a b : Str}, a ∈ names → b ∈ names → ((ρ a, ρ b) ∈ renT ρ ties ↔ (a, b) ∈ ties) := by
    intro a b ha hb
    constructor
    · intro k
      obtain ⟨⟨c, d⟩, hq, e⟩ := List.mem_map.mp k
      have q1 := w.ti _ hq
      have e1 := h.inj q1.1 ha (Prod.mk.inj e).1
      have e2 := h.inj q1.2.1 hb (Prod.mk.inj e).2
      have e1' : c = a := e1
      have e2' : d = b := e2
      rw [← e1', ← e2']
      exact hq
    · exact fun k => List.mem_map.mpr ⟨(a, b), k, rfl⟩
  exact or_congr (key ha hb) (key hb ha)
theorem ren_kN {ρ : Str → Str} {names : List Str} (h : Ren ρ names) {xs : List Str} (sub : ∀ y ∈ xs, y ∈ names) : kN (names.map ρ) (xs.map ρ) = (kN names xs).map ρ := by
  unfold kN
  rw [List.filter_map]
  congr 1
  exact filt_congr fun y hy => decide_eq_decide.mpr (h.mem hy sub)
/-- the name in the place of a name -/
def renOf (names ms : List Str) (x : Str) : Str := ((names.zip ms).find? fun p => decide (p.1 = x)).elim "" (·.2)
theorem ren_at : ∀ {names ms : List Str} {i : Nat} {x y : Str}, names.Nodup → names[i]? = some x → ms[i]? = some y → renOf names ms x = y
  | [], _, _, _, _, _, h, _ => by simp at h
  | a :: names, [], _, _, _, _, _, h => by simp at h
  | a :: names, b :: ms, 0, x, y, nd, h1, h2 => by
    have e1 : a = x := Option.some.inj h1
    have e2 : b = y := Option.some.inj h2
    subst e1 e2
    simp [renOf]
  | a :: names, b :: ms, i + 1, x, y, nd, h1, h2 => by
    have h1' : names[i]? = some x := by simpa using h1
    have h2' : ms[i]? = some y := by simpa using h2
    have nd' := List.nodup_cons.mp nd
    have ne : ¬ a = x := fun e => nd'.1 (e ▸ List.mem_of_getElem? h1')
    have := ren_at nd'.2 h1' h2'
    unfold renOf at this ⊢
    rw [List.zip_cons_cons, List.find?_cons, decide_eq_false ne]
    exact this
theorem ren_mono {names ms : List Str} (h : names.Pairwise sLt) (k : ms.Pairwise sLt) (hl : names.length = ms.length) : Ren (renOf names ms) names where
  mono := fun x hx y hy lt => by
    obtain ⟨i, hi, rfl⟩ := List.getElem_of_mem hx
    obtain ⟨j, hj, rfl⟩ := List.getElem_of_mem hy
    have e1 : names[i]? = some names[i] := List.getElem?_eq_getElem hi
    have e2 : names[j]? = some names[j] := List.getElem?_eq_getElem hj
    have f1 : ms[i]? = some (ms[i]'(by omega)) := List.getElem?_eq_getElem (by omega)
    have f2 : ms[j]? = some (ms[j]'(by omega)) := List.getElem?_eq_getElem (by omega)
    have nd := nd_s h
    rw [ren_at nd e1 f1, ren_at nd e2 f2]
    have hij : i < j := by
      rcases Nat.lt_trichotomy i j with q | q | q
      · exact q
      · subst q; exact absurd lt (sLt_irr _)
      · exact absurd (sLt_trans lt (at_lt h q e2 e1)) (sLt_irr _)
    exact at_lt k hij f1 f2
end Fn

/-! an own exception leaves a def; it is met by the caller. -/
namespace Xc
open PySem PySem.Spec PyProof.Rows
abbrev frs (l : List Env) : List Addr := l.filterMap (·.frame)
/-- what an exception's way through the frames fs changes: the record at e, the frames' slots, the records at ts -/
structure Way (fs : List Addr) (e : Addr) (ts : List Addr) (h h' : Heap) : Prop where
  keep : ∀ b o, b ≠ e → b ∉ fs → b ∉ ts → h.get? b = some o → h'.get? b = some o
  slot : ∀ b o, b ∈ fs → b ≠ e → b ∉ ts → h.get? b = some o → ∃ sl, h'.get? b = some { o with slots := sl }
/-- the record of a traceback that is not in flight -/
def Tb (h : Heap) (T : Addr) : Prop := ∃ o ts, h.get? T = some o ∧ o.data = .fields ts ∧ ts[3]? = some .none
abbrev exO (C : Addr) (vs : Array Value) (dd : Option Addr) : Obj := { cls := .ref C, dict := dd, data := .fields vs }
section
variable {M : Model} {A : Around} {E : Value → Shared → Prop} {s : Shared}
/-- a new entry, then not in flight -/
theorem entry {base : Heap} {env : Env} {outer : List Env} {L e C : Addr} {dd : Option Addr} {vs : Array Value} {head : Value} {hn : Bool} {Q : Unit → Shared → Prop}
    (hfr : A.frames = some (env :: outer)) (hl : s.heap.FunFrames base (env :: outer)) (hf : env.frame = some L) (he : s.heap.get? e = some (exO C vs dd)) (hz : 1 < vs.size)
    (h : ∀ h' T, Way (frs (env :: outer)) e [] s.heap h' → s.heap.get? T = none → h'.get? e = some (exO C (vs.setIfInBounds 1 (.ref T)) dd) → Tb h' T → T ≠ e → Q () { s with heap := h' }) :
    wpAny M A (do let a ← frameOf env; let pl ← entryPlaceOf L hn; let b ← EntryCells.newEntry head a .none (rawInt L) .none pl; setField (.ref e) 1 b) (fun _ s' => wpAny M A (setFlight (.ref e) none) Q E s') E s := by
  have hene : e ∉ frs (env :: outer) := fun hm => by
    obtain ⟨_, o, ho, hnf⟩ := hl.mem hm
    rw [he] at ho; injection ho with ho; subst ho; exact hnf vs rfl
  refine wpAny_bind (wpAny_frameOf_fun hfr hl hf fun h₁ hs₁ => ?_)
  refine wpAny_bind (wpAny_entryPlaceOf fun pl hpl => ?_)
  unfold EntryCells.newEntry newFields
  refine wpAny_bind (wpAny_newObj_type ?_ (hpl.sizeOk5 _ _ _ _ _))
  have he₁ : h₁.get? e = some (exO C vs dd) := (hs₁.2.1 e hene).trans he
  generalize hob : ({ cls := .type "traceback", dict := none, data := .fields ([head, .ref L, .none, rawInt L, .none] ++ (if pl.isEmpty then List.replicate 6 Value.none else pl)).toArray } : Obj) = ob
  have he₂ := Heap.get?_push_of_some (h := h₁) ob he₁
  have hT₂ : (h₁.push ob).get? h₁.objs.size = some ob := Heap.get?_push_size h₁ (by rw [← hob]; rfl)
  refine wpAny_setField he₂ rfl hz ?_
  have hTe : h₁.objs.size ≠ e := Nat.ne_of_gt (Heap.lt_size he₁)
  have he₃ : ((h₁.push ob).update e (Obj.mapFields (·.setIfInBounds 1 (Value.ref h₁.objs.size)))).get? e = some (exO C (vs.setIfInBounds 1 (.ref h₁.objs.size)) dd) := Heap.get?_update_self _ he₂ rfl
  have hT₃ : ((h₁.push ob).update e (Obj.mapFields (·.setIfInBounds 1 (Value.ref h₁.objs.size)))).get? h₁.objs.size = some ob := (Heap.get?_update_other _ _ (Ne.symm hTe)).trans hT₂
  have hdT : ob.data = .fields ([head, .ref L, .none, rawInt L, .none] ++ (if pl.isEmpty then List.replicate 6 Value.none else pl)).toArray := by rw [← hob]
  unfold setFlight
  refine wpAny_bind (wpAny_field he₃ rfl (x := .ref h₁.objs.size) (by simp [hz]) ?_)
  rw [if_pos (show (Value.ref h₁.objs.size != Value.none) = true from by simp)]
  have h3s : 3 < ([head, .ref L, .none, rawInt L, .none] ++ (if pl.isEmpty then List.replicate 6 Value.none else pl)).toArray.size := by simp only [List.size_toArray, List.length_append, List.length_cons, List.length_nil] <;> omega
  refine wpAny_setField hT₃ hdT h3s (h _ h₁.objs.size ?_ ?_ ?_ ?_ hTe)
  · have keep : ∀ b o, b ≠ e → h₁.get? b = some o → (((h₁.push ob).update e (Obj.mapFields (·.setIfInBounds 1 (Value.ref h₁.objs.size)))).update h₁.objs.size (Obj.mapFields (·.setIfInBounds 3 ((none : Option Addr).elim Value.none fun f => rawInt f)))).get? b = some o := fun b o hbe hb => by
      have hbT : h₁.objs.size ≠ b := Nat.ne_of_gt (Heap.lt_size hb)
      rw [Heap.get?_update_other _ _ hbT, Heap.get?_update_other _ _ (Ne.symm hbe)]
      exact Heap.get?_push_of_some _ hb
    refine ⟨fun b o hbe hbf _ hb => keep b o hbe ((hs₁.2.1 b hbf).trans hb), fun b o _ hbe _ hb => ?_⟩
    obtain ⟨sl, hs⟩ := hs₁.2.2 b o hb
    exact ⟨sl, keep b _ hbe hs⟩
  · exact Heap.get?_none_of_le (by rw [hs₁.1]; exact Nat.le_refl _)
  · rw [Heap.get?_update_other _ _ hTe]
    exact he₃
  · refine ⟨_, _, Heap.get?_update_self _ hT₃ (Obj.isFreed_of_fields (Obj.data_mapFields hdT _)), Obj.data_mapFields hdT _, ?_⟩
    rw [Array.getElem?_setIfInBounds]
    simp [h3s]
end
/-! ### classes -/
/-- an own class of exceptions in the fragment: its bases' row -/
def ExC (K : PySem.W.Frag) (C : Addr) (bm : List Value) : Prop := ∃ nm q N bs hdct sn sub ab col dd k0 k1 k2 k3 k5 newId, K.lookup C = some (excClassObj nm q C N bs bm hdct sn sub ab col dd k0 k1 k2 k3 k5 newId)
section
variable {M : Model} {A : Around} {E : Value → Shared → Prop} {s : Shared} {K : PySem.W.Frag}
end
end Xc

/-! raise and try of own exceptions, as rules. -/
namespace L2
open PySem PySem.Spec PyProof.Rows Xc
/-- an exception of the class at C lies at x -/
def IsEx (x C : Addr) (dd : Option Addr) : Heap → Prop := fun h => ∃ vs, h.get? x = some (exO C vs dd)
/-- how an own exception lies behind a call -/
def CX1 (P : Program) (w : World) : CXT := fun outer H s E e s' => ∃ (x C T : Addr) (dd : Option Addr) (vs : Array Value) (H' : Hp), e = .ref x ∧ s'.os = s.os ∧ AllBare s'.gens ∧ Un (frs outer) [] H H' s.heap s'.heap ∧ HOk P w H' s'.heap ∧
  s.heap.get? x = none ∧ H' x = some (.ext (IsEx x C dd)) ∧ s'.heap.get? x = some (exO C vs dd) ∧ vs[1]? = some (.ref T) ∧ Tb s'.heap T ∧ T ≠ x ∧ s.heap.get? T = none ∧ H' T = none ∧ E (.ref C) (some x) H'
/-! ### raise -/
abbrev bmV : List Value := [.type "ValueError", .type "Exception", .type "BaseException", .type "object"]
/-- an own class of exceptions without an __init__ -/
def RaiseC (K : PySem.W.Frag) (C : Addr) : Prop := ∃ nm q N bs bm hdct sn sub ab col dd k0 k1 k2 k3 k5, K.lookup C = some (excClassObj nm q C N bs bm hdct sn sub ab col dd k0 k1 k2 k3 k5 "ValueError.__new__") ∧
  PySem.W.tailIn K bmV bm = true ∧ PySem.W.nsOkIn K N = true ∧ PySem.W.nsIn K N "__init__" = some none
def tRaise (C : Addr) (E : XK) (t : TA) : TS := fun D σ H => t σ H fun vs H1 => vs.length ≤ sizeLine ∧ ∀ y, H1 y = none → E (.ref C) (some y) (upd H1 y (.ext (IsEx y C none)))
section
variable {P : Program} {w : World} {K : PySem.W.Frag} {mg : Str → Option Value} {base : Heap} {N : List Str} {qual : Str} {scope : Scope} {f : Addr} {cd : Value} {A : Around} {outer : List Env} {s0 : Shared} {H0 : Hp} {E0 : XK}
end
/-! ### try -/
/-- within a suite behind except -/
abbrev Cx.sup (X : Cx) (v : Value) : Cx := { X with A := X.A.mark (some v), calm := false }
section
variable {X : Cx} {pins : List (Addr × Obj)} {σ : St} {H : Hp} {s : Shared}
theorem Inv.sup (I : Inv X pins σ H s) (v : Value) : Inv (X.sup v) pins σ H s :=
  ⟨⟨I.ok.mod, I.ok.kind, I.ok.glob, I.ok.blt, I.ok.above, I.ok.inj, I.ok.has, I.ok.cab, (fun z => nomatch z), I.ok.frames, I.ok.stk, I.ok.exf, I.ok.bs, I.ok.bsz, I.ok.noex, I.ok.exfs, I.ok.funs, I.ok.frf⟩, I.os, I.bare, I.base, I.loc, I.cell, I.free, I.freeC, I.pin, I.hok, I.len⟩
def tTry (sp : Sp) (ta : TA) (n ie : Nat) (K : PySem.W.Frag) (S : Addr) (ts : TS) : TS := fun D σ H => ta σ H fun vs H1 => sp vs H1 (fun v H2 => D.nx (σ.set n (some v)) H2)
  (fun cls dx H2 => ∃ C y bm, cls = .ref C ∧ dx = some y ∧ ExC K C bm ∧ bm.contains (.ref S) = true ∧ ts { nx := fun σ' H3 => D.nx (σ'.set ie none) H3, rt := fun _ _ => False } (σ.set ie (some (.ref y))) H2)
end
end L2

/-! isinstance of an own exception. -/
namespace L2
open PySem PySem.Spec PyProof.Rows Xc PySem.W
/-- how an own exception's attributes are looked up -/
structure ExA (K : Frag) (C : Addr) : Prop where
  ga : findIn K (.ref C) "__getattribute__" = some (some (.builtin "BaseException.__getattribute__"))
  na : findIn K (.ref C) "__getattr__" = some none
  ca : findIn K (.ref C) "__class__" = some (some (.builtin "object.__class__"))
  ob : mroIn K C (.type "object") = some true
  be : mroIn K C (.type "BaseException") = some true
section
variable {prog : Program} {w : World} {A : Around} {E : Value → Shared → Prop} {K : Frag} {h : Heap} {g : Array GenState} {d : Drawn} {t : Nat} {os : OsState} {y C : Addr} {vs : Array Value}
end
/-- isinstance(e, c), e an own exception: c as the fragment's decider takes it -/
def rIsX (K : Frag) : List V → Hp → VK → Prop := fun vs H Q => ∃ (y C : Addr) (bm : List Value) (c : V) (u : Value) (b : Bool), vs = [.ref y, c] ∧ H y = some (.ext (IsEx y C none)) ∧ ExC K C bm ∧ ExA K C ∧ (∀ u', RelV c u' → u' = u) ∧ kitOne K (.ref C) u = some b ∧ Q (.bl b) H
end L2

/-! list.count of bools. -/
namespace L2
open PySem PySem.Spec PyProof.Rows Xc
def isBl (k : Bool) : Value → Bool
  | .bool b => b == k
  | _ => false
section
variable {X : Cx}
def rCountB (K : PySem.W.Frag) : V → List V → Hp → VK → Prop := fun x xs H Q => ∃ (a : Addr) (bs : List Bool) (k : Bool), x = V.ref a ∧ xs = [V.bl k] ∧ SqL K H a (bs.map V.bl) ∧ Q (.int (bs.count k : Nat)) H
end
section
variable {X : Cx} {pos : Pos}
theorem enon {j : _} : SE X (.Constant .none j pos) (tC .non) := ⟨pe_non⟩
end
end L2

/-! filling by bits is filling by names. -/
namespace Pm
open PySem L2 Wd Wm Km Bm Gm Hm Fm Fn
/-- the places in the order in which they are asked -/
def plc (kd : Kd) (n : Nat) : List Nat := match kd with
  | .C => (List.range n).reverse
  | _ => List.range n
/-- the row by names behind i places -/
noncomputable def rowAt (names : List Str) (ties : List SS) (kd : Kd) (row : List Str) (i : Nat) : List Str := match kd with
  | .C => thinL ties (names.reverse.take i) row
  | _ => fillL ties kd (names.take i) row
noncomputable def stB (names : List Str) (ties : List SS) (kd : Kd) (r k : Nat) : Nat := if r.testBit k = shr kd ∧ isB ties kd (rowL names (r ^^^ 2 ^ k)) = true then r ^^^ 2 ^ k else r
end Pm

/-! an own exception passes a def that does not catch it. -/
namespace L2
open PySem PySem.Spec PyProof.Rows Xc
section
variable {P : Program} {w : World} {K : PySem.W.Frag} {mg : Str → Option Value} {base : Heap} {N : List Str} {qual : Str} {scope : Scope} {f : Addr} {cd : Value} {A : Around} {outer : List Env} {s0 : Shared} {H0 : Hp} {E0 : XK}
end
end L2

/-! an own exception gets an attribute. -/
namespace L2
open PySem PySem.Spec PyProof.Rows Xc PySem.W
open PySem.Builtin PySem.Builtin.ObjectAttr
/-- how an attribute is stored -/
structure ExS (K : Frag) (C S : Addr) (name : Str) : Prop where
  cl : ∃ nm q N bs sn sub ab col dd k0 k1 k2 k3 k5 newId, K.lookup C = some (excClassObj nm q C N bs (.ref S :: bmV) true sn sub ab col dd k0 k1 k2 k3 k5 newId)
  sa : findIn K (.ref C) "__setattr__" = some (some (.builtin "object.__setattr__"))
  no : findIn K (.ref C) name = some none
  ob : mroIn K C (.type "object") = some true
section
variable {prog : Program} {w : World} {A : Around} {E : Value → Shared → Prop} {K : Frag} {h : Heap} {g : Array GenState} {d : Drawn} {t : Nat} {os : OsState} {y C S : Addr} {vs : Array Value} {name : Str} {v : Value}
end
end L2

/-! super().__init__(text) within an own exception's __init__. -/
namespace L2
open PySem PySem.Spec PyProof.Rows Xc PySem.W
section
variable {prog : Program} {w : World} {A : Around} {E : Value → Shared → Prop} {K : Frag} {h : Heap} {g : Array GenState} {d : Drawn} {t : Nat} {os : OsState} {so D x C : Addr} {l₀ l : List Value} {ox : Obj}
end
section
variable {prog : Program} {w : World} {A : Around} {E : Value → Shared → Prop} {s : Shared} {mw x C : Addr} {dd : Option Addr} {vs : Array Value}
end
end L2

/-! the __init__ of an own exception: super().__init__(f".."), self.a = a. -/
namespace L2
open PySem PySem.Spec PyProof.Rows Xc PySem.W
abbrev iniFs (a c1 c2 : Str) (p1 p2 p3 p4 p5 : Pos) : Expr := .JoinedStr [.Constant (.str c1) 0 p1, .FormattedValue (.Name a p2) (-1) none p3, .Constant (.str c2) 0 p4] p5
abbrev iniBody (a c1 c2 : Str) (p1 p2 p3 p4 p5 p6 p7 p8 p9 p10 q0 q1 q2 q3 : Pos) : List Stmt :=
  [.Expr (.Call (.Attribute (.Call (.Name "super" p6) [] [] p7) "__init__" p8) [iniFs a c1 c2 p1 p2 p3 p4 p5] [] p9) p10, .Assign [.Attribute (.Name "self" q0) a q1] (.Name a q2) q3]
abbrev iniScope (a : Str) : Scope := { kind := .function, names := [("self", .local), (a, .local), ("__class__", .free), ("super", .globalImplicit)], isGenerator := false, isCoroutine := false, more := [] }
abbrev iniArgs (a : Str) (r1 r2 : Pos) : Arguments := { posonlyargs := [], args := [{ arg := "self", annotation := none, pos := r1 }, { arg := a, annotation := none, pos := r2 }], vararg := none, kwonlyargs := [], kw_defaults := [], kwarg := none, defaults := [] }
/-- a value that an f-string tells -/
def Fmt (u : Value) : Prop := (∃ (y : Str) (t : Tok), u = .str y t ∧ y.length ≤ 1000000) ∨ ∃ (i : Int) (t : Tok), u = .int i t ∧ i.natAbs.log2 < 1920
structure Ini (P : Program) (K : Frag) (C S f : Addr) (a : Str) : Prop where
  lk : ∃ qual c1 c2 p1 p2 p3 p4 p5 p6 p7 p8 p9 p10 q0 q1 q2 q3 r1 r2 kV doc pm an cda ct cc od sl, (c1.length ≤ 1000000 ∧ c2.length ≤ 1000000) ∧ (p8.endLine == p9.line) = true ∧ K.lookup f = some ⟨.type "function", od, .func (ksFn "__init__" qual (iniArgs a r1 r2) (iniBody a c1 c2 p1 p2 p3 p4 p5 p6 p7 p8 p9 p10 q0 q1 q2 q3) (iniScope a) .none kV doc pm an (.ref cda) ct cc), sl⟩ ∧
    (∀ x u, bindArgs (ksFn "__init__" qual (iniArgs a r1 r2) (iniBody a c1 c2 p1 p2 p3 p4 p5 p6 p7 p8 p9 p10 q0 q1 q2 q3) (iniScope a) .none kV doc pm an (.ref cda) ct cc) ⟨[.ref x, u], []⟩ = pure [(("self" : Str), .ref x), (a, u)]) ∧ codeIn K (.ref cda) qual = true ∧ (∃ ccl cdd cvs ccs file tf, K.lookup cda = some ⟨ccl, cdd, .fields cvs, ccs⟩ ∧ cvs[2]? = some (.str file tf) ∧ ((P.main.file : Str) == file) = true) ∧ ∃ cl cld csl, K.lookup cc = some ⟨cl, cld, .cell (some (.ref C)), csl⟩
  cls : ∃ nm q N bs sn sub ab col dd k0 k1 k2 k3 k5, K.lookup C = some (excClassObj nm q C N bs (.ref S :: bmV) true sn sub ab col dd k0 k1 k2 k3 k5 "ValueError.__new__")
  sup : ks_superIn K C C "__init__" = some (some (.builtin "ValueError.__init__"))
  mroC : mroIn K C (.ref C) = some true
  mroV : mroIn K C (.type "ValueError") = some true
  opq : nsIn K cStatics "thirdparty.any" = some none
  sto : ExS K C S a
  top : (P.main.scope.names.lookup ("super" : Str)).isSome = false
  lA : (iniScope a).names.lookup a = some .local
  lS : (iniScope a).names.lookup ("super" : Str) = some .globalImplicit
  lC : (iniScope a).names.lookup ("__class__" : Str) = some .free
  nd : (a == ("__debug__" : Str)) = false
  ns : a ≠ ("self" : Str)
section
variable {P : Program} {w : World} {A : Around} {E : Value → Shared → Prop} {s : Shared} {K : Frag}
end
end L2

/-! raise of an own exception with an __init__. -/
namespace L2
open PySem PySem.Spec PyProof.Rows Xc PySem.W
section
variable {prog : Program} {w : World} {A : Around} {E : Value → Shared → Prop} {h : Heap} {g : Array GenState} {d : Drawn} {t : Nat} {os : OsState} {env : Env} {s : Shared}
variable {nm q : Str} {C N : Addr} {bs bm bmB : List Value} {hdct : Bool} {sn : List Str} {sub : List Value} {ab : Bool} {col : Option Bool} {dd : Option Addr} {k0 k1 k2 k3 k5 : Option Value} {B newId initId : String}
end
end L2

/-! the rule for raise of an own exception with an __init__. -/
namespace L2
open PySem PySem.Spec PyProof.Rows Xc
section
variable {P : Program} {w : World} {K : PySem.W.Frag} {mg : Str → Option Value} {base : Heap} {N : List Str} {qual : Str} {scope : Scope} {f : Addr} {cd : Value} {A : Around} {outer : List Env} {s0 : Shared} {H0 : Hp} {E0 : XK}
/-- how an own class of exceptions with an __init__ lies in the fragment -/
structure RaiseI (P : Program) (K : PySem.W.Frag) (C S : Addr) (a : Str) : Prop where
  ini : ∃ fI, Ini P K C S fI a ∧ ∃ nm q NN bs sn sub ab col dd k0 k1 k2 k3 k5, K.lookup C = some (excClassObj nm q C NN bs (.ref S :: bmV) true sn sub ab col dd k0 k1 k2 k3 k5 "ValueError.__new__") ∧
    PySem.W.tailIn K bmV (.ref S :: bmV) = true ∧ PySem.W.nsOkIn K NN = true ∧ PySem.W.nsIn K NN "__init__" = some (some (.ref fI))
/-- a value that an own exception keeps -/
def Kept : V → Prop
  | .str y => y.length ≤ 1000000
  | .int i => i.natAbs.log2 < 1920
  | _ => False
def tRaiseI (C : Addr) (a : Str) (E : XK) (t : TA) : TS := fun D σ H => t σ H fun vs H1 => ∃ v, vs = [v] ∧ Kept v ∧ ∀ y dx, H1 y = none → H1 dx = none → dx ≠ y → E (.ref C) (some y) (upd (upd H1 dx (.xd [(a, v)])) y (.ext (IsEx y C (some dx))))
end
end L2

/-! isinstance of an own exception that keeps something; what it keeps. -/
namespace L2
open PySem PySem.Spec PyProof.Rows Xc PySem.W
open PySem.Builtin PySem.Builtin.ObjectAttr
/-- an exception with its dict -/
def IsEd (y C dx : Addr) : Heap → Prop := fun h => (∃ vs, h.get? y = some (exO C vs (some dx))) ∧ ∃ o, h.get? dx = some o
section
variable {prog : Program} {w : World} {A : Around} {E : Value → Shared → Prop} {K : Frag} {h : Heap} {g : Array GenState} {d : Drawn} {t : Nat} {os : OsState} {y C dx : Addr} {vs : Array Value} {od : Obj}
end
/-- isinstance(e, c), e an own exception that keeps something -/
def rIsXd (K : Frag) : List V → Hp → VK → Prop := fun vs H Q => ∃ (y C dx : Addr) (fs : List (Str × V)) (bm : List Value) (c : V) (u : Value) (b : Bool), vs = [.ref y, c] ∧ H y = some (.ext (IsEx y C (some dx))) ∧ H dx = some (.xd fs) ∧ ExC K C bm ∧ ExA K C ∧ (∀ u', RelV c u' → u' = u) ∧ kitOne K (.ref C) u = some b ∧ Q (.bl b) H
/-- isinstance(e, c), e an own exception of either make -/
def rIsXx (K : Frag) : List V → Hp → VK → Prop := fun vs H Q => rIsX K vs H Q ∨ rIsXd K vs H Q
/-- how what is kept is looked up -/
structure ExW (K : Frag) (C : Addr) (name : Str) : Prop where
  cd : ∃ cd, clsIn K C = some cd ∧ cd.hasDict = true
  no : findIn K (.ref C) name = some none
/-- e.name, e an own exception -/
def tXw (K : Frag) (ta : TE) (name : Str) : TE := fun σ H Q => ta σ H fun x H1 => ∃ y C dx fs v, x = .ref y ∧ H1 y = some (.ext (IsEx y C (some dx))) ∧ H1 dx = some (.xd fs) ∧ ExA K C ∧ ExW K C name ∧ fs.lookup name = some v ∧ Kept v ∧ Q v H1
end L2

/-! list.insert; a call by a local name within try. -/
namespace L2
open PySem PySem.Spec PyProof.Rows Xc
section
variable {X : Cx}
def rInsert : V → List V → Hp → VK → Prop := fun x vs H Q => ∃ l xs k y, x = .ref l ∧ vs = [.int (k : Nat), y] ∧ H l = some (.lst xs) ∧ k ≤ xs.length ∧ xs.length < 1000000 ∧ Q .non (upd H l (.lst (xs.take k ++ y :: xs.drop k)))
end
section
variable {X : Cx} {pins : List (Addr × Obj)} {σ : St} {H : Hp} {s : Shared}
def tTryL (X : Cx) (k : Nat) (te : TE) (ta : TA) (n ie : Nat) (S : Addr) (ts : TS) : TS := fun D σ H => te σ H fun x H0 => ∃ f fd ps sp, x = V.ref f ∧ FnOk X.prog X.w X.K X.mg X.base (CX1 X.prog X.w) k f fd ps sp ∧ PySem.W.keepIn X.K (.ref f) = true ∧ Binds X.K fd ps [] ∧
  ta σ H0 fun vs H1 => sp vs H1 (fun v H2 => D.nx (σ.set n (some v)) H2)
  (fun cls dx H2 => ∃ C y bm, cls = .ref C ∧ dx = some y ∧ ExC X.K C bm ∧ bm.contains (.ref S) = true ∧ ts { nx := fun σ' H3 => D.nx (σ'.set ie none) H3, rt := fun _ _ => False } (σ.set ie (some (.ref y))) H2)
end
end L2

/-! sorted of texts at any length; rows of texts in a list of such; == [] and != []. -/
namespace L2
open PySem PySem.Spec PyProof.Rows Xc
def rSortedSA (K : PySem.W.Frag) : List V → Hp → VK → Prop := fun vs H Q => ∃ (a : Addr) (xs : List Str), vs = [V.ref a] ∧ SqL K H a (xs.map V.str) ∧
  ∀ (ys : List Str) (p : Addr), ys.Perm xs → sortedS ys = true → H p = none → Q (.ref p) (upd H p (.lst (ys.map V.str)))
/-! ### rows of texts -/
def txtOf : Value → Str
  | .str x _ => x
  | _ => default
def rowOf (h : Heap) (u : Value) : Option (List Str) :=
  match u with
  | .ref a => (h.get? a).bind fun o => match o.data with
    | .seq xs _ => some (xs.toList.map txtOf)
    | _ => none
  | _ => none
theorem vals_txt : ∀ {ws : List Str} {its : List Value}, Vals (ws.map V.str) its → its.map txtOf = ws
  | [], _, .nil => rfl
  | x :: r, _, .cons q t => by
    obtain ⟨tk, rfl⟩ := q
    rw [List.map_cons, vals_txt t]
    rfl
theorem rowOf_tup {h : Heap} {a : Addr} {its : List Value} (q : h.IsTuple a its.toArray) : rowOf h (.ref a) = some (its.map txtOf) := by
  obtain ⟨o, h1, h2, n, h3⟩ := q
  simp [rowOf, h1, h3]
theorem str_item {ws : List Str} {its : List Value} (r : Vals (ws.map V.str) its) {j : Nat} (h : j < its.toArray.size) : ∃ x tk, ws[j]? = some x ∧ its.toArray[j] = .str x tk := by
  have h' : j < its.length := by simpa using h
  obtain ⟨x, tk, e1, e2⟩ := vals_strs_at r j its[j] (List.getElem?_eq_getElem h')
  exact ⟨x, tk, e1, by simpa using e2⟩
theorem all_rows {ws us : List Str} : ((List.range (min ws.length us.length)).all (fun j => decide (ws[j]? = us[j]?)) && ws.length == us.length) = decide (ws = us) := by
  by_cases e : ws = us
  · subst e
    simp
  · rw [decide_eq_false e, Bool.and_eq_false_iff]
    by_cases l : ws.length = us.length
    · left
      rw [Bool.eq_false_iff]
      intro z
      rw [List.all_eq_true] at z
      refine e (List.ext_getElem? fun j => ?_)
      by_cases hj : j < ws.length
      · exact of_decide_eq_true (z j (List.mem_range.mpr (by omega)))
      · rw [List.getElem?_eq_none (by omega), List.getElem?_eq_none (by omega)]
    · right
      simp [l]
theorem eqAt_rowT {A : Around} {s : Shared} {a b : Addr} {its its2 : List Value} {ws us : List Str} (ha : s.heap.IsTuple a its.toArray) (hb : s.heap.IsTuple b its2.toArray) (ra : Vals (ws.map V.str) its) (rb : Vals (us.map V.str) its2) (hu : A.units < cLine) :
    SeqAt.EqAt A s (.ref a) (.ref b) (decide (ws = us)) := by
  have la := ra.length
  have lb := rb.length
  rw [List.length_map] at la lb
  by_cases e : a = b
  · subst e
    have q := (rowOf_tup ha).symm.trans (rowOf_tup hb)
    rw [vals_txt ra, vals_txt rb] at q
    rw [decide_eq_true (Option.some.inj q)]
    exact SeqAt.EqAt.same _
  · have r := SeqAt.RcAt.tuples (A := A) (e := fun j => decide (ws[j]? = us[j]?)) ha hb hu (fun j h1 h2 => by
      obtain ⟨x, t, e1, e2⟩ := str_item ra h1
      obtain ⟨y, u, e3, e4⟩ := str_item rb h2
      rw [e2, e4, e1, e3]
      have := SeqAt.EqAt.str_str (A := A.in1) (s := s) x t y u
      have e5 : decide (some x = some y) = (x == y) := by
        by_cases z : x = y <;> simp [z]
      rw [e5]
      exact this)
    rw [List.size_toArray, List.size_toArray, ← la, ← lb, all_rows] at r
    exact SeqAt.EqAt.of_refs e r
def IsRowT (K : PySem.W.Frag) (H : Hp) (v : V) (ws : List Str) : Prop := ∃ a, v = .ref a ∧ SqT K H a (ws.map V.str)
def IsRowL (K : PySem.W.Frag) (H : Hp) (v : V) (ws : List Str) : Prop := ∃ a, v = .ref a ∧ SqL K H a (ws.map V.str)
def rInRow (W : Hp → V → List Str → Prop) (K : PySem.W.Frag) (neg : Bool) : R2 := fun x y H Q => ∃ q vs wss ws, y = .ref q ∧ SqL K H q vs ∧ Paired (W H) vs wss ∧ W H x ws ∧ Q (.bl (if neg then !decide (ws ∈ wss) else decide (ws ∈ wss))) H
section
variable {X : Cx} {pins : List (Addr × Obj)} {σ : St} {H : Hp} {s : Shared}
theorem row_atT (I : Inv X pins σ H s) {v : V} {u : Value} {ws : List Str} (h : IsRowT X.K H v ws) (r : RelV v u) : ∃ a its, u = .ref a ∧ s.heap.IsTuple a its.toArray ∧ Vals (ws.map V.str) its ∧ rowOf s.heap u = some ws := by
  obtain ⟨a, rfl, hq⟩ := h
  cases r
  obtain ⟨its, rv, pl, _⟩ := I.tuple hq
  exact ⟨a, its, rfl, pl, rv, by rw [rowOf_tup pl, vals_txt rv]⟩
theorem any_row {W : V → List Str → Prop} (hW : ∀ v u ws, W v ws → RelV v u → rowOf s.heap u = some ws) (ws : List Str) : ∀ {vs : List V} {its : List Value} {wss : List (List Str)}, Vals vs its → Paired W vs wss → (its.any fun u => decide (rowOf s.heap u = some ws)) = decide (ws ∈ wss)
  | _, _, _, .nil, .nil => by simp
  | _, _, _, .cons r t, .cons (b := p) q u => by
    rw [List.any_cons, any_row hW ws t u, hW _ _ _ q r]
    by_cases c : p = ws
    · subst c
      simp
    · have c' : ¬ ws = p := fun z => c z.symm
      simp [c, c']
theorem mem_vals {W : V → List Str → Prop} : ∀ {vs : List V} {its : List Value} {wss : List (List Str)}, Vals vs its → Paired W vs wss → ∀ u ∈ its, ∃ v ws, W v ws ∧ RelV v u
  | _, _, _, .nil, .nil => fun u hu => by cases hu
  | _, _, _, .cons r t, .cons (b := p) q w => fun u hm => by
    rcases List.mem_cons.mp hm with rfl | hm
    · exact ⟨_, _, q, r⟩
    · exact mem_vals t w u hm
end
section
variable {X : Cx}
/-! ### xs == [], xs != [] -/
def rNil (K : PySem.W.Frag) (neg : Bool) : R2 := fun x y H Q => ∃ a b xs, x = .ref a ∧ y = .ref b ∧ SqL K H a xs ∧ SqL K H b [] ∧ Q (.bl (if neg then !xs.isEmpty else xs.isEmpty)) H
end
end L2

/-! text.replace(y, z, 1) behind text + c; an own error made in an expression. -/
namespace L2
open PySem PySem.Spec PyProof.Rows Xc
section
variable {X : Cx}
def tPlusRepl (i : Nat) (c z : Str) : TA := fun σ H Q => ∃ a, σ[i]? = some (some (.str a)) ∧ a.length + c.length ≤ sizeLine ∧ a.length + z.length ≤ sizeLine ∧ ∀ r : Str, r.length ≤ a.length + z.length → Q [.str (a ++ c), .str r] H
end
end L2

/-! an own error with an __init__, made in an expression. -/
namespace L2
open PySem PySem.Spec PyProof.Rows Xc
section
variable {X : Cx}
def tMakeI (C : Addr) (a : Str) (t : TA) : TE := fun σ H Q => t σ H fun vs H1 => ∃ v, vs = [v] ∧ Kept v ∧ ∀ y dx, H1 y = none → H1 dx = none → dx ≠ y → Q (.ref y) (upd (upd H1 dx (.xd [(a, v)])) y (.ext (IsEx y C (some dx))))
end
end L2

/-! Any text, read: the web, or the number of the first wrong row. -/
namespace L2
open PySem
end L2
namespace Ym
open PySem L2 Wd Wm Tm PyProof.Rows
def ltB (c : Nat) : Bool := decide (97 ≤ c) && decide (c ≤ 122)
def nmB (x : Str) : Bool := decide (1 ≤ x.length) && decide (x.length ≤ 8) && !decide (x ∈ own16) && x.cps.toList.all ltB
theorem nm_ok {x : Str} (h : nmB x = true) : Word x ∧ x ∉ own16 := by
  unfold nmB at h
  simp only [Bool.and_eq_true, decide_eq_true_eq, Bool.not_eq_true', decide_eq_false_iff_not, List.all_eq_true, ltB] at h
  exact ⟨⟨h.1.1.1, h.1.1.2, fun c hc => h.2 c hc⟩, h.1.2⟩
/-- the words of a text's first row -/
def nmRow (row : Str) : List Str := if row.length = 0 then [] else Txt.split row " "
def okN (ws : List Str) : Bool := decide ws.Nodup && ws.all nmB
/-- going on word by word -/
def goN : List Str → List Str → Bool
  | _, [] => true
  | seen, x :: r => if (!nmB x || decide (x ∈ seen)) = true then false else goN (seen ++ [x]) r
/-- the tie of a row -/
def prL (p : SS) : List Str := [p.1, p.2]
def lexP (a b : Str) : SS := if a.cps.toList < b.cps.toList then (a, b) else (b, a)
def tieW (m : Str → Bool) : List Str → Option SS
  | [a, b] => if (m a && m b && !decide (a = b)) = true then some (lexP a b) else none
  | _ => none
def tieOf (m : Str → Bool) (row : Str) : Option SS := tieW m (Txt.split row " ")
/-- the rows behind the first one, one by one -/
def rdT (m : Str → Bool) : List SS → List Str → Nat → Nat ⊕ List SS
  | acc, [], _ => .inr acc
  | acc, r :: rs, k => match tieOf m r with
    | none => .inl k
    | some p => if decide (p ∈ acc) = true then .inl k else rdT m (acc ++ [p]) rs (k + 1)
/-- the whole text -/
def rd (text : Str) : Nat ⊕ (List Str × List SS) :=
  match Txt.split text "\n" with
  | [] => .inl 0
  | row0 :: rows => if okN (nmRow row0) = true then (match rdT (fun x => decide (x ∈ nmRow row0)) [] rows 1 with
    | .inl k => .inl k
    | .inr ps => .inr (nmRow row0, ps)) else .inl 0
/-! ### any text, split -/
/-! ### how long a text is that rows make -/
def totL (ws : List Str) : Nat := (ws.map (·.length)).sum + ws.length
/-! ### the law's list of ties: lists of two -/
structure Rl (H1 : Hp) (tl : Addr) (acc : List SS) (H : Hp) : Prop where
  s : Same H1 H
  v : ∃ vs, H tl = some (.lst vs) ∧ Paired (fun v p => ∃ a, v = V.ref a ∧ H a = some (.lst ((prL p).map V.str)) ∧ a ≠ tl) vs acc
section
variable {H1 H : Hp} {tl : Addr} {acc : List SS}
theorem Rl.start (n : H1 tl = none) : Rl H1 tl [] (upd H1 tl (.lst [])) := ⟨same_new n _, [], upd_same, .nil⟩
theorem Rl.same {H' : Hp} (h : Rl H1 tl acc H) (s : Same H H') : Rl H1 tl acc H' := by
  obtain ⟨vs, h1, h2⟩ := h.v
  exact ⟨h.s.trans s, vs, s _ _ h1, L2.Paired.mapP h2 fun v p ⟨a, e, k, n⟩ => ⟨a, e, s _ _ k, n⟩⟩
theorem Rl.new (h : Rl H1 tl acc H) {p : Addr} (n : H p = none) (o : HO) : Rl H1 tl acc (upd H p o) := h.same (same_new n o)
theorem Rl.rows {K : PySem.W.Frag} (h : Rl H1 tl acc H) : ∃ vs, H tl = some (.lst vs) ∧ Paired (IsRowL K H) vs (acc.map prL) := by
  obtain ⟨vs, h1, h2⟩ := h.v
  refine ⟨vs, h1, ?_⟩
  clear h1 h
  induction h2 with
  | nil => exact .nil
  | cons r _ ih =>
    obtain ⟨a, e, k, _⟩ := r
    exact .cons ⟨a, e, SqL.of k⟩ ih
end
end Ym

/-! Going through all greatest rows: rows, names left, names out; a pivot. -/
namespace Zm
open PySem L2 Wd Wm Km Bm Gm Hm Fm Fn PyProof.Rows
def Clq (g : Str → Str → Bool) (xs : List Str) : Prop := ∀ a ∈ xs, ∀ b ∈ xs, a ≠ b → g a b = true
structure Mxc (names : List Str) (g : Str → Str → Bool) (C : List Str) : Prop where
  sub : ∀ x ∈ C, x ∈ names
  clq : Clq g C
  max : ∀ x ∈ names, x ∉ C → ∃ a ∈ C, g x a = false
structure Has (names : List Str) (g : Str → Str → Bool) (R P C : List Str) : Prop where
  m : Mxc names g C
  r : ∀ a ∈ R, a ∈ C
  p : ∀ a ∈ C, a ∈ R ∨ a ∈ P
structure Bk (names : List Str) (g : Str → Str → Bool) (R P X : List Str) : Prop where
  rn : ∀ a ∈ R, a ∈ names
  rc : Clq g R
  pn : ∀ a ∈ P, a ∈ names ∧ a ∉ R ∧ ∀ b ∈ R, g a b = true
  xn : ∀ a ∈ X, a ∈ names ∧ a ∉ R ∧ ∀ b ∈ R, g a b = true
  all : ∀ a ∈ names, a ∉ R → (∀ b ∈ R, g a b = true) → a ∈ P ∨ a ∈ X
/-- two names that are one are not tied to one another, and it is the same from both sides -/
structure Gr (g : Str → Str → Bool) : Prop where
  sy : ∀ a b, g a b = g b a
  ir : ∀ a, g a a = false
section
variable {names : List Str} {g : Str → Str → Bool} {R P X C : List Str}
theorem Mxc.congr {D : List Str} (h : Mxc names g C) (e : ∀ x, x ∈ C ↔ x ∈ D) : Mxc names g D :=
  ⟨fun x hx => h.sub x ((e x).mpr hx), fun a ha b hb ne => h.clq a ((e a).mpr ha) b ((e b).mpr hb) ne, fun x hx hn => by
    obtain ⟨a, ha, z⟩ := h.max x hx fun k => hn ((e x).mp k)
    exact ⟨a, (e a).mp ha, z⟩⟩
theorem Bk.start : Bk names g [] names [] := ⟨(fun a h => by cases h), (fun a h => by cases h), (fun a h => ⟨h, by simp, fun b h => by cases h⟩), (fun a h => by cases h), fun a h _ _ => .inl h⟩
/-- with a name, or without it -/
theorem Bk.step (h : Bk names g R P X) (G : Gr g) {v : Str} (hv : v ∈ P) : Has names g R P C ↔ (Has names g (R ++ [v]) (P.filter (g v)) C ∨ Has names g R (P.filter fun x => !decide (x = v)) C) := by
  constructor
  · intro k
    by_cases c : v ∈ C
    · refine .inl ⟨k.m, fun a ha => ?_, fun a ha => ?_⟩
      · rcases List.mem_append.mp ha with z | z
        · exact k.r a z
        · rw [List.mem_singleton.mp z]; exact c
      · by_cases e : a = v
        · exact .inl (by rw [e]; simp)
        · rcases k.p a ha with z | z
          · exact .inl (List.mem_append_left _ z)
          · exact .inr (List.mem_filter.mpr ⟨z, k.m.clq v c a ha fun q => e q.symm⟩)
    · refine .inr ⟨k.m, k.r, fun a ha => (k.p a ha).imp_right fun z => List.mem_filter.mpr ⟨z, ?_⟩⟩
      have : a ≠ v := fun e => c (e ▸ ha)
      simp [this]
  · rintro (k | k)
    · refine ⟨k.m, fun a ha => k.r a (List.mem_append_left _ ha), fun a ha => ?_⟩
      rcases k.p a ha with z | z
      · rcases List.mem_append.mp z with z | z
        · exact .inl z
        · rw [List.mem_singleton.mp z]; exact .inr hv
      · exact .inr (List.mem_filter.mp z).1
    · exact ⟨k.m, k.r, fun a ha => (k.p a ha).imp_right fun z => (List.mem_filter.mp z).1⟩
theorem Bk.next (h : Bk names g R P X) {v : Str} (hv : v ∈ P) : Bk names g R (P.filter fun x => !decide (x = v)) (X ++ [v]) := by
  refine ⟨h.rn, h.rc, fun a ha => h.pn a (List.mem_filter.mp ha).1, fun a ha => ?_, fun a ha hn hR => ?_⟩
  · rcases List.mem_append.mp ha with z | z
    · exact h.xn a z
    · rw [List.mem_singleton.mp z]; exact h.pn v hv
  · by_cases e : a = v
    · exact .inr (by rw [e]; simp)
    · exact (h.all a ha hn hR).imp (fun z => List.mem_filter.mpr ⟨z, by simp [e]⟩) fun z => List.mem_append_left _ z
open Classical in
/-- 1 where the row comes of it -/
noncomputable def ind (names : List Str) (g : Str → Str → Bool) (R P C : List Str) : Nat := if Has names g R P C then 1 else 0
end
/-- a list that tells all greatest rows, in order -/
structure AllOf (names : List Str) (g : Str → Str → Bool) (L : List (List Str)) : Prop where
  mem : ∀ r, r ∈ L ↔ r.Sublist names ∧ Mxc names g r
  asc : L.Pairwise fun a b => LS.lexS a b = true
/-! ### the order of tuples of texts -/
theorem lex_irr : ∀ a : List Str, LS.lexS a a = false
  | [] => rfl
  | x :: r => by rw [LS.lexS_cons, if_pos rfl]; exact lex_irr r
theorem lex_tr : ∀ {a b c : List Str}, LS.lexS a b = true → LS.lexS b c = true → LS.lexS a c = true
  | [], b, [], h, k => by cases b <;> cases k
  | [], b, z :: c, h, k => rfl
  | x :: a, [], c, h, k => by cases h
  | x :: a, y :: b, [], h, k => by cases k
  | x :: a, y :: b, z :: c, h, k => by
    rw [LS.lexS_cons] at h k ⊢
    by_cases e1 : x = y
    · subst e1
      rw [if_pos rfl] at h
      by_cases e2 : x = z
      · rw [if_pos e2] at k ⊢
        exact lex_tr h k
      · rw [if_neg e2] at k ⊢
        exact k
    · rw [if_neg e1] at h
      by_cases e2 : y = z
      · subst e2
        rw [if_neg e1]
        exact h
      · rw [if_neg e2] at k
        have l : sLt x z := sLt_trans (of_decide_eq_true h) (of_decide_eq_true k)
        rw [if_neg (sLt_ne l)]
        exact decide_eq_true l
theorem lex_tot : ∀ {a b : List Str}, a ≠ b → LS.lexS a b = true ∨ LS.lexS b a = true
  | [], [], h => absurd rfl h
  | [], _ :: _, _ => .inl rfl
  | _ :: _, [], _ => .inr rfl
  | x :: a, y :: b, h => by
    rw [LS.lexS_cons, LS.lexS_cons]
    by_cases e : x = y
    · subst e
      rw [if_pos rfl, if_pos rfl]
      exact lex_tot fun z => h (by rw [z])
    · rw [if_neg e, if_neg fun z => e z.symm]
      by_cases k : sLt x y
      · exact .inl (decide_eq_true k)
      · by_cases k2 : sLt y x
        · exact .inr (decide_eq_true k2)
        · exact absurd (sLt_tot k k2) e
theorem lex_ext : ∀ {L M : List (List Str)}, L.Pairwise (fun a b => LS.lexS a b = true) → M.Pairwise (fun a b => LS.lexS a b = true) → (∀ r, r ∈ L ↔ r ∈ M) → L = M
  | [], [], _, _, _ => rfl
  | [], m :: M, _, _, h => absurd ((h m).mpr (List.mem_cons_self ..)) (by simp)
  | l :: L, [], _, _, h => absurd ((h l).mp (List.mem_cons_self ..)) (by simp)
  | l :: L, m :: M, hL, hM, h => by
    obtain ⟨l1, l2⟩ := List.pairwise_cons.mp hL
    obtain ⟨m1, m2⟩ := List.pairwise_cons.mp hM
    have e : l = m := by
      rcases List.mem_cons.mp ((h l).mp (List.mem_cons_self ..)) with z | z
      · exact z
      · rcases List.mem_cons.mp ((h m).mpr (List.mem_cons_self ..)) with y | y
        · exact y.symm
        · have := lex_tr (l1 m y) (m1 l z)
          rw [lex_irr] at this
          cases this
    subst e
    rw [lex_ext l2 m2 fun r => ?_]
    constructor
    · intro z
      rcases List.mem_cons.mp ((h r).mp (List.mem_cons_of_mem _ z)) with y | y
      · have := l1 r z
        rw [y, lex_irr] at this
        cases this
      · exact y
    · intro z
      rcases List.mem_cons.mp ((h r).mpr (List.mem_cons_of_mem _ z)) with y | y
      · have := m1 r z
        rw [y, lex_irr] at this
        cases this
      · exact y
theorem AllOf.uniq {names : List Str} {g : Str → Str → Bool} {L M : List (List Str)} (h : AllOf names g L) (k : AllOf names g M) : L = M := lex_ext h.asc k.asc fun r => (h.mem r).trans (k.mem r).symm
end Zm

/-! One row behind another: each greatest row but the first comes of filling from one ahead of it. -/
namespace Zm
open PySem L2 Wd Wm Km Bm Gm Hm Fm Fn PyProof.Rows
section
variable {names : List Str} {g : Str → Str → Bool}
/-- names put in, in order, where they go with all -/
def stG (g : Str → Str → Bool) (h : List Str) (x : Str) : List Str := if (!decide (x ∈ h) && h.all (g x)) = true then h ++ [x] else h
def fillG (g : Str → Str → Bool) (ns h : List Str) : List Str := ns.foldl (stG g) h
theorem stG_mem {h : List Str} {x y : Str} : y ∈ stG g h x ↔ y ∈ h ∨ (y = x ∧ ∀ a ∈ h, g x a = true) := by
  unfold stG
  by_cases c : (!decide (x ∈ h) && h.all (g x)) = true
  · rw [if_pos c]
    rw [Bool.and_eq_true] at c
    rw [List.mem_append, List.mem_singleton]
    exact ⟨fun z => z.imp_right fun e => ⟨e, List.all_eq_true.mp c.2⟩, fun z => z.imp_right fun e => e.1⟩
  · rw [if_neg c]
    refine ⟨.inl, fun z => z.elim id fun ⟨e, k⟩ => ?_⟩
    by_cases m : x ∈ h
    · rw [e]; exact m
    · exact absurd (by rw [Bool.and_eq_true]; exact ⟨by simp [m], List.all_eq_true.mpr k⟩) c
theorem fillG_snoc (ns h : List Str) (x : Str) : fillG g (ns ++ [x]) h = stG g (fillG g ns h) x := by unfold fillG; rw [List.foldl_append]; rfl
theorem fillG_sup : ∀ {ns h : List Str} {y : Str}, y ∈ h → y ∈ fillG g ns h
  | [], h, y, k => k
  | x :: r, h, y, k => fillG_sup (ns := r) (stG_mem.mpr (.inl k))
theorem fillG_src : ∀ {ns h : List Str} {y : Str}, y ∈ fillG g ns h → y ∈ h ∨ y ∈ ns
  | [], h, y, k => .inl k
  | x :: r, h, y, k => by
    rcases fillG_src (ns := r) k with z | z
    · exact (stG_mem.mp z).imp_right fun e => by rw [e.1]; exact List.mem_cons_self ..
    · exact .inr (List.mem_cons_of_mem _ z)
theorem stG_clq (G : Gr g) {h : List Str} {x : Str} (c : Clq g h) : Clq g (stG g h x) := fun a ha b hb ne => by
  rcases stG_mem.mp ha with ha' | ⟨ea, ka⟩ <;> rcases stG_mem.mp hb with hb' | ⟨eb, kb⟩
  · exact c a ha' b hb' ne
  · rw [G.sy, eb]; exact kb a ha'
  · rw [ea]; exact ka b hb'
  · exact absurd (ea.trans eb.symm) ne
theorem fillG_clq (G : Gr g) : ∀ {ns h : List Str}, Clq g h → Clq g (fillG g ns h)
  | [], h, c => c
  | x :: r, h, c => fillG_clq G (ns := r) (stG_clq G c)
/-- what was gone through and is not in does not go with some that is in -/
theorem fillG_out : ∀ {ns h : List Str} {y : Str}, y ∈ ns → y ∉ fillG g ns h → ∃ a ∈ fillG g ns h, g y a = false
  | x :: r, h, y, hy, hn => by
    rcases List.mem_cons.mp hy with e | hy
    · subst e
      by_cases c : ∀ a ∈ h, g y a = true
      · exact absurd (fillG_sup (ns := r) (stG_mem.mpr (.inr ⟨rfl, c⟩))) hn
      · obtain ⟨a, ha⟩ := Classical.not_forall.mp c
        obtain ⟨ha, k⟩ := Classical.not_imp.mp ha
        exact ⟨a, fillG_sup (ns := r) (stG_mem.mpr (.inl ha)), Bool.eq_false_iff.mpr k⟩
    · exact fillG_out (ns := r) hy hn
theorem fillG_mxc (G : Gr g) {h : List Str} (sub : ∀ x ∈ h, x ∈ names) (c : Clq g h) : Mxc names g (fillG g names h) :=
  ⟨fun x hx => (fillG_src hx).elim (sub x) id, fillG_clq G c, fun x hx hn => fillG_out hx hn⟩
/-- a row that has the least name of those that are in one alone lies ahead -/
theorem lex_first : ∀ {T S : List Str} {d s : Str}, T.Pairwise sLt → S.Pairwise sLt → d ∈ T → d ∉ S → s ∈ S → sLt d s → (∀ y, sLt y d → (y ∈ T ↔ y ∈ S)) → LS.lexS T S = true
  | [], S, d, s, _, _, h, _, _, _, _ => by cases h
  | t :: T, [], d, s, _, _, _, _, h, _, _ => by cases h
  | t :: T, x :: S, d, s, hT, hS, hd, hn, hs, ds, al => by
    obtain ⟨t1, t2⟩ := List.pairwise_cons.mp hT
    obtain ⟨x1, x2⟩ := List.pairwise_cons.mp hS
    rw [LS.lexS_cons]
    by_cases e : t = x
    · subst e
      rw [if_pos rfl]
      have nd : d ≠ t := fun z => hn (by rw [z]; exact List.mem_cons_self ..)
      have dT : d ∈ T := (List.mem_cons.mp hd).resolve_left nd
      have td := t1 d dT
      have sS : s ∈ S := (List.mem_cons.mp hs).resolve_left fun z => sLt_irr _ (sLt_trans td (z ▸ ds))
      refine lex_first t2 x2 dT (fun z => hn (List.mem_cons_of_mem _ z)) sS ds fun y hy => ?_
      have := al y hy
      constructor
      · intro z
        have := this.mp (List.mem_cons_of_mem _ z)
        exact (List.mem_cons.mp this).resolve_left fun q => sLt_irr _ (q ▸ t1 y z)
      · intro z
        have := this.mpr (List.mem_cons_of_mem _ z)
        exact (List.mem_cons.mp this).resolve_left fun q => sLt_irr _ (q ▸ x1 y z)
    · rw [if_neg e]
      have key : sLt t x := by
        rcases List.mem_cons.mp hd with z | z
        · subst z
          rcases List.mem_cons.mp hs with q | q
          · exact q ▸ ds
          · by_cases k : sLt d x
            · exact k
            · by_cases k2 : sLt x d
              · have := (al x k2).mpr (List.mem_cons_self ..)
                rcases List.mem_cons.mp this with q2 | q2
                · exact absurd q2.symm e
                · exact absurd (sLt_trans k2 (t1 x q2)) (sLt_irr _)
              · exact absurd (sLt_tot k k2) e
        · have td := t1 d z
          have tS := (al t td).mp (List.mem_cons_self ..)
          rcases List.mem_cons.mp tS with q | q
          · exact absurd q e
          · have xt := x1 t q
            have xT := (al x (sLt_trans xt td)).mpr (List.mem_cons_self ..)
            rcases List.mem_cons.mp xT with q2 | q2
            · exact absurd q2.symm e
            · exact absurd (sLt_trans xt (t1 x q2)) (sLt_irr _)
      exact decide_eq_true key
/-- the rows of the first places -/
def upTo (names S : List Str) (k : Nat) : List Str := (names.take k).filter fun x => decide (x ∈ S)
theorem mem_upTo {S : List Str} {k : Nat} {x : Str} : x ∈ upTo names S k ↔ x ∈ names.take k ∧ x ∈ S := by unfold upTo; rw [List.mem_filter]; simp
/-- a last place with a property -/
theorem last_such (p : Nat → Prop) : ∀ n, (∃ k, k ≤ n ∧ p k) → ∃ k, k ≤ n ∧ p k ∧ ∀ j, k < j → j ≤ n → ¬ p j
  | 0, ⟨k, hk, h⟩ => ⟨k, hk, h, fun j h1 h2 => by omega⟩
  | n + 1, ⟨k, hk, h⟩ => by
    by_cases c : p (n + 1)
    · exact ⟨n + 1, Nat.le_refl _, c, fun j h1 h2 => by omega⟩
    · have hk' : k ≤ n := by
        by_cases e : k = n + 1
        · rw [e] at h; exact absurd h c
        · omega
      obtain ⟨k2, a, b, d⟩ := last_such p n ⟨k, hk', h⟩
      exact ⟨k2, by omega, b, fun j h1 h2 => by
        by_cases e : j = n + 1
        · rw [e]; exact c
        · exact d j h1 (by omega)⟩
/-- no name ahead of x, or x, can be put to the row -/
def Full (names : List Str) (g : Str → Str → Bool) (A : List Str) (x : Str) : Prop := ∀ y ∈ names, sLt y x → y ∉ A → ∃ a ∈ A, g y a = false
/-- what a told row gives for a name -/
def behindA (g : Str → Str → Bool) (T : List Str) (x : Str) : List Str := (T.filter fun y => decide (y.cps.toList < x.cps.toList) && g x y) ++ [x]
theorem mem_behind {T : List Str} {x y : Str} : y ∈ behindA g T x ↔ (y ∈ T ∧ sLt y x ∧ g x y = true) ∨ y = x := by
  unfold behindA
  rw [List.mem_append, List.mem_filter, List.mem_singleton, Bool.and_eq_true, decide_eq_true_eq]
  exact Iff.rfl
theorem take_lt {k : Nat} {x y : Str} (h : names.Pairwise sLt) (hx : names[k]? = some x) (hy : y ∈ names) : y ∈ names.take k ↔ sLt y x := by
  obtain ⟨j, hj⟩ := List.getElem?_of_mem hy
  constructor
  · intro z
    obtain ⟨i, hi⟩ := List.getElem?_of_mem z
    rw [List.getElem?_take] at hi
    split at hi
    · rename_i ik
      exact at_lt h ik hi hx
    · cases hi
  · intro z
    have jk : j < k := by
      by_cases c : j < k
      · exact c
      · by_cases e : j = k
        · subst e
          rw [hx] at hj
          cases hj
          exact absurd z (sLt_irr _)
        · exact absurd (sLt_trans z (at_lt h (by omega : k < j) hx hj)) (sLt_irr _)
    exact List.mem_of_getElem? (i := j) (by rw [List.getElem?_take, if_pos jk]; exact hj)
/-- each greatest row but the one that comes of filling () comes of filling what a row ahead of it gives for a name -/
theorem jyp (G : Gr g) (hs : names.Pairwise sLt) {S : List Str} (sub : S.Sublist names) (m : Mxc names g S) (ne : ¬ ∀ x, x ∈ fillG g names [] ↔ x ∈ S) :
    ∃ T x, T.Sublist names ∧ Mxc names g T ∧ LS.lexS T S = true ∧ x ∈ names ∧ x ∉ T ∧ Full names g (behindA g T x) x ∧ ∀ y, y ∈ fillG g names (behindA g T x) ↔ y ∈ S := by
  have hS : S.Pairwise sLt := hs.sublist sub
  -- where the first places of S are not greatest among the first places
  let bad : Nat → Prop := fun k => ∃ y ∈ names.take k, y ∉ S ∧ ∀ a ∈ S, a ∈ names.take k → g y a = true
  have hex : ∃ k, k ≤ names.length ∧ bad k := by
    by_cases c : ∃ k, k ≤ names.length ∧ bad k
    · exact c
    · refine absurd ?_ ne
      have good : ∀ k, k ≤ names.length → ¬ bad k := fun k hk z => c ⟨k, hk, z⟩
      have key : ∀ k, k ≤ names.length → ∀ y, y ∈ fillG g (names.take k) [] ↔ (y ∈ names.take k ∧ y ∈ S) := by
        intro k
        induction k with
        | zero => intro _ y; rw [List.take_zero]; simp [fillG]
        | succ k ih =>
          intro hk y
          obtain ⟨x, hx⟩ : ∃ x, names[k]? = some x := ⟨names[k], List.getElem?_eq_getElem (by omega)⟩
          have tk : names.take (k + 1) = names.take k ++ [x] := by rw [List.take_succ, hx]; rfl
          have ihk := ih (by omega)
          rw [tk, fillG_snoc, stG_mem, ihk, List.mem_append, List.mem_singleton]
          constructor
          · rintro (⟨a, b⟩ | ⟨rfl, k2⟩)
            · exact ⟨.inl a, b⟩
            · refine ⟨.inr rfl, ?_⟩
              by_cases ys : y ∈ S
              · exact ys
              · refine absurd ⟨y, by rw [tk]; simp, ys, fun a ha hat => ?_⟩ (good (k + 1) hk)
                rw [tk] at hat
                rcases List.mem_append.mp hat with z | z
                · exact k2 a ((ihk a).mpr ⟨z, ha⟩)
                · rw [List.mem_singleton.mp z] at ha; exact absurd ha ys
          · rintro ⟨a | rfl, b⟩
            · exact .inl ⟨a, b⟩
            · refine .inr ⟨rfl, fun a ha => ?_⟩
              obtain ⟨a1, a2⟩ := (ihk a).mp ha
              refine m.clq y b a a2 fun e => ?_
              rw [← e] at a1
              exact sLt_irr _ ((take_lt hs hx (m.sub y b)).mp a1)
      intro x
      have := key names.length (Nat.le_refl _) x
      rw [List.take_length] at this
      rw [this]
      exact ⟨fun z => z.2, fun z => ⟨m.sub x z, z⟩⟩
  obtain ⟨k, hk, ⟨s0, s0t, s0S, s0g⟩, hgood⟩ := last_such bad names.length hex
  have hkl : k < names.length := by
    by_cases e : k = names.length
    · subst e
      rw [List.take_length] at s0t s0g
      obtain ⟨a, ha, z⟩ := m.max s0 s0t s0S
      rw [s0g a ha (m.sub a ha)] at z
      cases z
    · omega
  obtain ⟨x, hx⟩ : ∃ x, names[k]? = some x := ⟨names[k], List.getElem?_eq_getElem hkl⟩
  have xn : x ∈ names := List.mem_of_getElem? hx
  have tk : names.take (k + 1) = names.take k ++ [x] := by rw [List.take_succ, hx]; rfl
  have good1 := hgood (k + 1) (by omega) (by omega)
  -- x is in S
  have xS : x ∈ S := by
    by_cases c : x ∈ S
    · exact c
    · refine absurd ⟨s0, by rw [tk]; exact List.mem_append_left _ s0t, s0S, fun a ha hat => ?_⟩ good1
      rw [tk] at hat
      rcases List.mem_append.mp hat with z | z
      · exact s0g a ha z
      · rw [List.mem_singleton.mp z] at ha; exact absurd ha c
  -- what goes with the first places of S does not go with x
  have notx : ∀ y ∈ names.take k, y ∉ S → (∀ a ∈ S, a ∈ names.take k → g y a = true) → g y x = false := fun y hy yS hyg => by
    cases c : g y x
    · rfl
    · refine absurd ⟨y, by rw [tk]; exact List.mem_append_left _ hy, yS, fun a ha hat => ?_⟩ good1
      rw [tk] at hat
      rcases List.mem_append.mp hat with z | z
      · exact hyg a ha z
      · rw [List.mem_singleton.mp z]; exact c
  -- T
  have cS : Clq g (upTo names S k) := fun a ha b hb ne => m.clq a (mem_upTo.mp ha).2 b (mem_upTo.mp hb).2 ne
  generalize hB : fillG g (names.take k) (upTo names S k) = B
  have Bsup : ∀ y, y ∈ upTo names S k → y ∈ B := fun y hy => by rw [← hB]; exact fillG_sup hy
  have Bsrc : ∀ y ∈ B, y ∈ names.take k := fun y hy => by
    rw [← hB] at hy
    exact (fillG_src hy).elim (fun z => (mem_upTo.mp z).1) id
  have Bclq : Clq g B := by rw [← hB]; exact fillG_clq G cS
  have Bout : ∀ y ∈ names.take k, y ∉ B → ∃ a ∈ B, g y a = false := fun y hy hn => by
    rw [← hB] at hn ⊢
    exact fillG_out hy hn
  have Bsub : ∀ y ∈ B, y ∈ names := fun y hy => List.mem_of_mem_take (Bsrc y hy)
  have mT := fillG_mxc (names := names) G Bsub Bclq
  generalize hT0 : fillG g names B = T0 at mT
  have T0sup : ∀ y ∈ B, y ∈ T0 := fun y hy => by rw [← hT0]; exact fillG_sup hy
  -- T in order
  have eT : ∀ y, y ∈ kN names T0 ↔ y ∈ T0 := fun y => by rw [mem_kN]; exact ⟨fun z => z.2, fun z => ⟨mT.sub y z, z⟩⟩
  have mT' : Mxc names g (kN names T0) := mT.congr fun y => (eT y).symm
  have sT : (kN names T0).Sublist names := kN_sub _ _
  have hT : (kN names T0).Pairwise sLt := hs.sublist sT
  have Tk : ∀ y ∈ names.take k, y ∈ T0 ↔ y ∈ B := fun y hy => by
    refine ⟨fun z => ?_, T0sup y⟩
    by_cases c : y ∈ B
    · exact c
    · obtain ⟨a, ha, q⟩ := Bout y hy c
      have : g y a = true := mT.clq y z a (T0sup a ha) fun e => c (e ▸ ha)
      rw [this] at q
      cases q
  -- s1 in B, not in S
  have hs1 : ∃ s1, s1 ∈ B ∧ s1 ∉ S := by
    by_cases c : s0 ∈ B
    · exact ⟨s0, c, s0S⟩
    · obtain ⟨a, ha, q⟩ := Bout s0 s0t c
      refine ⟨a, ha, fun z => ?_⟩
      rw [s0g a z (Bsrc a ha)] at q
      cases q
  have Bg : ∀ y ∈ B, y ∉ S → g y x = false := fun y hy yS => notx y (Bsrc y hy) yS fun a ha hat => Bclq y hy a (Bsup a (mem_upTo.mpr ⟨hat, ha⟩)) fun e => yS (e ▸ ha)
  obtain ⟨s1, s1B, s1S⟩ := hs1
  have xT : x ∉ T0 := fun z => by
    have := mT.clq s1 (T0sup s1 s1B) x z fun e => s1S (e ▸ xS)
    rw [Bg s1 s1B s1S] at this
    cases this
  -- the least of B that is not in S
  obtain ⟨d, dB, dS, dmin⟩ : ∃ d, d ∈ B ∧ d ∉ S ∧ ∀ y ∈ B, sLt y d → y ∈ S := by
    have : ∀ (l : List Str), l.Pairwise sLt → (∃ y ∈ l, y ∈ B ∧ y ∉ S) → ∃ d ∈ l, (d ∈ B ∧ d ∉ S) ∧ ∀ y ∈ l, y ∈ B → sLt y d → y ∈ S := by
      intro l
      induction l with
      | nil => rintro _ ⟨y, h, _⟩; cases h
      | cons y r ih =>
        intro hl ⟨z, hz, zB, zS⟩
        obtain ⟨l1, l2⟩ := List.pairwise_cons.mp hl
        by_cases c : y ∈ B ∧ y ∉ S
        · refine ⟨y, List.mem_cons_self .., c, fun w hw _ lt => ?_⟩
          rcases List.mem_cons.mp hw with e | hw
          · rw [e] at lt; exact absurd lt (sLt_irr _)
          · exact absurd (sLt_trans lt (l1 w hw)) (sLt_irr _)
        · have hz' : z ∈ r := (List.mem_cons.mp hz).resolve_left fun e => c (e ▸ ⟨zB, zS⟩)
          obtain ⟨d, hd, h1, h2⟩ := ih l2 ⟨z, hz', zB, zS⟩
          refine ⟨d, List.mem_cons_of_mem _ hd, h1, fun w hw wB lt => ?_⟩
          rcases List.mem_cons.mp hw with e | hw
          · by_cases ws : w ∈ S
            · exact ws
            · exact absurd (e ▸ ⟨wB, ws⟩) c
          · exact h2 w hw wB lt
    obtain ⟨d, hd, ⟨h1, h2⟩, h3⟩ := this names hs ⟨s1, Bsub s1 s1B, s1B, s1S⟩
    exact ⟨d, h1, h2, fun y hy lt => h3 y (Bsub y hy) hy lt⟩
  have dx : sLt d x := (take_lt hs hx (Bsub d dB)).mp (Bsrc d dB)
  have ahead : LS.lexS (kN names T0) S = true := by
    refine lex_first hT hS ((eT d).mpr (T0sup d dB)) dS xS dx fun y hy => ?_
    rw [eT]
    constructor
    · intro z
      have yt : y ∈ names.take k := (take_lt hs hx (mT.sub y z)).mpr (sLt_trans hy dx)
      exact dmin y ((Tk y yt).mp z) hy
    · intro z
      have yt : y ∈ names.take k := (take_lt hs hx (m.sub y z)).mpr (sLt_trans hy dx)
      exact T0sup y (Bsup y (mem_upTo.mpr ⟨yt, z⟩))
  -- what it gives for x
  have A : ∀ y, y ∈ behindA g (kN names T0) x ↔ y ∈ names.take (k + 1) ∧ y ∈ S := fun y => by
    rw [mem_behind, eT, tk, List.mem_append, List.mem_singleton]
    constructor
    · rintro (⟨z, lt, gx⟩ | rfl)
      · have yt := (take_lt hs hx (mT.sub y z)).mpr lt
        refine ⟨.inl yt, ?_⟩
        by_cases ys : y ∈ S
        · exact ys
        · have := Bg y ((Tk y yt).mp z) ys
          rw [G.sy, gx] at this
          cases this
      · exact ⟨.inr rfl, xS⟩
    · rintro ⟨yt | rfl, ys⟩
      · have lt := (take_lt hs hx (m.sub y ys)).mp yt
        exact .inl ⟨T0sup y (Bsup y (mem_upTo.mpr ⟨yt, ys⟩)), lt, m.clq x xS y ys fun e => sLt_irr _ (e ▸ lt)⟩
      · exact .inr rfl
  refine ⟨kN names T0, x, sT, mT', ahead, xn, fun z => xT ((eT x).mp z), fun y hy lt yA => ?_, ?_⟩
  · have yt := (take_lt hs hx hy).mpr lt
    have ys : y ∉ S := fun z => yA ((A y).mpr ⟨by rw [tk]; exact List.mem_append_left _ yt, z⟩)
    by_cases c : ∃ a ∈ behindA g (kN names T0) x, g y a = false
    · exact c
    · refine absurd ⟨y, by rw [tk]; exact List.mem_append_left _ yt, ys, fun a ha hat => ?_⟩ good1
      cases q : g y a
      · exact absurd ⟨a, (A a).mpr ⟨hat, ha⟩, q⟩ c
      · rfl
  · have key : ∀ j, j ≤ names.length → ∀ y, y ∈ fillG g (names.take j) (behindA g (kN names T0) x) ↔ (y ∈ names.take (k + 1) ∧ y ∈ S) ∨ (y ∈ names.take j ∧ y ∈ S) := by
      intro j
      induction j with
      | zero => intro _ y; rw [List.take_zero]; simp [fillG, A]
      | succ j ih =>
        intro hj y
        obtain ⟨z, hz⟩ : ∃ z, names[j]? = some z := ⟨names[j], List.getElem?_eq_getElem (by omega)⟩
        have tj : names.take (j + 1) = names.take j ++ [z] := by rw [List.take_succ, hz]; rfl
        have ihj := ih (by omega)
        have zn : z ∈ names := List.mem_of_getElem? hz
        rw [tj, fillG_snoc, stG_mem, ihj, List.mem_append, List.mem_singleton]
        constructor
        · rintro ((h1 | ⟨h1, h2⟩) | ⟨rfl, kk⟩)
          · exact .inl h1
          · exact .inr ⟨.inl h1, h2⟩
          · refine .inr ⟨.inr rfl, ?_⟩
            by_cases ys : y ∈ S
            · exact ys
            · by_cases c : j ≤ k
              · -- among the first places
                refine absurd ⟨y, ?_, ys, fun a ha hat => kk a ((ihj a).mpr (.inl ⟨hat, ha⟩))⟩ good1
                exact List.mem_of_getElem? (i := j) (by rw [List.getElem?_take, if_pos (by omega)]; exact hz)
              · refine absurd ⟨y, by rw [tj]; simp, ys, fun a ha hat => ?_⟩ (hgood (j + 1) (by omega) hj)
                rw [tj] at hat
                rcases List.mem_append.mp hat with q | q
                · exact kk a ((ihj a).mpr (.inr ⟨q, ha⟩))
                · rw [List.mem_singleton.mp q] at ha; exact absurd ha ys
        · rintro (h1 | ⟨h1 | rfl, h2⟩)
          · exact .inl (.inl h1)
          · exact .inl (.inr ⟨h1, h2⟩)
          · by_cases c : y ∈ names.take (k + 1)
            · exact .inl (.inl ⟨c, h2⟩)
            · refine .inr ⟨rfl, fun a ha => ?_⟩
              have aS : a ∈ S := ((ihj a).mp ha).elim (fun q => q.2) fun q => q.2
              refine m.clq y h2 a aS fun e => ?_
              rcases (ihj a).mp ha with q | q
              · exact c (e ▸ q.1)
              · have := (take_lt hs hz (m.sub a aS)).mp q.1
                rw [e] at this
                exact sLt_irr _ this
    intro y
    have := key names.length (Nat.le_refl _) y
    rw [List.take_length] at this
    rw [this]
    exact ⟨fun z => z.elim (fun q => q.2) fun q => q.2, fun z => .inr ⟨m.sub y z, z⟩⟩
end
end Zm

/-! Closed lists are all; what waits in a walk. -/
namespace Zm
open PySem L2 Wd Wm Km Bm Gm Hm Fm Fn PyProof.Rows
section
variable {names : List Str} {g : Str → Str → Bool} {D : List (List Str)}
/-- filled, in order -/
def filG (names : List Str) (g : Str → Str → Bool) (r : List Str) : List Str := kN names (fillG g names r)
/-- what a told row gives for a name, filled -/
def giv (names : List Str) (g : Str → Str → Bool) (T : List Str) (x : Str) : List Str := filG names g (behindA g T x)
/-- that it does -/
def Val (names : List Str) (g : Str → Str → Bool) (T : List Str) (x : Str) : Prop := x ∈ names ∧ x ∉ T ∧ Full names g (behindA g T x) x
theorem fil_row (G : Gr g) {r : List Str} (sub : ∀ x ∈ r, x ∈ names) (c : Clq g r) : (filG names g r).Sublist names ∧ Mxc names g (filG names g r) := by
  have m := fillG_mxc (names := names) G sub c
  exact ⟨kN_sub _ _, m.congr fun y => by unfold filG; rw [mem_kN]; exact ⟨fun z => ⟨m.sub y z, z⟩, fun z => z.2⟩⟩
theorem behind_row (G : Gr g) {T : List Str} {x : Str} (m : Mxc names g T) (hx : x ∈ names) : (∀ y ∈ behindA g T x, y ∈ names) ∧ Clq g (behindA g T x) := by
  refine ⟨fun y hy => ?_, fun a ha b hb ne => ?_⟩
  · rcases mem_behind.mp hy with z | z
    · exact m.sub y z.1
    · rw [z]; exact hx
  · rcases mem_behind.mp ha with a1 | a1 <;> rcases mem_behind.mp hb with b1 | b1
    · exact m.clq a a1.1 b b1.1 ne
    · rw [b1, G.sy]; exact a1.2.2
    · rw [a1]; exact b1.2.2
    · exact absurd (a1.trans b1.symm) ne
theorem giv_row (G : Gr g) {T : List Str} {x : Str} (m : Mxc names g T) (hx : x ∈ names) : (giv names g T x).Sublist names ∧ Mxc names g (giv names g T x) :=
  fil_row G (behind_row G m hx).1 (behind_row G m hx).2
theorem fil_eq (G : Gr g) (hs : names.Pairwise sLt) {r S : List Str} (sS : S.Sublist names) (e : ∀ y, y ∈ fillG g names r ↔ y ∈ S) : filG names g r = S := by
  refine s_ext (hs.sublist (kN_sub _ _)) (hs.sublist sS) fun y => ?_
  unfold filG
  rw [mem_kN, e]
  exact ⟨fun z => z.2, fun z => ⟨sS.subset z, z⟩⟩
theorem AllOf.nodup (A : AllOf names g D) : D.Nodup := List.nodup_iff_pairwise_ne.mpr (List.Pairwise.imp (fun {a b} h e => by rw [e, lex_irr] at h; cases h) A.asc)
theorem AllOf.at_lt (A : AllOf names g D) {i j : Nat} {a b : List Str} (hi : D[i]? = some a) (hj : D[j]? = some b) (h : LS.lexS a b = true) : i < j := by
  by_cases c : i < j
  · exact c
  · exfalso
    by_cases e : i = j
    · subst e
      rw [hi] at hj
      cases hj
      rw [lex_irr] at h
      cases h
    · have hl : j < i := by omega
      have hi' := (List.getElem?_eq_some_iff.mp hi)
      have hj' := (List.getElem?_eq_some_iff.mp hj)
      have := List.pairwise_iff_getElem.mp A.asc j i hj'.1 hi'.1 hl
      rw [hi'.2, hj'.2] at this
      have := lex_tr h this
      rw [lex_irr] at this
      cases this
theorem AllOf.lt_at (A : AllOf names g D) {i j : Nat} {a b : List Str} (hi : D[i]? = some a) (hj : D[j]? = some b) (h : i < j) : LS.lexS a b = true := by
  have hi' := (List.getElem?_eq_some_iff.mp hi)
  have hj' := (List.getElem?_eq_some_iff.mp hj)
  have := List.pairwise_iff_getElem.mp A.asc i j hi'.1 hj'.1 h
  rw [hi'.2, hj'.2] at this
  exact this
/-- each row of all is the first, or comes of one ahead -/
theorem AllOf.from (A : AllOf names g D) (G : Gr g) (hs : names.Pairwise sLt) {i : Nat} {S : List Str} (hi : D[i]? = some S) : S = filG names g [] ∨ ∃ j T x, j < i ∧ D[j]? = some T ∧ Val names g T x ∧ giv names g T x = S := by
  obtain ⟨sS, mS⟩ := (A.mem S).mp (List.mem_of_getElem? hi)
  by_cases c : ∀ x, x ∈ fillG g names [] ↔ x ∈ S
  · exact .inl (fil_eq G hs sS c).symm
  · obtain ⟨T, x, sT, mT, lt, xn, xT, fu, e⟩ := jyp G hs sS mS c
    obtain ⟨j, hj⟩ := List.getElem?_of_mem ((A.mem T).mpr ⟨sT, mT⟩)
    exact .inr ⟨j, T, x, A.at_lt hj hi lt, hj, ⟨xn, xT, fu⟩, fil_eq G hs sS e⟩
/-- a closed list has all -/
theorem closed_all (A : AllOf names g D) (G : Gr g) (hs : names.Pairwise sLt) {L : List (List Str)} (h0 : filG names g [] ∈ L) (cl : ∀ T ∈ L, ∀ x, Val names g T x → giv names g T x ∈ L) : ∀ S ∈ D, S ∈ L := by
  have key : ∀ (n i : Nat) (S : List Str), i < n → D[i]? = some S → S ∈ L := by
    intro n
    induction n with
    | zero => intro i S h; omega
    | succ n ih =>
      intro i S h hi
      rcases A.from G hs hi with e | ⟨j, T, x, ji, hj, v, e⟩
      · rw [e]; exact h0
      · rw [← e]
        exact cl T (ih j T (by omega) hj) x v
  intro S hS
  obtain ⟨i, hi⟩ := List.getElem?_of_mem hS
  exact key (i + 1) i S (by omega) hi
/-- what has come by the first k told rows -/
def Come (names : List Str) (g : Str → Str → Bool) (D : List (List Str)) (k : Nat) (r : List Str) : Prop := r = filG names g [] ∨ ∃ j T x, j < k ∧ D[j]? = some T ∧ Val names g T x ∧ r = giv names g T x
/-- what waits behind k tellings -/
structure Wk (names : List Str) (g : Str → Str → Bool) (D : List (List Str)) (k : Nat) (W : List (List Str)) : Prop where
  nd : W.Nodup
  mem : ∀ r, r ∈ W ↔ Come names g D k r ∧ r ∉ D.take k
theorem Come.row (A : AllOf names g D) (G : Gr g) {k : Nat} {r : List Str} (h : Come names g D k r) : r ∈ D := by
  refine (A.mem r).mpr ?_
  rcases h with e | ⟨j, T, x, _, hj, v, e⟩
  · rw [e]; exact fil_row G (fun x hx => by cases hx) (fun a ha => by cases ha)
  · rw [e]; exact giv_row G ((A.mem T).mp (List.mem_of_getElem? hj)).2 v.1
theorem Wk.start (A : AllOf names g D) : Wk names g D 0 [filG names g []] := ⟨by simp, fun r => by
  rw [List.mem_singleton, List.take_zero]
  exact ⟨fun e => ⟨.inl e, by simp⟩, fun ⟨h, _⟩ => h.elim id fun ⟨j, _, _, hj, _⟩ => absurd hj (by omega)⟩⟩
/-- the next one waits, and no other one is ahead -/
theorem Wk.next (A : AllOf names g D) (G : Gr g) (hs : names.Pairwise sLt) {k : Nat} {W : List (List Str)} (h : Wk names g D k W) {S : List Str} (hk : D[k]? = some S) : S ∈ W ∧ ∀ r ∈ W, r = S ∨ LS.lexS S r = true := by
  have nt : S ∉ D.take k := fun z => by
    obtain ⟨i, hi⟩ := List.getElem?_of_mem z
    rw [List.getElem?_take] at hi
    split at hi
    · rename_i ik
      have := (List.getElem?_inj (by have := (List.getElem?_eq_some_iff.mp hi).1; omega : i < D.length) A.nodup).mp (hi.trans hk.symm)
      omega
    · cases hi
  refine ⟨(h.mem S).mpr ⟨?_, nt⟩, fun r hr => ?_⟩
  · rcases A.from G hs hk with e | ⟨j, T, x, jk, hj, v, e⟩
    · exact .inl e
    · exact .inr ⟨j, T, x, jk, hj, v, e.symm⟩
  · obtain ⟨hc, hn⟩ := (h.mem r).mp hr
    obtain ⟨i, hi⟩ := List.getElem?_of_mem (hc.row A G)
    by_cases e : i = k
    · subst e
      rw [hk] at hi
      exact .inl (Option.some.inj hi).symm
    · by_cases c : i < k
      · exact absurd (List.mem_of_getElem? (i := i) (by rw [List.getElem?_take, if_pos c]; exact hi)) hn
      · exact .inr (A.lt_at hk hi (by omega))
theorem Wk.end (A : AllOf names g D) (G : Gr g) {k : Nat} {W : List (List Str)} (h : Wk names g D k W) (hk : D.length ≤ k) : W = [] := by
  cases W with
  | nil => rfl
  | cons r W =>
    obtain ⟨hc, hn⟩ := (h.mem r).mp (List.mem_cons_self ..)
    rw [List.take_of_length_le hk] at hn
    exact absurd (hc.row A G) hn
theorem Wk.empty_iff (A : AllOf names g D) (G : Gr g) (hs : names.Pairwise sLt) {k : Nat} {W : List (List Str)} (h : Wk names g D k W) : W = [] ↔ D.length ≤ k := by
  refine ⟨fun e => ?_, h.end A G⟩
  by_cases c : D.length ≤ k
  · exact c
  · obtain ⟨S, hS⟩ : ∃ S, D[k]? = some S := ⟨D[k]'(by omega), List.getElem?_eq_getElem (by omega)⟩
    have := (h.next A G hs hS).1
    rw [e] at this
    cases this
/-- behind a telling: what waited but the told one, and what the told one gives that neither waits nor was told -/
theorem Wk.step {k : Nat} {W W' : List (List Str)} (h : Wk names g D k W) {S : List Str} (hk : D[k]? = some S) (nd : W'.Nodup) (mem : ∀ r, r ∈ W' ↔ (r ∈ W ∧ r ≠ S) ∨ ((∃ x, Val names g S x ∧ r = giv names g S x) ∧ r ∉ D.take (k + 1))) : Wk names g D (k + 1) W' := by
  have tk : D.take (k + 1) = D.take k ++ [S] := by rw [List.take_succ, hk]; rfl
  refine ⟨nd, fun r => (mem r).trans ?_⟩
  rw [h.mem]
  constructor
  · rintro (⟨⟨hc, hn⟩, ne⟩ | ⟨⟨x, v, e⟩, hn⟩)
    · refine ⟨hc.imp_right fun ⟨j, T, x, hj, z⟩ => ⟨j, T, x, by omega, z⟩, fun z => ?_⟩
      rw [tk] at z
      exact (List.mem_append.mp z).elim hn fun q => ne (List.mem_singleton.mp q)
    · exact ⟨.inr ⟨k, S, x, by omega, hk, v, e⟩, hn⟩
  · rintro ⟨hc, hn⟩
    have hn' := hn
    rw [tk] at hn
    have n1 : r ∉ D.take k := fun z => hn (List.mem_append_left _ z)
    have n2 : r ≠ S := fun z => hn (List.mem_append_right _ (by rw [z]; simp))
    rcases hc with e | ⟨j, T, x, hj, hT, v, e⟩
    · exact .inl ⟨⟨.inl e, n1⟩, n2⟩
    · by_cases c : j = k
      · subst c
        rw [hk] at hT
        cases hT
        exact .inr ⟨⟨x, v, e⟩, hn'⟩
      · exact .inl ⟨⟨.inr ⟨j, T, x, by omega, hT, v, e⟩, n1⟩, n2⟩
theorem Wk.perm {k : Nat} {W W' : List (List Str)} (h : Wk names g D k W) (h' : Wk names g D k W') : W.Perm W' := (List.perm_ext_iff_of_nodup h.nd h'.nd).mpr fun r => (h.mem r).trans (h'.mem r).symm
end
end Zm

/-! The same of the kinds. -/
namespace Zm
open PySem L2 Wd Wm Km Bm Gm Hm Fm Fn PyProof.Rows
def gK (ties : List SS) (kd : Kd) (a b : Str) : Bool := !decide (a = b) && (decide (Tie ties a b) == want kd)
section
variable {names : List Str} {ties : List SS} {kd : Kd}
theorem gr_K (ties : List SS) (kd : Kd) : Gr (gK ties kd) := ⟨fun a b => by
    unfold gK
    have e1 : decide (a = b) = decide (b = a) := decide_eq_decide.mpr eq_comm
    have e2 : decide (Tie ties a b) = decide (Tie ties b a) := decide_eq_decide.mpr ⟨Tie.symm, Tie.symm⟩
    rw [e1, e2], fun a => by unfold gK; simp⟩
theorem gK_iff {a b : Str} (ne : a ≠ b) : gK ties kd a b = true ↔ (Tie ties a b ↔ want kd = true) := by
  unfold gK
  rw [decide_eq_false ne, Bool.not_false, Bool.true_and]
  cases hw : want kd <;> by_cases t : Tie ties a b <;> simp [t]
theorem clq_K (w : WebOk names ties) (hk : kd ≠ .C) {xs : List Str} : Clq (gK ties kd) xs ↔ isK ties kd xs := by
  cases kd with
  | T => exact ⟨fun h a ha b hb ne => ((gK_iff ne).mp (h a ha b hb ne)).mpr rfl, fun h a ha b hb ne => (gK_iff ne).mpr ⟨fun _ => rfl, fun _ => h a ha b hb ne⟩⟩
  | A =>
    refine ⟨fun h a ha b hb t => ?_, fun h a ha b hb ne => (gK_iff ne).mpr ⟨fun t => absurd t (h a ha b hb), fun z => by cases z⟩⟩
    have ne : a ≠ b := fun e => tie_irr w a (by rw [← e] at t; exact t)
    have := ((gK_iff ne).mp (h a ha b hb ne)).mp t
    cases this
  | C => exact absurd rfl hk
theorem goB_K {x : Str} {ys : List Str} (nx : x ∉ ys) : goB ties kd x ys = ys.all (gK ties kd x) := by
  unfold goB
  rw [List.all_map]
  induction ys with
  | nil => rfl
  | cons y r ih =>
    rw [List.all_cons, List.all_cons, ih fun z => nx (List.mem_cons_of_mem _ z)]
    congr 1
    have ne : x ≠ y := fun e => nx (by rw [e]; exact List.mem_cons_self ..)
    unfold gK
    rw [decide_eq_false ne]
    cases hw : want kd <;> by_cases t : Tie ties x y <;> simp [t, Function.comp]
theorem st_K {h : List Str} {x : Str} : stF ties kd h x = stG (gK ties kd) h x := by
  unfold stF stG
  by_cases c : x ∈ h
  · rw [decide_eq_true c]; rfl
  · rw [goB_K c]
theorem fill_K : ∀ {ns h : List Str}, fillL ties kd ns h = fillG (gK ties kd) ns h
  | [], h => rfl
  | x :: r, h => by
    show fillL ties kd r (stF ties kd h x) = fillG (gK ties kd) r (stG (gK ties kd) h x)
    rw [st_K]
    exact fill_K (ns := r)
theorem fil_K' (hk : kd ≠ .C) {row : List Str} : filL names ties kd row = filG names (gK ties kd) row := by
  rw [fil_no hk, fill_K]
  rfl
theorem mxc_M (w : WebOk names ties) (hk : kd ≠ .C) {xs : List Str} (sub : ∀ x ∈ xs, x ∈ names) : Mxc names (gK ties kd) xs ↔ isM names ties kd xs := by
  have more : ∀ x ∈ names, x ∉ xs → isK ties kd xs → (isK ties kd (other kd xs x) ↔ ∀ a ∈ xs, gK ties kd x a = true) := fun x hx hn q => by
    rw [oth_no hk, ← go_more w hk hn q, goB_K hn]
    exact List.all_eq_true
  constructor
  · intro m
    have q := (clq_K w hk).mp m.clq
    refine ⟨q, fun x hx hd z => ?_⟩
    rw [shr_no hk] at hd
    have hn := of_decide_eq_false hd
    obtain ⟨a, ha, e⟩ := m.max x hx hn
    rw [(more x hx hn q).mp z a ha] at e
    cases e
  · intro ⟨q, h⟩
    refine ⟨sub, (clq_K w hk).mpr q, fun x hx hn => ?_⟩
    have z := h x hx (by rw [shr_no hk, decide_eq_false hn])
    rw [more x hx hn q] at z
    obtain ⟨a, ha⟩ := Classical.not_forall.mp z
    obtain ⟨ha, e⟩ := Classical.not_imp.mp ha
    exact ⟨a, ha, Bool.eq_false_iff.mpr e⟩
/-- all greatest rows of a kind, in order -/
structure AllK (names : List Str) (ties : List SS) (kd : Kd) (L : List (List Str)) : Prop where
  mem : ∀ r, r ∈ L ↔ r.Sublist names ∧ mB names ties kd r = true
  asc : L.Pairwise fun a b => LS.lexS a b = true
theorem AllK.uniq {L M : List (List Str)} (h : AllK names ties kd L) (k : AllK names ties kd M) : L = M := lex_ext h.asc k.asc fun r => (h.mem r).trans (k.mem r).symm
theorem allK_of (w : WebOk names ties) (hk : kd ≠ .C) {L : List (List Str)} : AllK names ties kd L ↔ AllOf names (gK ties kd) L := by
  have e : ∀ r : List Str, (r.Sublist names ∧ mB names ties kd r = true) ↔ (r.Sublist names ∧ Mxc names (gK ties kd) r) := fun r => by
    constructor
    · rintro ⟨s, m⟩
      exact ⟨s, (mxc_M w hk fun x hx => s.subset hx).mpr (mB_iff.mp m)⟩
    · rintro ⟨s, m⟩
      exact ⟨s, mB_iff.mpr ((mxc_M w hk fun x hx => s.subset hx).mp m)⟩
  exact ⟨fun h => ⟨fun r => (h.mem r).trans (e r), h.asc⟩, fun h => ⟨fun r => (h.mem r).trans (e r).symm, h.asc⟩⟩
end
end Zm

/-! The names that the second family of laws draws. -/
namespace Am
open PySem L2 Wd Wm Tm Ym PyProof.Rows
def some8 : List Str := ["", "", "one", "zz", "b", "ties", "place", "lengthy"]
def menu15 : List Str := ["p", "q", "pp", "pq", "qp", "qq", "ppq", "pqp", "qpp", "pqq", "qpq", "qqp", "qqqq", "pqpqpqp", "qpqpqpq"]
def mkN (b : Str) (a c : Nat) : Str := cutS b none (some (a : Int)) ++ (⟨#[97 + c]⟩ : Str) ++ cutS b (some (a : Int)) none
def dec (a : Nat) (x : Str) : Nat := (x.cps.toList.getD (min a (x.length - 1)) 0) - 97
end Am

/-! Rules of the second stage: rows (tuples of texts, of any lengths) sorted; (int, text) sorted; list(d) of tuple keys; methods without arguments; dict of pairs. -/
namespace L2
open PySem PySem.Spec PySem.W PyProof.Rows
def keyI : Key → Int ⊕ List Nat
  | .inl i => .inl i
  | .inr x => .inr x.cps.toList
def keyOfV : Value → Key
  | .int i _ => .inl i
  | .str x _ => .inr x
  | _ => .inl 0
def rowKOf (h : Heap) (u : Value) : Option (List Key) := match u with
  | .ref a => match h.get? a with
    | some o => match o.data with
      | .seq xs _ => some (xs.toList.map keyOfV)
      | _ => none
    | none => none
  | _ => none
def IsRowK (K : PySem.W.Frag) (H : Hp) (v : V) (ks : List Key) : Prop := ∃ a, v = .ref a ∧ SqT K H a (ks.map kV)
/-- texts where the shape says so, else ints -/
def shOk (sh : Nat → Bool) : Nat → List Key → Bool
  | _, [] => true
  | i, .inl _ :: r => !sh i && shOk sh (i + 1) r
  | i, .inr _ :: r => sh i && shOk sh (i + 1) r
def rSortedK (sh : Nat → Bool) (K : PySem.W.Frag) : List V → Hp → VK → Prop := fun vs H Q => ∃ (a : Addr) (xs : List V) (ks : List (List Key)), vs = [V.ref a] ∧ SqL K H a xs ∧ Paired (IsRowK K H) xs ks ∧ (∀ k ∈ ks, shOk sh 0 k = true) ∧ (2 ≤ ks.length → ∀ k ∈ ks, k ≠ []) ∧
  ∀ (xs' : List V) (ks' : List (List Key)) (p : Addr), Paired (IsRowK K H) xs' ks' → ks'.Perm ks → ks'.Pairwise (fun p q => lexLt itemOrd (q.map keyI) (p.map keyI) = false) → H p = none → Q (.ref p) (upd H p (.lst xs'))
section
variable {X : Cx} {pins : List (Addr × Obj)} {σ : St} {H : Hp} {s : Shared}
end
section
variable {X : Cx}
end
/-! ### rows of texts -/
theorem inr_inj {ws us : List Str} (h : (ws.map Sum.inr : List Key) = us.map Sum.inr) : ws = us := by
  induction ws generalizing us with
  | nil => cases us with | nil => rfl | cons y r => cases h
  | cons x r ih =>
    cases us with
    | nil => cases h
    | cons y t =>
      obtain ⟨h1, h2⟩ := List.cons.inj h
      rw [Sum.inr.inj h1, ih h2]
def rSortedR (K : PySem.W.Frag) : List V → Hp → VK → Prop := fun vs H Q => ∃ (a : Addr) (xs : List V) (ws : List (List Str)), vs = [V.ref a] ∧ SqL K H a xs ∧ Paired (IsRowT K H) xs ws ∧ (2 ≤ ws.length → ∀ k ∈ ws, k ≠ []) ∧
  ∀ (xs' : List V) (ws' : List (List Str)) (p : Addr), Paired (IsRowT K H) xs' ws' → ws'.Perm ws → ws'.Pairwise (fun p q => LS.lexS q p = false) → H p = none → Q (.ref p) (upd H p (.lst xs'))
/-! ### (int, text) -/
abbrev IS := Int × Str
def isK (p : IS) : List Key := [.inl p.1, .inr p.2]
def IsIS (K : PySem.W.Frag) (H : Hp) (v : V) (p : IS) : Prop := ∃ a, v = .ref a ∧ SqT K H a [.int p.1, .str p.2]
def isLt (p q : IS) : Bool := decide (p.1 < q.1) || (!decide (q.1 < p.1) && decide (p.2.cps.toList < q.2.cps.toList))
def rSortedIS (K : PySem.W.Frag) : List V → Hp → VK → Prop := fun vs H Q => ∃ (a : Addr) (xs : List V) (ps : List IS), vs = [V.ref a] ∧ SqL K H a xs ∧ Paired (IsIS K H) xs ps ∧
  ∀ (xs' : List V) (ps' : List IS) (p : Addr), Paired (IsIS K H) xs' ps' → ps'.Perm ps → ps'.Pairwise (fun p q => isLt q p = false) → H p = none → Q (.ref p) (upd H p (.lst xs'))
/-! ### list(d), the keys tuples -/
section
variable {prog : Program} {w : World}
end
/-! ### behind structures -/
section
variable {X : Cx} {o e : Expr} {to te : TE} {name : Str} {apos cpos : Pos} {T id : String} {r : V → List V → Hp → VK → Prop}
end
section
variable {X : Cx} {i o : Expr} {ty td : TE} {pos : Pos}
theorem ednotin (hu : X.A.units + 64 < cLine) (hi : SE X i ty) (ho : SE X o td) (hm : behindInMarks .NotIn o = false) : SE X (.Compare i [.NotIn] [o] pos) (tDNotIn ty td) := ⟨pe_cmp (pc_dnotin (by omega) hi.o ho.o) hm⟩
theorem tdnotin (hu : X.A.units + 64 < cLine) (hi : SE X i ty) (ho : SE X o td) (hm : behindInMarks .NotIn o = false) : ST X (.Compare i [.NotIn] [o] pos) (tB (tDNotIn ty td)) := ⟨pt_cmp (pc_dnotin (by omega) hi.o ho.o) hm⟩
end
theorem ednewK {X : Cx} {pos : Pos} : SE X (.Dict [] [] pos) tDNewK := ⟨pe_dnewK⟩
section
variable {X : Cx} {K : PySem.W.Frag}
theorem op_catAK (hK : X.K = K) : OpR X (binaryOp .Add) (rCatA K) := by subst hK; exact op_catA
end
/-! ### the scope of a comprehension within a def, by its place -/
def subE : Expr → List Expr
  | .Call f args _ _ => f :: args
  | .ListComp elt gens _ _ => elt :: gens.flatMap fun g => g.iter :: g.ifs
  | .Tuple es _ _ => es
  | .List es _ => es
  | .BinOp a _ b _ => [a, b]
  | .UnaryOp _ a _ => [a]
  | .Compare a _ bs _ => a :: bs
  | .BoolOp _ es _ => es
  | .IfExp c a b _ => [c, a, b]
  | .Subscript a b _ => [a, b]
  | .Attribute a _ _ => [a]
  | _ => []
def subS : Stmt → List Expr
  | .Return (some e) _ => [e]
  | .Expr e _ => [e]
  | .Assign _ e _ => [e]
  | .AugAssign _ _ e _ => [e]
  | .For _ it _ _ _ => [it]
  | .While c _ _ _ => [c]
  | .If c _ _ _ => [c]
  | _ => []
def bodS : Stmt → List Stmt
  | .FunctionDef _ _ body _ _ _ _ _ _ _ => body
  | .For _ _ a b _ => a ++ b
  | .While _ a b _ => a ++ b
  | .If _ a b _ => a ++ b
  | _ => []
def atE : Expr → List Nat → Expr
  | e, [] => e
  | e, k :: r => atE ((subE e).getD k e) r
def atSt : Stmt → List Nat → Stmt
  | st, [] => st
  | st, k :: r => atSt ((bodS st).getD k st) r
def scAt (st : Stmt) (is js : List Nat) : Scope := match js with
  | [] => defScope st
  | j :: r => match (subS (atSt st is))[j]? with
    | some e => match atE e r with
      | .ListComp _ _ sc _ => sc
      | _ => defScope st
    | none => defScope st
end L2

/-! Comprehensions whose parts change nothing; going through all rows: what waits. -/
namespace L2
open PySem PySem.Spec PyProof.Rows
section
variable {α : Type} {K : PySem.W.Frag} {a : Addr} {xs : List α} {v f : α → V} {p : α → Bool} {n : Nat} {tt : TT} {te : TE} {vs : List Nat} {σ : St} {H1 : Hp} {D : Addr} {Q : Hp → Prop}
theorem take_pick {β : Type} {f : α → β} {x : α} {i : Nat} (h : xs[i]? = some x) : (((xs.take (i + 1)).filter p).map f) = ((xs.take i).filter p).map f ++ (if p x = true then [f x] else []) := by
  rw [List.take_succ, h, List.filter_append, List.map_append]
  congr 1
  show ([x].filter p).map f = _
  rw [List.filter_cons]
  split <;> rfl
theorem at_map {i : Nat} {u : V} (h : (xs.map v)[i]? = some u) : ∃ x, xs[i]? = some x ∧ x ∈ xs ∧ v x = u := by
  rw [List.getElem?_map] at h
  cases e : xs[i]? with
  | none => rw [e] at h; cases h
  | some x => rw [e] at h; exact ⟨x, rfl, List.mem_of_getElem? e, Option.some.inj h⟩
/-- [te for n in a list if tt], where tt and te change nothing -/
theorem lcp_list (nD : H1 D = none) (hS : SqL K H1 a (xs.map v)) (hlen : xs.length ≤ 100000)
    (hw : ∀ x, wipe ((wipe σ vs).set n (some (v x))) vs = wipe σ vs)
    (ht : ∀ x ∈ xs, ∀ G, Same H1 G → ∀ R : Bool → Hp → Prop, R (p x) G → tt ((wipe σ vs).set n (some (v x))) G R)
    (he : ∀ x ∈ xs, p x = true → ∀ G, Same H1 G → ∀ R : VK, R (f x) G → te ((wipe σ vs).set n (some (v x))) G R)
    (q : Q (upd H1 D (.lst ((xs.filter p).map f)))) :
    ∃ W : Nat → Nat → Hp → Prop, (∃ m, W 0 m (upd H1 D (.lst []))) ∧ ∀ i m H, W i m H →
      ((Itl K a).stop i H ∧ Q H) ∨ ((Itl K a).go i H ∧ ∃ Nx : Hp → Prop, (∀ H', Nx H' → ∃ m', m' < m ∧ W (i + 1) m' H') ∧ ∀ x H', (Itl K a).yld i H x H' → gName n x (wipe σ vs) H' fun σ2 H2 => wipe σ2 vs = wipe σ vs ∧ tt σ2 H2 fun b H3 =>
        if b = true then te σ2 H3 fun y H4 => ∃ acc, H4 D = some (.lst acc) ∧ acc.length < sizeLine ∧ Nx (upd H4 D (.lst (acc ++ [y]))) else Nx H3) := by
  refine lc_list (xs := xs.map v) (fun i H => H = upd H1 D (.lst (((xs.take i).filter p).map f))) rfl (fun i H _ e => by rw [e]; exact (same_new nD _).seq hS) ?_ ?_
  · rintro i u H hu rfl
    obtain ⟨x, hx, hm, rfl⟩ := at_map hu
    have tk := take_pick (p := p) (f := f) hx
    refine ⟨hw x, ht x hm _ (same_new nD _) _ ?_⟩
    by_cases c : p x = true
    · rw [if_pos c] at tk ⊢
      refine he x hm c _ (same_new nD _) _ ⟨_, upd_same, ?_, ?_⟩
      · have l1 := List.length_filter_le p (xs.take i)
        rw [List.length_take] at l1
        rw [List.length_map, sizeLine_eq]
        omega
      · rw [upd_upd, tk]
    · rw [if_neg c] at tk ⊢
      rw [List.append_nil] at tk
      rw [tk]
  · rintro H rfl
    rw [List.length_map, List.take_length]
    exact q
theorem lcp_tup (nD : H1 D = none) (hS : SqT K H1 a (xs.map v)) (hlen : xs.length ≤ 100000)
    (hw : ∀ x, wipe ((wipe σ vs).set n (some (v x))) vs = wipe σ vs)
    (ht : ∀ x ∈ xs, ∀ G, Same H1 G → ∀ R : Bool → Hp → Prop, R (p x) G → tt ((wipe σ vs).set n (some (v x))) G R)
    (he : ∀ x ∈ xs, p x = true → ∀ G, Same H1 G → ∀ R : VK, R (f x) G → te ((wipe σ vs).set n (some (v x))) G R)
    (q : Q (upd H1 D (.lst ((xs.filter p).map f)))) :
    ∃ W : Nat → Nat → Hp → Prop, (∃ m, W 0 m (upd H1 D (.lst []))) ∧ ∀ i m H, W i m H →
      ((Itt K a).stop i H ∧ Q H) ∨ ((Itt K a).go i H ∧ ∃ Nx : Hp → Prop, (∀ H', Nx H' → ∃ m', m' < m ∧ W (i + 1) m' H') ∧ ∀ x H', (Itt K a).yld i H x H' → gName n x (wipe σ vs) H' fun σ2 H2 => wipe σ2 vs = wipe σ vs ∧ tt σ2 H2 fun b H3 =>
        if b = true then te σ2 H3 fun y H4 => ∃ acc, H4 D = some (.lst acc) ∧ acc.length < sizeLine ∧ Nx (upd H4 D (.lst (acc ++ [y]))) else Nx H3) := by
  refine lc_tup (xs := xs.map v) (fun i H => H = upd H1 D (.lst (((xs.take i).filter p).map f))) rfl (fun i H _ e => by rw [e]; exact (same_new nD _).seqT hS) ?_ ?_
  · rintro i u H hu rfl
    obtain ⟨x, hx, hm, rfl⟩ := at_map hu
    have tk := take_pick (p := p) (f := f) hx
    refine ⟨hw x, ht x hm _ (same_new nD _) _ ?_⟩
    by_cases c : p x = true
    · rw [if_pos c] at tk ⊢
      refine he x hm c _ (same_new nD _) _ ⟨_, upd_same, ?_, ?_⟩
      · have l1 := List.length_filter_le p (xs.take i)
        rw [List.length_take] at l1
        rw [List.length_map, sizeLine_eq]
        omega
      · rw [upd_upd, tk]
    · rw [if_neg c] at tk ⊢
      rw [List.append_nil] at tk
      rw [tk]
  · rintro H rfl
    rw [List.length_map, List.take_length]
    exact q
/-- the parts may lay things: the list's items are told one by one; V' says what is known of an item -/
theorem lcs_list {β : Type} {W' : Hp → V → β → Prop} {f' : α → β} (mono : ∀ G G' u b, W' G u b → Same G G' → W' G' u b) (keepD : ∀ G u b l l', W' G u b → G D = some (.lst l) → W' (upd G D (.lst l')) u b) (nD : H1 D = none) (hS : SqL K H1 a (xs.map v)) (hlen : xs.length ≤ 100000)
    (hw : ∀ x, wipe ((wipe σ vs).set n (some (v x))) vs = wipe σ vs)
    (ht : ∀ x ∈ xs, ∀ G, Same H1 G → ∀ R : Bool → Hp → Prop, (∀ G', Same G G' → R (p x) G') → tt ((wipe σ vs).set n (some (v x))) G R)
    (he : ∀ x ∈ xs, p x = true → ∀ G, Same H1 G → ∀ R : VK, (∀ G' u, Same G G' → W' G' u (f' x) → R u G') → te ((wipe σ vs).set n (some (v x))) G R)
    (q : ∀ G us, Same H1 G → G D = some (.lst us) → Paired (W' G) us ((xs.filter p).map f') → Q G) :
    ∃ W : Nat → Nat → Hp → Prop, (∃ m, W 0 m (upd H1 D (.lst []))) ∧ ∀ i m H, W i m H →
      ((Itl K a).stop i H ∧ Q H) ∨ ((Itl K a).go i H ∧ ∃ Nx : Hp → Prop, (∀ H', Nx H' → ∃ m', m' < m ∧ W (i + 1) m' H') ∧ ∀ x H', (Itl K a).yld i H x H' → gName n x (wipe σ vs) H' fun σ2 H2 => wipe σ2 vs = wipe σ vs ∧ tt σ2 H2 fun b H3 =>
        if b = true then te σ2 H3 fun y H4 => ∃ acc, H4 D = some (.lst acc) ∧ acc.length < sizeLine ∧ Nx (upd H4 D (.lst (acc ++ [y]))) else Nx H3) := by
  refine lc_list (xs := xs.map v) (fun i G => Same H1 G ∧ ∃ us, G D = some (.lst us) ∧ Paired (W' G) us (((xs.take i).filter p).map f')) ⟨same_new nD _, [], upd_same, .nil⟩ (fun i H _ e => e.1.seq hS) ?_ ?_
  · rintro i u G hu ⟨sg, us, hus, hpr⟩
    obtain ⟨x, hx, hm, rfl⟩ := at_map hu
    have tk := take_pick (p := p) (f := f') hx
    refine ⟨hw x, ht x hm _ sg _ fun G1 s1 => ?_⟩
    by_cases c : p x = true
    · rw [if_pos c] at tk ⊢
      refine he x hm c _ (sg.trans s1) _ fun G2 y s2 hy => ⟨_, s2 _ _ (s1 _ _ hus), ?_, ?_⟩
      · have l1 := List.length_filter_le p (xs.take i)
        rw [List.length_take] at l1
        have l2 := Paired.length hpr
        rw [List.length_map] at l2
        rw [sizeLine_eq]
        omega
      · have hD2 := s2 _ _ (s1 _ _ hus)
        refine ⟨fun b o e => ?_, us ++ [y], upd_same, ?_⟩
        · rw [upd_ne (ne_of_none e nD)]
          exact s2 _ _ (s1 _ _ (sg _ _ e))
        · rw [tk]
          exact Paired.snoc (Paired.mapP hpr fun _ _ z => keepD _ _ _ _ _ (mono _ _ _ _ (mono _ _ _ _ z s1) s2) hD2) (keepD _ _ _ _ _ hy hD2)
    · rw [if_neg c] at tk ⊢
      rw [List.append_nil] at tk
      rw [tk]
      exact ⟨sg.trans s1, us, s1 _ _ hus, Paired.mapP hpr fun _ _ z => mono _ _ _ _ z s1⟩
  · rintro G ⟨sg, us, hus, hpr⟩
    rw [List.length_map, List.take_length] at hpr
    exact q G us sg hus hpr
theorem lcs_tup {β : Type} {W' : Hp → V → β → Prop} {f' : α → β} (mono : ∀ G G' u b, W' G u b → Same G G' → W' G' u b) (keepD : ∀ G u b l l', W' G u b → G D = some (.lst l) → W' (upd G D (.lst l')) u b) (nD : H1 D = none) (hS : SqT K H1 a (xs.map v)) (hlen : xs.length ≤ 100000)
    (hw : ∀ x, wipe ((wipe σ vs).set n (some (v x))) vs = wipe σ vs)
    (ht : ∀ x ∈ xs, ∀ G, Same H1 G → ∀ R : Bool → Hp → Prop, (∀ G', Same G G' → R (p x) G') → tt ((wipe σ vs).set n (some (v x))) G R)
    (he : ∀ x ∈ xs, p x = true → ∀ G, Same H1 G → ∀ R : VK, (∀ G' u, Same G G' → W' G' u (f' x) → R u G') → te ((wipe σ vs).set n (some (v x))) G R)
    (q : ∀ G us, Same H1 G → G D = some (.lst us) → Paired (W' G) us ((xs.filter p).map f') → Q G) :
    ∃ W : Nat → Nat → Hp → Prop, (∃ m, W 0 m (upd H1 D (.lst []))) ∧ ∀ i m H, W i m H →
      ((Itt K a).stop i H ∧ Q H) ∨ ((Itt K a).go i H ∧ ∃ Nx : Hp → Prop, (∀ H', Nx H' → ∃ m', m' < m ∧ W (i + 1) m' H') ∧ ∀ x H', (Itt K a).yld i H x H' → gName n x (wipe σ vs) H' fun σ2 H2 => wipe σ2 vs = wipe σ vs ∧ tt σ2 H2 fun b H3 =>
        if b = true then te σ2 H3 fun y H4 => ∃ acc, H4 D = some (.lst acc) ∧ acc.length < sizeLine ∧ Nx (upd H4 D (.lst (acc ++ [y]))) else Nx H3) := by
  refine lc_tup (xs := xs.map v) (fun i G => Same H1 G ∧ ∃ us, G D = some (.lst us) ∧ Paired (W' G) us (((xs.take i).filter p).map f')) ⟨same_new nD _, [], upd_same, .nil⟩ (fun i H _ e => e.1.seqT hS) ?_ ?_
  · rintro i u G hu ⟨sg, us, hus, hpr⟩
    obtain ⟨x, hx, hm, rfl⟩ := at_map hu
    have tk := take_pick (p := p) (f := f') hx
    refine ⟨hw x, ht x hm _ sg _ fun G1 s1 => ?_⟩
    by_cases c : p x = true
    · rw [if_pos c] at tk ⊢
      refine he x hm c _ (sg.trans s1) _ fun G2 y s2 hy => ⟨_, s2 _ _ (s1 _ _ hus), ?_, ?_⟩
      · have l1 := List.length_filter_le p (xs.take i)
        rw [List.length_take] at l1
        have l2 := Paired.length hpr
        rw [List.length_map] at l2
        rw [sizeLine_eq]
        omega
      · have hD2 := s2 _ _ (s1 _ _ hus)
        refine ⟨fun b o e => ?_, us ++ [y], upd_same, ?_⟩
        · rw [upd_ne (ne_of_none e nD)]
          exact s2 _ _ (s1 _ _ (sg _ _ e))
        · rw [tk]
          exact Paired.snoc (Paired.mapP hpr fun _ _ z => keepD _ _ _ _ _ (mono _ _ _ _ (mono _ _ _ _ z s1) s2) hD2) (keepD _ _ _ _ _ hy hD2)
    · rw [if_neg c] at tk ⊢
      rw [List.append_nil] at tk
      rw [tk]
      exact ⟨sg.trans s1, us, s1 _ _ hus, Paired.mapP hpr fun _ _ z => mono _ _ _ _ z s1⟩
  · rintro G ⟨sg, us, hus, hpr⟩
    rw [List.length_map, List.take_length] at hpr
    exact q G us sg hus hpr
end
theorem IsRowT.keep {K : PySem.W.Frag} {H H' : Hp} {v : V} {ws : List Str} (h : IsRowT K H v ws) (k : KeepT H H') : IsRowT K H' v ws := let ⟨a, e, q⟩ := h; ⟨a, e, k.seqT q⟩
theorem IsIS.keep {K : PySem.W.Frag} {H H' : Hp} {v : V} {p : IS} (h : IsIS K H v p) (k : KeepT H H') : IsIS K H' v p := let ⟨a, e, q⟩ := h; ⟨a, e, k.seqT q⟩
theorem at_new {H : Hp} {a : Addr} (_ : H a = none) (o : HO) : upd H a o a = some o := upd_same
abbrev Rws (K : PySem.W.Frag) (H : Hp) : List V → List (List Str) → Prop := Paired (IsRowT K H)
theorem Rws.keep {K : PySem.W.Frag} {H H' : Hp} {vs : List V} {L : List (List Str)} (h : Rws K H vs L) (k : KeepT H H') : Rws K H' vs L := Paired.mapP h fun _ _ q => q.keep k
theorem Rws.same {K : PySem.W.Frag} {H H' : Hp} {vs : List V} {L : List (List Str)} (h : Rws K H vs L) (k : Same H H') : Rws K H' vs L := h.keep k.keepT
end L2
namespace Zm
open PySem L2 Wd Wm Km Bm Gm Hm Fm Fn PyProof.Rows
/-! ### what waits -/
abbrev E3 := List Str × List Str × List Str
section
variable {names : List Str} {g : Str → Str → Bool}
noncomputable def sumI (names : List Str) (g : Str → Str → Bool) (es : List E3) (C : List Str) : Nat := (es.map fun e => ind names g e.1 e.2.1 C).sum
def mu (es : List E3) : Nat := (es.map fun e => 16 ^ e.2.1.length).sum
end
end Zm
namespace Zm
open PySem L2 Wd Wm Km Bm Gm Hm Fm Fn PyProof.Rows
def keyD (xs : List Str) : List (Key × V) := xs.map fun y => (Sum.inr y, V.bl true)
/-- for each name the names that go with it -/
structure Ways (H G : Hp) (wy : Addr) (names : List Str) (g : Str → Str → Bool) (k : Nat) : Prop where
  s : Same H G
  at_ : ∃ kvs, G wy = some (.dK kvs) ∧ kvs.length ≤ k ∧ ∀ x ∈ names.take k, ∃ d ks, valV kvs (Sum.inr x) = some (.ref d) ∧ G d = some (.dK ks) ∧ d ≠ wy ∧ ∀ y ∈ names, (valV ks (Sum.inr y)).isSome = g x y
section
variable {H G G' : Hp} {wy : Addr} {names : List Str} {g : Str → Str → Bool} {k : Nat}
theorem Ways.same (h : Ways H G wy names g k) (s : Same G G') : Ways H G' wy names g k := by
  obtain ⟨kvs, h1, h2, h3⟩ := h.at_
  refine ⟨h.s.trans s, kvs, s _ _ h1, h2, fun x hx => ?_⟩
  obtain ⟨d, ks, a, b, c, e⟩ := h3 x hx
  exact ⟨d, ks, a, s _ _ b, c, e⟩
theorem Ways.start (n : H wy = none) : Ways H (upd H wy (.dK [])) wy names g 0 := ⟨same_new n _, [], upd_same, Nat.le_refl _, fun x hx => by rw [List.take_zero] at hx; cases hx⟩
theorem Ways.put (h : Ways H G wy names g k) (n : H wy = none) {x : Str} (hx : names[k]? = some x) {kvs : List (Key × V)} (e : G wy = some (.dK kvs)) {d : Addr} {ks : List (Key × V)} (ed : G d = some (.dK ks)) (nd : d ≠ wy) (hk : ∀ y ∈ names, (valV ks (Sum.inr y)).isSome = g x y) : Ways H (upd G wy (.dK (putK kvs (Sum.inr x) (.ref d)))) wy names g (k + 1) := by
  obtain ⟨kv, h1, h2, h3⟩ := h.at_
  rw [e] at h1
  cases h1
  refine ⟨fun b o q => by rw [upd_ne (ne_of_none q n)]; exact h.s _ _ q, _, upd_same, Nat.le_trans (length_putK _ _ _) (by omega), fun z hz => ?_⟩
  by_cases c : z = x
  · subst c
    exact ⟨d, ks, by rw [valV_put, if_pos rfl], by rw [upd_ne nd]; exact ed, nd, hk⟩
  · rw [List.take_succ, hx] at hz
    rcases List.mem_append.mp hz with hz | hz
    · obtain ⟨d', ks', a, b, c', e'⟩ := h3 z hz
      exact ⟨d', ks', by rw [valV_put, if_neg fun q => c (Sum.inr.inj q)]; exact a, by rw [upd_ne c']; exact b, c', e'⟩
    · exact absurd (by simpa using hz) c
theorem Ways.get (h : Ways H G wy names g names.length) {x : Str} (hx : x ∈ names) : ∃ d ks, DGet G wy (.str x) (some (.ref d)) ∧ G d = some (.dK ks) ∧ ∀ y ∈ names, (valV ks (Sum.inr y)).isSome = g x y := by
  obtain ⟨kvs, h1, h2, h3⟩ := h.at_
  rw [List.take_length] at h3
  obtain ⟨d, ks, a, b, _, e⟩ := h3 x hx
  refine ⟨d, ks, ?_, b, e⟩
  rw [← a]
  exact DGet.k (k := Sum.inr x) h1
end
end Zm
namespace Zm
open PySem L2 Wd Wm Km Bm Gm Hm Fm Fn PyProof.Rows
theorem filter_lt {α : Type} {p : α → Bool} : ∀ {l : List α} {v : α}, v ∈ l → p v = false → (l.filter p).length < l.length
  | x :: r, v, h, e => by
    rcases List.mem_cons.mp h with rfl | h
    · rw [List.filter_cons_of_neg (by rw [e]; exact Bool.false_ne_true)]
      have := List.length_filter_le p r
      rw [List.length_cons]
      omega
    · have ih := filter_lt (p := p) h e
      rw [List.filter_cons]
      split <;> simp only [List.length_cons] <;> omega
section
variable {names : List Str} {g : Str → Str → Bool}
structure Ok3 (names : List Str) (g : Str → Str → Bool) (e : E3) : Prop where
  b : Bk names g e.1 e.2.1 e.2.2
  nd : e.1.Nodup
  pd : e.2.1.Nodup
  rp : e.1.length + e.2.1.length ≤ 15
  px : e.2.1.length + e.2.2.length ≤ 15
theorem Ok3.start (nd : names.Nodup) (h : names.length ≤ 15) : Ok3 names g ([], names, []) := ⟨Bk.start, List.nodup_nil, nd, by simpa using h, by simpa using h⟩
theorem Ok3.next {R P X : List Str} (h : Ok3 names g (R, P, X)) {v : Str} (hv : v ∈ P) : Ok3 names g (R, P.filter fun x => !decide (x = v), X ++ [v]) := by
  have l1 := filter_lt (p := fun x => !decide (x = v)) hv (by simp)
  have h1 := h.rp
  have h2 := h.px
  refine ⟨h.b.next hv, h.nd, h.pd.filter _, ?_, ?_⟩
  · show R.length + (P.filter fun x => !decide (x = v)).length ≤ 15
    simp only at *
    omega
  · show (P.filter fun x => !decide (x = v)).length + (X ++ [v]).length ≤ 15
    rw [List.length_append]
    simp only [List.length_cons, List.length_nil] at *
    omega
end
/-! ### .. in the heap -/
structure Ent (K : PySem.W.Frag) (wt fo : Addr) (G : Hp) (v : V) (e : E3) : Prop where
  at_ : ∃ t r l o, v = .ref t ∧ SqT K G t [.ref r, .ref l, .ref o] ∧ SqT K G r (e.1.map V.str) ∧ G l = some (.lst (e.2.1.map V.str)) ∧ G o = some (.lst (e.2.2.map V.str)) ∧ l ≠ wt ∧ l ≠ fo ∧ o ≠ wt ∧ o ≠ fo
def Kp (wt fo : Addr) (G G' : Hp) : Prop := KeepT G G' ∧ ∀ b xs, b ≠ wt → b ≠ fo → G b = some (.lst xs) → G' b = some (.lst xs)
section
variable {K : PySem.W.Frag} {wt fo : Addr} {G G' : Hp} {v : V} {e : E3}
theorem Kp.same (s : Same G G') : Kp wt fo G G' := ⟨s.keepT, fun b xs _ _ h => s _ _ h⟩
theorem Kp.w {ws : List V} (h : G wt = some (.lst ws)) (o : HO) : Kp wt fo G (upd G wt o) := ⟨keepT_upd h o, fun b xs n _ h => by rw [upd_ne n]; exact h⟩
theorem Kp.f {ws : List V} (h : G fo = some (.lst ws)) (o : HO) : Kp wt fo G (upd G fo o) := ⟨keepT_upd h o, fun b xs _ n h => by rw [upd_ne n]; exact h⟩
theorem Ent.keep (h : Ent K wt fo G v e) (k : Kp wt fo G G') : Ent K wt fo G' v e := by
  obtain ⟨t, r, l, o, h1, h2, h3, h4, h5, h6, h7, h8, h9⟩ := h.at_
  exact ⟨t, r, l, o, h1, k.1.seqT h2, k.1.seqT h3, k.2 _ _ h6 h7 h4, k.2 _ _ h8 h9 h5, h6, h7, h8, h9⟩
structure Wt (K : PySem.W.Frag) (names : List Str) (g : Str → Str → Bool) (H0 : Hp) (wt fo : Addr) (G : Hp) (es : List E3) (fs : List (List Str)) : Prop where
  s : Same H0 G
  w : ∃ ws, G wt = some (.lst ws) ∧ Paired (Ent K wt fo G) ws es
  f : ∃ us, G fo = some (.lst us) ∧ Rws K G us fs
  ok : ∀ e ∈ es, Ok3 names g e
  p : ∀ i e, es[i]? = some e → i + 15 * e.2.1.length ≤ 225
  r : ∀ r ∈ fs, r.Sublist names
variable {names : List Str} {g : Str → Str → Bool} {H0 : Hp} {es : List E3} {fs : List (List Str)}
theorem Wt.same (h : Wt K names g H0 wt fo G es fs) (s : Same G G') : Wt K names g H0 wt fo G' es fs := by
  obtain ⟨ws, h1, h2⟩ := h.w
  obtain ⟨us, h3, h4⟩ := h.f
  exact ⟨h.s.trans s, ⟨ws, s _ _ h1, Paired.mapP h2 fun _ _ z => z.keep (Kp.same s)⟩, ⟨us, s _ _ h3, h4.same s⟩, h.ok, h.p, h.r⟩
theorem same_w {a : Addr} (s : Same H0 G) (n : H0 a = none) (o : HO) : Same H0 (upd G a o) := fun b u q => by rw [upd_ne (ne_of_none q n)]; exact s _ _ q
theorem Wt.push (h : Wt K names g H0 wt fo G es fs) (nw : H0 wt = none) (ne : wt ≠ fo) {ws : List V} (hw : G wt = some (.lst ws)) (he : Ent K wt fo G v e) (ok : Ok3 names g e) (hp : es.length + 15 * e.2.1.length ≤ 225) : Wt K names g H0 wt fo (upd G wt (.lst (ws ++ [v]))) (es ++ [e]) fs := by
  obtain ⟨ws', h1, h2⟩ := h.w
  rw [hw] at h1
  cases h1
  obtain ⟨us, h3, h4⟩ := h.f
  have k : Kp wt fo G (upd G wt (.lst (ws ++ [v]))) := Kp.w hw _
  refine ⟨same_w h.s nw _, ⟨_, upd_same, Paired.snoc (Paired.mapP h2 fun _ _ z => z.keep k) (he.keep k)⟩, ⟨us, by rw [upd_ne ne.symm]; exact h3, h4.keep k.1⟩, fun e' h' => ?_, fun i e' h' => ?_, h.r⟩
  · rcases List.mem_append.mp h' with z | z
    · exact h.ok e' z
    · rw [List.mem_singleton.mp z]; exact ok
  · by_cases c : i < es.length
    · rw [List.getElem?_append_left c] at h'
      exact h.p i e' h'
    · rw [List.getElem?_append_right (by omega)] at h'
      have : i - es.length = 0 := by
        by_cases z : i - es.length = 0
        · exact z
        · rw [List.getElem?_eq_none (by simp; omega)] at h'; cases h'
      rw [this] at h'
      cases h'
      omega
theorem Wt.found (h : Wt K names g H0 wt fo G es fs) (nf : H0 fo = none) (ne : wt ≠ fo) {us : List V} (hu : G fo = some (.lst us)) {S : List Str} (hv : IsRowT K G v S) (hS : S.Sublist names) : Wt K names g H0 wt fo (upd G fo (.lst (us ++ [v]))) es (fs ++ [S]) := by
  obtain ⟨ws, h1, h2⟩ := h.w
  obtain ⟨us', h3, h4⟩ := h.f
  rw [hu] at h3
  cases h3
  have k : Kp wt fo G (upd G fo (.lst (us ++ [v]))) := Kp.f hu _
  refine ⟨same_w h.s nf _, ⟨ws, by rw [upd_ne ne]; exact h1, Paired.mapP h2 fun _ _ z => z.keep k⟩, ⟨_, upd_same, Paired.snoc (h4.keep k.1) (hv.keep k.1)⟩, h.ok, h.p, fun r hr => ?_⟩
  rcases List.mem_append.mp hr with z | z
  · exact h.r r z
  · rw [List.mem_singleton.mp z]; exact hS
theorem Wt.start (nw : G wt = none) {t r l o : Addr} (s : Same H0 G) (ht : SqT K G t [.ref r, .ref l, .ref o]) (hr : SqT K G r []) (hl : G l = some (.lst (names.map V.str))) (ho : G o = some (.lst [])) (nd : names.Nodup) (h15 : names.length ≤ 15) (nf : (upd G wt (.lst [.ref t])) fo = none) :
    Wt K names g H0 wt fo (upd (upd G wt (.lst [.ref t])) fo (.lst [])) [([], names, [])] [] := by
  have s1 := same_new nw (.lst [V.ref t])
  have s2 := same_new nf (.lst [])
  have s3 := s1.trans s2
  refine ⟨s.trans s3, ⟨_, s2 _ _ upd_same, .cons ⟨t, r, l, o, rfl, s3.seqT ht, s3.seqT hr, s3 _ _ hl, s3 _ _ ho, ne_of_none hl nw, ne_of_none (s1 _ _ hl) nf, ne_of_none ho nw, ne_of_none (s1 _ _ ho) nf⟩ .nil⟩, ⟨[], upd_same, .nil⟩, fun e he => ?_, fun i e he => ?_, fun r hr => by cases hr⟩
  · rw [List.mem_singleton.mp he]; exact Ok3.start nd h15
  · cases i with
    | zero => cases he; simp only; omega
    | succ j => cases he
end
theorem found_few {names : List Str} {g : Str → Str → Bool} {fs : List (List Str)} (sub : ∀ r ∈ fs, r.Sublist names) (one : ∀ C, fs.count C ≤ 1) (h : names.length ≤ 15) : fs.length ≤ 32768 := by
  have nd : fs.Nodup := List.nodup_iff_count.mpr one
  have key : ∀ (ns : List Str) (l : List (List Str)), l.Nodup → (∀ r ∈ l, r.Sublist ns) → l.length ≤ 2 ^ ns.length := by
    intro ns
    induction ns with
    | nil =>
      intro l nd hl
      cases l with
      | nil => simp
      | cons a r =>
        have ea : a = [] := List.sublist_nil.mp (hl a (List.mem_cons_self ..))
        cases r with
        | nil => simp
        | cons b t =>
          have eb : b = [] := List.sublist_nil.mp (hl b (by simp))
          rw [ea, eb] at nd
          simp at nd
    | cons x t ih =>
      intro l nd hl
      have sp : l.length = (l.filter fun r => decide (r.head? = some x)).length + (l.filter fun r => !decide (r.head? = some x)).length := by
        clear nd hl
        induction l with
        | nil => rfl
        | cons a r ih2 =>
          rw [List.length_cons, List.filter_cons, List.filter_cons]
          by_cases c : a.head? = some x
          · simp only [c, decide_true, if_true, Bool.not_true, Bool.false_eq_true, if_false, List.length_cons]
            omega
          · simp only [c, decide_false, if_false, Bool.not_false, if_true, Bool.false_eq_true, List.length_cons]
            omega
      have h1 : (l.filter fun r => !decide (r.head? = some x)).length ≤ 2 ^ t.length := by
        refine ih _ (nd.filter _) fun r hr => ?_
        obtain ⟨m, c⟩ := List.mem_filter.mp hr
        have c' : ¬ r.head? = some x := by simpa using c
        have s := hl r m
        cases s with
        | cons _ s => exact s
        | cons_cons _ s => exact absurd rfl c'
      have h2 : (l.filter fun r => decide (r.head? = some x)).length ≤ 2 ^ t.length := by
        have z := ih ((l.filter fun r => decide (r.head? = some x)).map List.tail) ?_ ?_
        · rw [List.length_map] at z
          exact z
        · refine List.nodup_iff_pairwise_ne.mpr (List.pairwise_map.mpr ?_)
          refine List.Pairwise.imp_of_mem (fun {a b} ha hb ne e => ne ?_) (List.nodup_iff_pairwise_ne.mp (nd.filter _))
          have ca : a.head? = some x := by simpa using (List.mem_filter.mp ha).2
          have cb : b.head? = some x := by simpa using (List.mem_filter.mp hb).2
          cases a with
          | nil => cases ca
          | cons a1 ar =>
            cases b with
            | nil => cases cb
            | cons b1 br =>
              cases ca
              cases cb
              exact congrArg (x :: ·) e
        · intro r hr
          obtain ⟨a, ha, rfl⟩ := List.mem_map.mp hr
          obtain ⟨m, c⟩ := List.mem_filter.mp ha
          have c' : a.head? = some x := by simpa using c
          have s := hl a m
          cases a with
          | nil => cases c'
          | cons a1 ar =>
            cases c'
            cases s with
            | cons _ s => exact (List.sublist_cons_self _ _).trans s
            | cons_cons _ s => exact s
      rw [List.length_cons, Nat.pow_succ]
      omega
  have := key names fs nd sub
  have h2 : 2 ^ names.length ≤ 2 ^ 15 := Nat.pow_le_pow_right (by decide) h
  omega
end Zm
namespace Zm
open PySem L2 Wd Wm Km Bm Gm Hm Fm Fn PyProof.Rows
end Zm
namespace L2
open PySem PySem.Spec PyProof.Rows
end L2
namespace L2
open PySem PySem.Spec PyProof.Rows
theorem FnOk.or {P : Program} {w : World} {K : PySem.W.Frag} {mg : Str → Option Value} {base : Heap} {CX : CXT} {k : Nat} {f : Addr} {fd : FuncData} {ps : List Str} {sp sp' : Sp} (F : FnOk P w K mg base CX k f fd ps sp) (G : FnOk P w K mg base CX k f fd ps sp') : FnOk P w K mg base CX k f fd ps (fun vs H Q E => sp vs H Q E ∨ sp' vs H Q E) :=
  ⟨fun vs H Q E h => h.elim (F.len vs H Q E) (G.len vs H Q E), fun A outer s H args us vs Q E a b c d h => h.elim (F.run A outer s H args us vs Q E a b c d) (G.run A outer s H args us vs Q E a b c d)⟩
end L2
namespace Zm
open PySem L2 Wd Wm Km Bm Gm Hm Fm Fn PyProof.Rows
theorem allK_nodup {names : List Str} {ties : List SS} {kd : Kd} {L : List (List Str)} (h : AllK names ties kd L) : L.Nodup := List.nodup_iff_pairwise_ne.mpr (List.Pairwise.imp (fun {a b} h e => by rw [e, lex_irr] at h; cases h) h.asc)
end Zm

/-! All greatest rows by the first names, grown by one name. -/
namespace Zm
open PySem L2 Wd Wm Km Bm Gm Hm Fm Fn PyProof.Rows
section
variable {names : List Str} {g : Str → Str → Bool}
/-- all greatest rows by some names, in any order -/
def Grown (g : Str → Str → Bool) (ns : List Str) (L : List (List Str)) : Prop := L.Nodup ∧ ∀ r, r ∈ L ↔ r.Sublist ns ∧ Mxc ns g r
theorem Grown.start : Grown g [] [[]] := ⟨by simp, fun r => by
  constructor
  · intro h
    rw [List.mem_singleton.mp h]
    exact ⟨List.Sublist.refl _, (fun x hx => by cases hx), (fun a ha => by cases ha), fun x hx => by cases hx⟩
  · rintro ⟨h, _⟩
    rw [List.sublist_nil.mp h]
    simp⟩
theorem behind_take {k : Nat} {x : Str} (hs : names.Pairwise sLt) (hx : names[k]? = some x) {r : List Str} (s : r.Sublist (names.take k)) : behindA g r x = r.filter (g x) ++ [x] := by
  unfold behindA
  congr 1
  refine List.filter_congr fun y hy => ?_
  have hy' := s.subset hy
  have : y.cps.toList < x.cps.toList := (take_lt hs hx (List.mem_of_mem_take hy')).mp hy'
  rw [decide_eq_true this, Bool.true_and]
/-- which rows come of the rows by the names ahead -/
theorem Grown.step (G : Gr g) (hs : names.Pairwise sLt) {k : Nat} {x : Str} (hx : names[k]? = some x) {L L' : List (List Str)} (h : Grown g (names.take k) L) (nd : L'.Nodup)
    (mem : ∀ r, r ∈ L' ↔ ∃ s ∈ L, (r = s ∧ s.all (g x) = false) ∨ (r = behindA g s x ∧ Full names g (behindA g s x) x)) : Grown g (names.take (k + 1)) L' := by
  have hk : k < names.length := (List.getElem?_eq_some_iff.mp hx).1
  have tk : names.take (k + 1) = names.take k ++ [x] := by rw [List.take_succ, hx]; rfl
  have hxn : x ∉ names.take k := fun z => sLt_irr _ ((take_lt hs hx (List.mem_of_mem_take z)).mp z)
  have hs' : (names.take (k + 1)).Pairwise sLt := hs.sublist (List.take_sublist _ _)
  have hsk : (names.take k).Pairwise sLt := hs.sublist (List.take_sublist _ _)
  refine ⟨nd, fun r => (mem r).trans ?_⟩
  constructor
  · rintro ⟨s, hsL, ⟨rfl, c⟩ | ⟨rfl, c⟩⟩
    · obtain ⟨s1, m⟩ := (h.2 r).mp hsL
      refine ⟨s1.trans (by rw [tk]; exact List.sublist_append_left _ _), ⟨fun y hy => by rw [tk]; exact List.mem_append_left _ (m.sub y hy), m.clq, fun y hy hn => ?_⟩⟩
      rw [tk] at hy
      rcases List.mem_append.mp hy with z | z
      · exact m.max y z hn
      · rw [List.mem_singleton.mp z]
        have c' : ¬ ∀ a ∈ r, g x a = true := fun q => by rw [List.all_eq_true.mpr q] at c; cases c
        obtain ⟨a, ha⟩ := Classical.not_forall.mp c'
        obtain ⟨ha, e⟩ := Classical.not_imp.mp ha
        exact ⟨a, ha, Bool.eq_false_iff.mpr e⟩
    · obtain ⟨s1, m⟩ := (h.2 s).mp hsL
      rw [behind_take hs hx s1] at c ⊢
      refine ⟨by rw [tk]; exact List.Sublist.append (List.filter_sublist.trans s1) (List.Sublist.refl _), ⟨fun y hy => ?_, fun a ha b hb ne => ?_, fun y hy hn => ?_⟩⟩
      · rw [tk]
        rcases List.mem_append.mp hy with z | z
        · exact List.mem_append_left _ (m.sub y (List.mem_filter.mp z).1)
        · exact List.mem_append_right _ z
      · rcases List.mem_append.mp ha with z | z <;> rcases List.mem_append.mp hb with y | y
        · exact m.clq a (List.mem_filter.mp z).1 b (List.mem_filter.mp y).1 ne
        · rw [List.mem_singleton.mp y, G.sy]; exact (List.mem_filter.mp z).2
        · rw [List.mem_singleton.mp z]; exact (List.mem_filter.mp y).2
        · rw [List.mem_singleton.mp z, List.mem_singleton.mp y] at ne; exact absurd rfl ne
      · rw [tk] at hy
        rcases List.mem_append.mp hy with z | z
        · exact c y (List.mem_of_mem_take z) ((take_lt hs hx (List.mem_of_mem_take z)).mp z) hn
        · exact absurd (List.mem_append_right _ z) hn
  · rintro ⟨s1, m⟩
    by_cases hxr : x ∈ r
    · -- with the name
      have sub' : ∀ y ∈ r.filter (fun y => !decide (y = x)), y ∈ names.take k := fun y hy => by
        obtain ⟨y1, y2⟩ := List.mem_filter.mp hy
        have := m.sub y y1
        rw [tk] at this
        rcases List.mem_append.mp this with z | z
        · exact z
        · rw [List.mem_singleton.mp z] at y2
          simp at y2
      have clq' : Clq g (r.filter fun y => !decide (y = x)) := fun a ha b hb ne => m.clq a (List.mem_filter.mp ha).1 b (List.mem_filter.mp hb).1 ne
      obtain ⟨f1, f2⟩ := fil_row (names := names.take k) G sub' clq'
      have sup : ∀ y ∈ r, y ≠ x → y ∈ filG (names.take k) g (r.filter fun y => !decide (y = x)) := fun y hy hn => by
        unfold filG
        rw [mem_kN]
        exact ⟨sub' y (List.mem_filter.mpr ⟨hy, by simp [hn]⟩), fillG_sup (List.mem_filter.mpr ⟨hy, by simp [hn]⟩)⟩
      have eq : ∀ y, y ∈ behindA g (filG (names.take k) g (r.filter fun y => !decide (y = x))) x ↔ y ∈ r := fun y => by
        rw [behind_take hs hx f1]
        constructor
        · intro z
          rcases List.mem_append.mp z with z | z
          · obtain ⟨z1, z2⟩ := List.mem_filter.mp z
            by_cases c : y ∈ r
            · exact c
            · obtain ⟨a, ha, e⟩ := m.max y (by rw [tk]; exact List.mem_append_left _ (f2.sub y z1)) c
              by_cases ea : a = x
              · rw [ea, G.sy, z2] at e
                cases e
              · rw [f2.clq y z1 a (sup a ha ea) fun q => c (q ▸ ha)] at e
                cases e
          · rw [List.mem_singleton.mp z]; exact hxr
        · intro z
          by_cases c : y = x
          · rw [c]; simp
          · exact List.mem_append_left _ (List.mem_filter.mpr ⟨sup y z c, m.clq x hxr y z fun q => c q.symm⟩)
      have eqr : r = behindA g (filG (names.take k) g (r.filter fun y => !decide (y = x))) x := by
        refine s_ext (hs'.sublist s1) ?_ fun y => (eq y).symm
        rw [behind_take hs hx f1]
        refine hs'.sublist ?_
        rw [tk]
        exact List.Sublist.append (List.filter_sublist.trans f1) (List.Sublist.refl _)
      refine ⟨_, (h.2 _).mpr ⟨f1, f2⟩, .inr ⟨eqr, ?_⟩⟩
      intro y hy lt hn
      rw [← eqr] at hn ⊢
      exact m.max y (by rw [tk]; exact List.mem_append_left _ ((take_lt hs hx hy).mpr lt)) hn
    · -- without it
      have sub' : ∀ y ∈ r, y ∈ names.take k := fun y hy => by
        have := m.sub y hy
        rw [tk] at this
        rcases List.mem_append.mp this with z | z
        · exact z
        · rw [List.mem_singleton.mp z] at hy; exact absurd hy hxr
      refine ⟨r, (h.2 r).mpr ⟨sub_of hsk (hs'.sublist s1) sub', sub', m.clq, fun y hy hn => m.max y (by rw [tk]; exact List.mem_append_left _ hy) hn⟩, .inl ⟨rfl, ?_⟩⟩
      obtain ⟨a, ha, e⟩ := m.max x (by rw [tk]; simp) hxr
      rw [Bool.eq_false_iff]
      intro q
      rw [List.all_eq_true.mp q a ha] at e
      cases e
theorem Grown.few {ns : List Str} {L : List (List Str)} (h : Grown g ns L) (hn : ns.length ≤ 15) : L.length ≤ 32768 :=
  found_few (g := g) (fun r hr => ((h.2 r).mp hr).1) (fun C => List.nodup_iff_count.mp h.1 C) hn
theorem Grown.ne {ns : List Str} {L : List (List Str)} (h : Grown g ns L) (h2 : 2 ≤ L.length) : ∀ k ∈ L, k ≠ [] := by
  rintro k hk rfl
  have m := ((h.2 _).mp hk).2
  have e : ns = [] := by
    cases ns with
    | nil => rfl
    | cons x r =>
      obtain ⟨a, ha, _⟩ := m.max x (List.mem_cons_self ..) (by simp)
      cases ha
  subst e
  have nd := h.1
  match L, h2, nd, h with
  | a :: b :: t, _, nd, h =>
    have ea : a = [] := List.sublist_nil.mp ((h.2 a).mp (by simp)).1
    have eb : b = [] := List.sublist_nil.mp ((h.2 b).mp (by simp)).1
    rw [ea, eb] at nd
    simp at nd
/-- whether no name ahead can be put to a row, as it is asked -/
def fullB (names : List Str) (g : Str → Str → Bool) (r : List Str) (x : Str) : Bool := !((names.filter fun y => decide (y.cps.toList < x.cps.toList) && !decide (y ∈ r)).map fun y => r.all (g y)).any id
theorem fullB_iff {r : List Str} {x : Str} : fullB names g r x = true ↔ Full names g r x := by
  unfold fullB Full
  rw [Bool.not_eq_true', Bool.eq_false_iff, Ne, List.any_eq_true]
  constructor
  · intro h y hy lt hn
    by_cases c : r.all (g y) = true
    · exact absurd ⟨true, List.mem_map.mpr ⟨y, List.mem_filter.mpr ⟨hy, by rw [Bool.and_eq_true]; exact ⟨decide_eq_true (show y.cps.toList < x.cps.toList from lt), by simp [hn]⟩⟩, c⟩, rfl⟩ h
    · have c' : ¬ ∀ a ∈ r, g y a = true := fun q => c (List.all_eq_true.mpr q)
      obtain ⟨a, ha⟩ := Classical.not_forall.mp c'
      obtain ⟨ha, e⟩ := Classical.not_imp.mp ha
      exact ⟨a, ha, Bool.eq_false_iff.mpr e⟩
  · rintro h ⟨b, hb, e⟩
    obtain ⟨y, hy, rfl⟩ := List.mem_map.mp hb
    obtain ⟨y1, y2⟩ := List.mem_filter.mp hy
    rw [Bool.and_eq_true] at y2
    obtain ⟨a, ha, z⟩ := h y y1 (of_decide_eq_true y2.1) (by simpa using y2.2)
    rw [List.all_eq_true.mp e a ha] at z
    cases z
end
/-! ### rows as keys -/
def IsRowH (H : Hp) (v : V) (ws : List Str) : Prop := ∃ a, v = .ref a ∧ H a = some (.tup (ws.map V.str))
theorem IsRowH.t {K : PySem.W.Frag} {H : Hp} {v : V} {ws : List Str} (h : IsRowH H v ws) : IsRowT K H v ws := let ⟨a, e, q⟩ := h; ⟨a, e, SqT.of q⟩
theorem IsRowH.keep {H H' : Hp} {v : V} {ws : List Str} (h : IsRowH H v ws) (k : KeepT H H') : IsRowH H' v ws := let ⟨a, e, q⟩ := h; ⟨a, e, k.1 _ _ q⟩
def rk (ws : List Str) : List Key := ws.map Sum.inr
theorem rk_inj {a b : List Str} : rk a = rk b ↔ a = b := ⟨inr_inj, fun h => by rw [h]⟩
/-- a dict of rows -/
def Keys (kvs : List (List Key × V)) (F : List (List Str)) : Prop := kvs.map (·.1) = F.map rk ∧ F.Nodup
theorem Keys.nil : Keys [] [] := ⟨rfl, List.nodup_nil⟩
theorem Keys.len {kvs : List (List Key × V)} {F : List (List Str)} (h : Keys kvs F) : kvs.length = F.length := by
  have := congrArg List.length h.1
  simpa using this
theorem Keys.val {kvs : List (List Key × V)} {F : List (List Str)} (h : Keys kvs F) (r : List Str) : (valV kvs (rk r)).isSome = decide (r ∈ F) := by
  rw [← valV_any]
  have e : (kvs.any fun kv => decide (kv.1 = rk r)) = ((kvs.map (·.1)).any fun k => decide (k = rk r)) := by rw [List.any_map]; rfl
  rw [e, h.1, List.any_map]
  clear e h
  induction F with
  | nil => rfl
  | cons a t ih =>
    rw [List.any_cons, ih]
    by_cases c : r = a
    · subst c; simp
    · have c' : ¬ rk a = rk r := fun z => c (rk_inj.mp z).symm
      simp [Function.comp, c, c']
def putR (F : List (List Str)) (r : List Str) : List (List Str) := if r ∈ F then F else F ++ [r]
theorem mem_putR {F : List (List Str)} {r s : List Str} : s ∈ putR F r ↔ s ∈ F ∨ s = r := by
  unfold putR
  split
  · rename_i h
    exact ⟨.inl, fun z => z.elim id fun e => e ▸ h⟩
  · rw [List.mem_append, List.mem_singleton]
theorem Keys.put {kvs : List (List Key × V)} {F : List (List Str)} (h : Keys kvs F) (r : List Str) (v : V) : Keys (putK kvs (rk r) v) (putR F r) := by
  have e := valV_any (rk r) kvs
  rw [h.val] at e
  unfold putK putR
  by_cases c : r ∈ F
  · rw [if_pos (by rw [e]; exact decide_eq_true c), if_pos c]
    refine ⟨?_, h.2⟩
    rw [← h.1, List.map_map]
    refine List.map_congr_left fun p _ => ?_
    show (if p.1 = rk r then (p.1, v) else p).1 = p.1
    split <;> rfl
  · rw [if_neg (by rw [e]; simpa using c), if_neg c]
    refine ⟨by rw [List.map_append, List.map_append, h.1]; rfl, ?_⟩
    rw [List.nodup_append]
    exact ⟨h.2, by simp, fun a ha b hb q => c (by rw [List.mem_singleton.mp hb] at q; exact q ▸ ha)⟩
end Zm
namespace L2
open PySem PySem.Spec PyProof.Rows
/-! ### lists of rows compared -/
def rowD (r : List Str) : PyData := .tuple (r.map PyData.str)
def rowsD (L : List (List Str)) : PyData := .list (L.map rowD)
theorem dpAll_rows {K : PySem.W.Frag} {H : Hp} : ∀ {vs : List V} {L : List (List Str)}, Rws K H vs L → DpAll K H vs (L.map rowD)
  | _, _, .nil => .nil
  | _, _, .cons h t => by
    obtain ⟨a, rfl, ha⟩ := h
    exact .cons (dp_strs ha) (dpAll_rows t)
theorem eqvAll_rows : ∀ L M : List (List Str), PyData.eqvAll (L.map rowD) (M.map rowD) = decide (L = M)
  | [], [] => by simp [PyData.eqvAll]
  | [], y :: s => by simp [PyData.eqvAll]
  | x :: r, [] => by simp [PyData.eqvAll]
  | x :: r, y :: s => by
    simp only [List.map_cons, PyData.eqvAll, rowD, eqv_strs]
    rw [eqvAll_rows r s]
    by_cases h : x = y <;> by_cases k : r = s <;> simp [h, k]
theorem eqv_rows (L M : List (List Str)) : PyData.eqv (rowsD L) (rowsD M) = decide (L = M) := by
  unfold rowsD
  rw [PyData.eqv]
  exact eqvAll_rows L M
theorem layAll_rows : ∀ {L : List (List Str)}, (∀ r ∈ L, ∀ x ∈ r, Wd.Lt x) → PyData.canLayAll0 (L.map rowD) = true
  | [], _ => rfl
  | x :: r, h => by
    have e : PyData.canLay0 (rowD x) = true := by simp only [rowD, PyData.canLay0, layAll_strs (h x (List.mem_cons_self ..))]
    simp only [List.map_cons, PyData.canLayAll0, e, layAll_rows (fun y hy => h y (List.mem_cons_of_mem _ hy)), Bool.and_true]
theorem dep_rows : ∀ L : List (List Str), PyData.depthAll (L.map rowD) ≤ 1
  | [] => by simp [PyData.depthAll]
  | x :: r => by
    have := dep_rows r
    have e : PyData.depth (rowD x) = 1 := by simp only [rowD, PyData.depth, dep_strs]
    simp only [List.map_cons, PyData.depthAll, e]
    omega
theorem shaped_row {r : List Str} (h : ∀ x ∈ r, Wd.Lt x) : SeqAt.shaped (rowD r) = true := shaped_strs h
end L2
namespace Zm
open PySem L2 Wd Wm Km Bm Gm Hm Fm Fn PyProof.Rows
section
variable {names : List Str} {ties : List SS} {kd : Kd} {L : List (List Str)}
theorem AllK.lt (h : AllK names ties kd L) (w : WebOk names ties) : ∀ r ∈ L, ∀ x ∈ r, Wd.Lt x := fun r hr x hx => (w.nw x (((h.mem r).mp hr).1.subset hx)).1.lt
theorem AllK.few (h : AllK names ties kd L) (h15 : names.length ≤ 15) : L.length ≤ 32768 := found_few (g := gK ties kd) (fun r hr => ((h.mem r).mp hr).1) (fun C => List.nodup_iff_count.mp (allK_nodup h) C) h15
theorem AllK.short (h : AllK names ties kd L) (h15 : names.length ≤ 15) : ∀ r ∈ L, r.length ≤ 15 := fun r hr => Nat.le_trans ((h.mem r).mp hr).1.length_le h15
end
end Zm

/-! list.index of a row among rows; there is a greatest row; what lies behind. -/
namespace L2
open PySem PySem.Spec PyProof.Rows
section
variable {X : Cx}
def rIndexR (K : PySem.W.Frag) : V → List V → Hp → VK → Prop := fun x xs H Q => ∃ (a : Addr) (ys : List V) (L : List (List Str)) (y : V) (r : List Str) (j : Nat), x = V.ref a ∧ xs = [y] ∧ SqL K H a ys ∧ Rws K H ys L ∧ IsRowT K H y r ∧ L[j]? = some r ∧ (∀ m, m < j → L[m]? ≠ some r) ∧ Q (.int (j : Nat)) H
end
end L2
namespace Zm
open PySem L2 Wd Wm Km Bm Gm Hm Fm Fn PyProof.Rows
section
variable {names : List Str} {ties : List SS} {kd : Kd} {L : List (List Str)}
theorem AllK.ne (h : AllK names ties kd L) (w : WebOk names ties) : L ≠ [] := by
  have key : ∀ kd, kd ≠ .C → ∃ r : List Str, r.Sublist names ∧ mB names ties kd r = true := fun kd hk => by
    obtain ⟨h1, h2⟩ := fil_row (names := names) (gr_K ties kd) (r := []) (fun x hx => by cases hx) (fun a ha => by cases ha)
    exact ⟨_, h1, mB_iff.mpr ((mxc_M w hk fun x hx => h1.subset hx).mp h2)⟩
  intro e
  subst e
  by_cases hk : kd = .C
  · subst hk
    obtain ⟨r, h1, h2⟩ := key .A (by intro z; cases z)
    have := (h.mem (nN names r)).mpr ⟨nN_sub _ _, by rw [← rest_M w]; exact h2⟩
    cases this
  · obtain ⟨r, h1, h2⟩ := key kd hk
    have := (h.mem r).mpr ⟨h1, h2⟩
    cases this
end
end Zm
namespace L2
open PySem PySem.Spec PyProof.Rows
/-- a row, or None -/
def NxV (K : PySem.W.Frag) (H : Hp) (v : V) : Option (List Str) → Prop
  | none => v = .non
  | some r => IsRowT K H v r
theorem NxV.keep {K : PySem.W.Frag} {H H' : Hp} {v : V} {o : Option (List Str)} (h : NxV K H v o) (k : KeepT H H') : NxV K H' v o := by
  cases o with
  | none => exact h
  | some r => exact IsRowT.keep h k
def nxD : Option (List Str) → PyData
  | none => .none
  | some r => rowD r
theorem NxV.dp {K : PySem.W.Frag} {H : Hp} {v : V} {o : Option (List Str)} (h : NxV K H v o) : Dp K H v (nxD o) := by
  cases o with
  | none => cases h; exact .non
  | some r => obtain ⟨a, rfl, ha⟩ := h; exact dp_strs ha
end L2

/-! The second family's pile of numbers. -/
namespace L2
open PySem PySem.Spec PyProof.Rows
theorem boot_abs : bootBuiltins "abs" = some (.builtin "abs") := by decide +kernel
/-- all but one list stays -/
def KB (p : Addr) (H H' : Hp) : Prop := ∀ b o, H b = some o → b ≠ p → H' b = some o
theorem KB.refl (p : Addr) (H : Hp) : KB p H H := fun _ _ h _ => h
theorem KB.trans {p : Addr} {H H1 H2 : Hp} (a : KB p H H1) (b : KB p H1 H2) : KB p H H2 := fun c o h n => b c o (a c o h n) n
theorem KB.of {p : Addr} {H H' : Hp} (s : Same H H') : KB p H H' := fun b o h _ => s b o h
theorem KB.put {p : Addr} {H : Hp} (o : HO) : KB p H (upd H p o) := fun b u h n => by rw [upd_ne n]; exact h
/-- a pile of numbers stands at p, over the script at a -/
structure Pile (K : PySem.W.Frag) (H : Hp) (p a : Addr) (ns : List Int) : Prop where
  at_ : ∃ (i : Nat) (rest seed turn : Int), H p = some (.lst [.ref a, .int (i : Nat), .int rest, .int seed, .int turn]) ∧ (∀ o, SqL K (upd H p o) a (ns.map V.int)) ∧ ns.length ≤ 63 ∧ i ≤ ns.length ∧ 0 ≤ rest ∧ 0 ≤ seed ∧ seed < 2147483629
theorem upd_self {H : Hp} {p : Addr} {o : HO} (h : H p = some o) : upd H p o = H := by
  funext b
  by_cases e : b = p
  · subst e; rw [upd_same, h]
  · rw [upd_ne e]
theorem KB.sq {K : PySem.W.Frag} {H H' : Hp} {p a : Addr} {xs : List V} (k : KB p H H') (h : ∀ o, SqL K (upd H p o) a xs) (o : HO) : SqL K (upd H' p o) a xs := by
  refine Same.seq (H := upd H p o) (fun b u e => ?_) (h o)
  by_cases c : b = p
  · subst c; rw [upd_same] at e ⊢; exact e
  · rw [upd_ne c] at e ⊢; exact k _ _ e c
section
variable {K : PySem.W.Frag} {H H' : Hp} {p a : Addr} {ns : List Int}
theorem Pile.same (h : Pile K H p a ns) (s : Same H H') : Pile K H' p a ns := by
  obtain ⟨i, rest, seed, turn, h1, h2, h4⟩ := h.at_
  exact ⟨i, rest, seed, turn, s _ _ h1, (KB.of s).sq h2, h4⟩
theorem Pile.lst (h : Pile K H p a ns) : ∃ xs, H p = some (.lst xs) := by
  obtain ⟨i, rest, seed, turn, h1, _⟩ := h.at_
  exact ⟨_, h1⟩
theorem KB.keepT (k : KB p H H') {xs : List V} (h : H p = some (.lst xs)) : KeepT H H' :=
  ⟨fun b ys e => k _ _ e (ne_of e h (by intro z; cases z)), fun b o u e => k _ _ e (ne_of e h (by intro z; cases z))⟩
theorem Pile.ne (h : Pile K H p a ns) {q : Addr} (n : H q = none) : q ≠ p := fun e => by
  obtain ⟨_, z⟩ := h.lst
  rw [← e, n] at z
  cases z
/-- a list that was new when the pile stood may be changed -/
theorem Pile.put (h0 : Pile K H p a ns) {q : Addr} (n : H q = none) (h : Pile K H' p a ns) (o : HO) : Pile K (upd H' q o) p a ns := by
  have nq := h0.ne n
  obtain ⟨_, _, _, _, _, g2, _⟩ := h0.at_
  obtain ⟨i, rest, seed, turn, h1, h2, h4⟩ := h.at_
  refine ⟨i, rest, seed, turn, by rw [upd_ne nq.symm]; exact h1, fun u => ?_, h4⟩
  rcases g2 (.tup []) with g | g
  · have ha : a ≠ q := by
      rintro rfl
      rcases g with g | ⟨_, g⟩ <;> rw [upd_ne nq, n] at g <;> cases g
    rcases h2 u with k | k
    · left
      have e : ∀ b, b = a → upd (upd H' q o) p u b = upd H' p u b := fun b hb => by
        subst hb
        by_cases c : b = p
        · subst c; rw [upd_same, upd_same]
        · rw [upd_ne c, upd_ne c, upd_ne ha]
      rcases k with k | ⟨x, k⟩
      · exact .inl (by rw [e a rfl]; exact k)
      · exact .inr ⟨x, by rw [e a rfl]; exact k⟩
    · exact .inr k
  · exact .inr g
end
end L2

/-! list(text); comprehensions over signs and ranges that change nothing; the second family's names. -/
namespace L2
open PySem PySem.Spec PyProof.Rows
def sgL (x : Str) : List Str := x.cps.toList.map fun c => ⟨#[c]⟩
theorem call_listS {X : Cx} (hc : X.calm = true) : CallR X (.type "list") (fun xs H Q => ∃ x : Str, xs = [.str x] ∧ x.length ≤ 1000 ∧ ∀ l, H l = none → Q (.ref l) (upd H l (.lst ((sgL x).map V.str)))) := by
  intro pins s σ H xs us Q I r h
  obtain ⟨x, rfl, hx, q⟩ := h
  obtain ⟨u, rfl, t, rfl⟩ := vals1 r
  have hsz : x.cps.size ≤ 1000 := hx
  refine call_list_str (I.ok.hd hc) x t (fun h' tk acc' c' kp e hacc => ?_) (by rw [sizeLine_eq]; omega)
  have hv : Vals ((sgL x).map V.str) acc'.toList := by
    have key : ∀ (n : Nat) (cs : List Nat) (l : List Value), cs.length = n → l.length = n → (∀ (i : Nat) (v : Value), l[i]? = some v → ∃ c u, cs[i]? = some c ∧ v = Value.str ⟨#[c]⟩ u) → Vals ((cs.map fun c => (⟨#[c]⟩ : Str)).map V.str) l := by
      intro n
      induction n with
      | zero =>
        intro cs l h1 h2 _
        cases cs with
        | nil => cases l with | nil => exact .nil | cons _ _ => cases h2
        | cons _ _ => cases h1
      | succ m ih =>
        intro cs l h1 h2 hl
        cases cs with
        | nil => cases h1
        | cons c cr =>
          cases l with
          | nil => cases h2
          | cons v lr =>
            obtain ⟨c', u, e1, e2⟩ := hl 0 v rfl
            have ec : c = c' := Option.some.inj e1
            subst ec
            exact .cons ⟨u, e2⟩ (ih cr lr (by simpa using h1) (by simpa using h2) fun i v hi => hl (i + 1) v hi)
    refine key x.cps.size x.cps.toList acc'.toList (by simp) (by simpa using hacc.1) fun i v hi => ?_
    obtain ⟨c, u, e1, e2⟩ := hacc.2 i v (by rw [← Array.getElem?_toList]; exact hi)
    exact ⟨c, u, by rw [Array.getElem?_toList]; exact e1, e2⟩
  refine ⟨.ref s.heap.objs.size, _, I.laid (t' := tk) kp (Nat.le_refl _) (show ObjOk X.prog X.w _ h' _ (.lst ((sgL x).map V.str)) from ⟨by rw [List.length_map, sgL, List.length_map, sizeLine_eq]; simp; omega, acc'.toList, c', hv, by rw [Array.toArray_toList]; exact e⟩), rfl, q _ (I.hok.fresh (Nat.le_refl _))⟩
section
variable {n : Nat} {te : TE} {vs : List Nat} {σ : St} {H1 : Hp} {D : Addr} {Q : Hp → Prop}
/-- [te for n in a text], te changes nothing -/
theorem lcp_str {x : Str} {f : Str → V} (nD : H1 D = none) (hlen : x.length ≤ 1000)
    (hw : ∀ c : Str, wipe ((wipe σ vs).set n (some (.str c))) vs = wipe σ vs)
    (he : ∀ c ∈ sgL x, ∀ G, Same H1 G → ∀ R : VK, R (f c) G → te ((wipe σ vs).set n (some (.str c))) G R)
    (q : Q (upd H1 D (.lst ((sgL x).map f)))) :
    ∃ W : Nat → Nat → Hp → Prop, (∃ m, W 0 m (upd H1 D (.lst []))) ∧ ∀ i m H, W i m H →
      ((Its x).stop i H ∧ Q H) ∨ ((Its x).go i H ∧ ∃ Nx : Hp → Prop, (∀ H', Nx H' → ∃ m', m' < m ∧ W (i + 1) m' H') ∧ ∀ v H', (Its x).yld i H v H' → gName n v (wipe σ vs) H' fun σ2 H2 => wipe σ2 vs = wipe σ vs ∧ tYes σ2 H2 fun b H3 =>
        if b = true then te σ2 H3 fun y H4 => ∃ acc, H4 D = some (.lst acc) ∧ acc.length < sizeLine ∧ Nx (upd H4 D (.lst (acc ++ [y]))) else Nx H3) := by
  have hz : x.cps.size ≤ 1000 := hlen
  refine lc_str (fun i G => G = upd H1 D (.lst (((sgL x).take i).map f))) rfl ?_ ?_
  · rintro i c G hc rfl
    have hs : (sgL x)[i]? = some ⟨#[c]⟩ := by unfold sgL; rw [List.getElem?_map, Array.getElem?_toList, hc]; rfl
    have hi : i < (sgL x).length := (List.getElem?_eq_some_iff.mp hs).1
    have hl : (sgL x).length = x.cps.size := by unfold sgL; simp
    refine ⟨hw _, tyes (he _ (List.mem_of_getElem? hs) _ (same_new nD _) _ ⟨_, upd_same, ?_, ?_⟩)⟩
    · rw [List.length_map, List.length_take, sizeLine_eq]; omega
    · rw [upd_upd, List.take_succ, hs, List.map_append]; rfl
  · rintro G rfl
    have hl : (sgL x).length = x.cps.size := by unfold sgL; simp
    rw [← hl, List.take_length]
    exact q
/-- [te for n in range(m)], te changes nothing but what is new -/
theorem lcp_range {m : Nat} {f : Nat → V} (nD : H1 D = none) (hlen : m ≤ 1000)
    (hw : ∀ k : Nat, wipe ((wipe σ vs).set n (some (.int (0 + (k : Int))))) vs = wipe σ vs)
    (he : ∀ k, k < m → ∀ G, Same H1 G → ∀ R : VK, (∀ G', Same G G' → R (f k) G') → te ((wipe σ vs).set n (some (.int (0 + (k : Int))))) G R)
    (q : ∀ G, Same H1 G → G D = some (.lst ((List.range m).map f)) → Q G) :
    ∃ W : Nat → Nat → Hp → Prop, (∃ m, W 0 m (upd H1 D (.lst []))) ∧ ∀ i k H, W i k H →
      ((Itr 0 m).stop i H ∧ Q H) ∨ ((Itr 0 m).go i H ∧ ∃ Nx : Hp → Prop, (∀ H', Nx H' → ∃ m', m' < k ∧ W (i + 1) m' H') ∧ ∀ x H', (Itr 0 m).yld i H x H' → gName n x (wipe σ vs) H' fun σ2 H2 => wipe σ2 vs = wipe σ vs ∧ tYes σ2 H2 fun b H3 =>
        if b = true then te σ2 H3 fun y H4 => ∃ acc, H4 D = some (.lst acc) ∧ acc.length < sizeLine ∧ Nx (upd H4 D (.lst (acc ++ [y]))) else Nx H3) := by
  refine lc_range (fun i G => Same H1 G ∧ G D = some (.lst ((List.range i).map f))) ⟨same_new nD _, upd_same⟩ ?_ ?_
  · rintro i G hi ⟨sg, hd⟩
    refine ⟨hw i, tyes (he i hi G sg _ fun G' s' => ⟨_, s' _ _ hd, ?_, ?_, ?_⟩)⟩
    · rw [List.length_map, List.length_range, sizeLine_eq]; omega
    · intro b o e
      rw [upd_ne (ne_of_none e nD)]
      exact s' _ _ (sg _ _ e)
    · rw [upd_same, List.range_succ, List.map_append]; rfl
  · rintro G ⟨sg, hd⟩
    exact q G sg hd
end
end L2
namespace Am
open PySem L2 Wd Wm Tm Ym PyProof.Rows
/-! ### names put together of two signs -/
def add1 (y x : Str) : Str := x ++ y
def short2 (p : Str) : List Str := (sgL p).map (add1 ⟨#[p.cps.toList.getD 0 0]⟩) ++ (sgL p).map (add1 ⟨#[p.cps.toList.getD 1 0]⟩)
def some2 (p : Str) : List Str := sgL p ++ short2 p ++ (short2 p).map (add1 ⟨#[p.cps.toList.getD 0 0]⟩) ++ (short2 p).map (add1 ⟨#[p.cps.toList.getD 1 0]⟩)
def pairs4 : List Str := ["ab", "qx", "yz", "mn"]
def twoL (p : Str) (at_ many : Nat) : List Str := ((some2 p ++ some2 p).drop at_).take many
theorem two_all : (pairs4.all fun p => decide (p.length = 2) && (List.range 8).all fun a => (List.range 15).all fun m => decide (twoL p a m).Nodup && (twoL p a m).all nmB && decide ((twoL p a m).length = m)) = true := by decide +kernel
theorem two_ok {p : Str} {a m : Nat} (hp : p ∈ pairs4) (ha : a < 8) (hm : m < 15) : (twoL p a m).Nodup ∧ (∀ x ∈ twoL p a m, nmB x = true) ∧ (twoL p a m).length = m := by
  have h := List.all_eq_true.mp two_all p hp
  rw [Bool.and_eq_true] at h
  have h2 := List.all_eq_true.mp (List.all_eq_true.mp h.2 a (List.mem_range.mpr ha)) m (List.mem_range.mpr hm)
  rw [Bool.and_eq_true, Bool.and_eq_true] at h2
  exact ⟨of_decide_eq_true h2.1.1, List.all_eq_true.mp h2.1.2, of_decide_eq_true h2.2⟩
theorem pairs_len : ∀ p ∈ pairs4, p.length = 2 := by decide +kernel
/-! ### a word with a letter put in -/
def bases : List Str := ["room", "lengthy", "zzz", "kkkkkk", "planets"]
theorem mkb_all : (bases.all fun b => (List.range 8).all fun a => (List.range 26).all fun c => nmB (mkN b a c) && decide (dec a (mkN b a c) = c)) = true := by decide +kernel
theorem mkb_ok {b : Str} {a c : Nat} (hb : b ∈ bases) (ha : a < 8) (hc : c < 26) : nmB (mkN b a c) = true ∧ dec a (mkN b a c) = c := by
  have h := List.all_eq_true.mp (List.all_eq_true.mp (List.all_eq_true.mp mkb_all b hb) a (List.mem_range.mpr ha)) c (List.mem_range.mpr hc)
  rw [Bool.and_eq_true] at h
  exact ⟨h.1, of_decide_eq_true h.2⟩
theorem bases_len : ∀ x ∈ bases, x.length ≤ 7 := by decide +kernel
/-! ### letters, with a tail and without -/
def tails : List Str := ["x", "zz", "qqqqqqq", "ab", "y", "aaaa"]
def mkT (t : Str) (c k : Nat) : Str := (⟨#[97 + c]⟩ : Str) ++ (if k % 2 = 0 then ("" : Str) else t)
theorem mkt_all : (tails.all fun t => (List.range 26).all fun c => (List.range 2).all fun k => nmB (mkT t c k) && decide ((mkT t c k).cps.toList.getD 0 0 = 97 + c) && (decide ((mkT t c k).length = 1) == decide (k = 0))) = true := by decide +kernel
theorem mkt_ok {t : Str} {c k : Nat} (ht : t ∈ tails) (hc : c < 26) (hk : k < 2) : nmB (mkT t c k) = true ∧ (mkT t c k).cps.toList.getD 0 0 = 97 + c ∧ ((mkT t c k).length = 1 ↔ k = 0) := by
  have h := List.all_eq_true.mp (List.all_eq_true.mp (List.all_eq_true.mp mkt_all t ht) c (List.mem_range.mpr hc)) k (List.mem_range.mpr hk)
  rw [Bool.and_eq_true, Bool.and_eq_true] at h
  refine ⟨h.1.1, of_decide_eq_true h.1.2, ?_⟩
  have := h.2
  rw [beq_iff_eq] at this
  exact decide_eq_decide.mp this
theorem tails_len : ∀ x ∈ tails, x.length ≤ 7 := by decide +kernel
end Am

/-! For each name those that go with it, as lists in a dict. -/
namespace Zm
open PySem L2 Wd Wm Km Bm Gm Hm Fm Fn PyProof.Rows
/-- the names tied to x, in the order of the ties -/
def nb (ts : List SS) (x : Str) : List Str := ts.flatMap fun p => if p.1 = x then [p.2] else if p.2 = x then [p.1] else []
/-- lists in a dict: the list of x stands at A x and holds c x -/
structure GoL (H G : Hp) (wy : Addr) (ns : List Str) (A : Str → Addr) (c : Str → List Str) : Prop where
  s : Same H G
  d : ∃ kvs, G wy = some (.dK kvs) ∧ kvs.length ≤ 100 ∧ ∀ x ∈ ns, valV kvs (Sum.inr x) = some (.ref (A x))
  l : ∀ x ∈ ns, G (A x) = some (.lst ((c x).map V.str))
  inj : ∀ x ∈ ns, ∀ y ∈ ns, A x = A y → x = y
  fr : ∀ x ∈ ns, H (A x) = none
  wy : H wy = none
section
variable {H G G' : Hp} {wy : Addr} {ns : List Str} {A : Str → Addr} {c : Str → List Str}
theorem GoL.same (h : GoL H G wy ns A c) (s : Same G G') : GoL H G' wy ns A c := by
  obtain ⟨kvs, k1, k2, k3⟩ := h.d
  exact ⟨h.s.trans s, ⟨kvs, s _ _ k1, k2, k3⟩, fun x hx => s _ _ (h.l x hx), h.inj, h.fr, h.wy⟩
theorem GoL.start (n : H wy = none) : GoL H (upd H wy (.dK [])) wy [] A c := ⟨same_new n _, ⟨[], upd_same, Nat.zero_le _, fun x hx => by cases hx⟩, (fun x hx => by cases hx), (fun x hx => by cases hx), (fun x hx => by cases hx), n⟩
/-- x gets a new list at l: x is new, or had one -/
theorem GoL.put (h : GoL H G wy ns A c) {x : Str} {l : Addr} (nl : G l = none) (ls : List Str) {kvs : List (Key × V)} (hk : (upd G l (.lst (ls.map V.str))) wy = some (.dK kvs)) (hl : kvs.length < 100) :
    GoL H (upd (upd G l (.lst (ls.map V.str))) wy (.dK (putK kvs (Sum.inr x) (.ref l)))) wy (if x ∈ ns then ns else ns ++ [x]) (fun y => if y = x then l else A y) (fun y => if y = x then ls else c y) := by
  obtain ⟨kv, k1, k2, k3⟩ := h.d
  have nlw : wy ≠ l := ne_of_none k1 nl
  rw [upd_ne nlw, k1] at hk
  cases hk
  have s1 : Same H (upd G l (.lst (ls.map V.str))) := h.s.trans (same_new nl _)
  have mem : ∀ y, y ∈ (if x ∈ ns then ns else ns ++ [x]) → y = x ∨ y ∈ ns := fun y hy => by
    split at hy
    · exact .inr hy
    · rcases List.mem_append.mp hy with z | z
      · exact .inr z
      · exact .inl (List.mem_singleton.mp z)
  have nAl : ∀ y ∈ ns, A y ≠ l := fun y hy => ne_of_none (h.l y hy) nl
  have nAw : ∀ y ∈ ns, A y ≠ wy := fun y hy => ne_of (h.l y hy) k1 (by intro z; cases z)
  refine ⟨same_w s1 h.wy _, ⟨_, upd_same, Nat.le_trans (length_putK _ _ _) (by omega), fun y hy => ?_⟩, fun y hy => ?_, fun y hy z hz e => ?_, fun y hy => ?_, h.wy⟩
  · rw [valV_put]
    by_cases e : y = x
    · rw [if_pos (by rw [e]), if_pos e]
    · rw [if_neg (fun q => e (Sum.inr.inj q)), if_neg e]
      exact k3 y ((mem y hy).resolve_left e)
  · by_cases e : y = x
    · simp only [if_pos e]
      rw [upd_ne nlw.symm, upd_same]
    · simp only [if_neg e]
      have hy' := (mem y hy).resolve_left e
      rw [upd_ne (nAw y hy'), upd_ne (nAl y hy')]
      exact h.l y hy'
  · by_cases e1 : y = x <;> by_cases e2 : z = x
    · rw [e1, e2]
    · simp only [if_pos e1, if_neg e2] at e
      exact absurd e.symm (nAl z ((mem z hz).resolve_left e2))
    · simp only [if_neg e1, if_pos e2] at e
      exact absurd e (nAl y ((mem y hy).resolve_left e1))
    · simp only [if_neg e1, if_neg e2] at e
      exact h.inj y ((mem y hy).resolve_left e1) z ((mem z hz).resolve_left e2) e
  · by_cases e : y = x
    · simp only [if_pos e]
      exact h.s.free nl
    · simp only [if_neg e]
      exact h.fr y ((mem y hy).resolve_left e)
theorem GoL.get (h : GoL H G wy ns A c) {x : Str} (hx : x ∈ ns) : DGet G wy (.str x) (some (.ref (A x))) := by
  obtain ⟨kv, k1, k2, k3⟩ := h.d
  rw [← k3 x hx]
  exact DGet.k (k := Sum.inr x) k1
theorem GoL.congr {ns' : List Str} {c' : Str → List Str} (h : GoL H G wy ns A c) (e : ∀ x, x ∈ ns' → x ∈ ns) (k : ∀ x ∈ ns', c x = c' x) : GoL H G wy ns' A c' :=
  ⟨h.s, let ⟨kv, k1, k2, k3⟩ := h.d; ⟨kv, k1, k2, fun x hx => k3 x (e x hx)⟩, fun x hx => by rw [← k x hx]; exact h.l x (e x hx), fun x hx y hy => h.inj x (e x hx) y (e y hy), fun x hx => h.fr x (e x hx), h.wy⟩
end
/-- what a dict of lists tells; its lists are new since H -/
structure Goers (H G : Hp) (wy : Addr) (names : List Str) (g : Str → Str → Bool) : Prop where
  at_ : ∃ kvs, G wy = some (.dK kvs) ∧ ∀ x ∈ names, ∃ (l : Addr) (ls : List Str), valV kvs (Sum.inr x) = some (.ref l) ∧ G l = some (.lst (ls.map V.str)) ∧ H l = none ∧ ls.length ≤ 300 ∧ (∀ y ∈ ls, y ∈ names) ∧ ∀ y ∈ names, decide (y ∈ ls) = g x y
/-- the same, by functions; apart from a list at fo -/
structure Gof (G : Hp) (wy fo : Addr) (names : List Str) (g : Str → Str → Bool) (A : Str → Addr) (L : Str → List Str) : Prop where
  d : ∃ kvs, G wy = some (.dK kvs) ∧ ∀ x ∈ names, valV kvs (Sum.inr x) = some (.ref (A x))
  l : ∀ x ∈ names, G (A x) = some (.lst ((L x).map V.str))
  ne : ∀ x ∈ names, A x ≠ fo
  nw : wy ≠ fo
  few : ∀ x ∈ names, (L x).length ≤ 300
  sub : ∀ x ∈ names, ∀ y ∈ L x, y ∈ names
  is : ∀ x ∈ names, ∀ y ∈ names, decide (y ∈ L x) = g x y
section
variable {H G G' : Hp} {wy fo : Addr} {names : List Str} {g : Str → Str → Bool} {A : Str → Addr} {L : Str → List Str}
theorem Goers.fn (h : Goers H G wy names g) {us : List V} (hf : H fo = some (.lst us)) (hf' : G fo = some (.lst us)) : ∃ A L, Gof G wy fo names g A L := by
  classical
  obtain ⟨kvs, k1, k2⟩ := h.at_
  have k3 : ∀ x : Str, ∃ (p : Addr × List Str), x ∈ names → valV kvs (Sum.inr x) = some (.ref p.1) ∧ G p.1 = some (.lst (p.2.map V.str)) ∧ H p.1 = none ∧ p.2.length ≤ 300 ∧ (∀ y ∈ p.2, y ∈ names) ∧ ∀ y ∈ names, decide (y ∈ p.2) = g x y := fun x => by
    by_cases c : x ∈ names
    · obtain ⟨l, ls, r⟩ := k2 x c
      exact ⟨(l, ls), fun _ => r⟩
    · exact ⟨(0, []), fun z => absurd z c⟩
  refine ⟨fun x => (Classical.choose (k3 x)).1, fun x => (Classical.choose (k3 x)).2, ⟨kvs, k1, fun x hx => (Classical.choose_spec (k3 x) hx).1⟩, fun x hx => (Classical.choose_spec (k3 x) hx).2.1, fun x hx => ?_, ne_of k1 hf' (by intro z; cases z), fun x hx => (Classical.choose_spec (k3 x) hx).2.2.2.1, fun x hx => (Classical.choose_spec (k3 x) hx).2.2.2.2.1, fun x hx => (Classical.choose_spec (k3 x) hx).2.2.2.2.2⟩
  exact (ne_of_none hf (Classical.choose_spec (k3 x) hx).2.2.1).symm
theorem Gof.kb (h : Gof G wy fo names g A L) (k : KB fo G G') : Gof G' wy fo names g A L := by
  obtain ⟨kvs, k1, k2⟩ := h.d
  exact ⟨⟨kvs, k _ _ k1 h.nw, k2⟩, fun x hx => k _ _ (h.l x hx) (h.ne x hx), h.ne, h.nw, h.few, h.sub, h.is⟩
theorem Gof.get (h : Gof G wy fo names g A L) {x : Str} (hx : x ∈ names) : DGet G wy (.str x) (some (.ref (A x))) := by
  obtain ⟨kvs, k1, k2⟩ := h.d
  rw [← k2 x hx]
  exact DGet.k (k := Sum.inr x) k1
end
end Zm
namespace L2
open PySem PySem.Spec PyProof.Rows
end L2

/-! min(rows), rows.remove(row), len(d) and {row: x} of tuple keys; own classes behind structures. -/
namespace L2
open PySem PySem.Spec PySem.W PyProof.Rows
/-! ### min -/
section
variable {prog : Program} {w : World} {A : Around} {R : Result → Shared → Prop} {it : Addr} {fp wr : List Addr} {n : Nat} {Pv : Nat → Value → Prop} {Sv : Nat → Heap → Prop}
/-- a comparison that holds where the heap h0 stands -/
def CmpH (prog : Program) (w : World) (A : Around) (h0 : Heap) (Pv : Nat → Value → Prop) (bt : Nat → Nat → Bool) : Prop :=
  ∀ i j (u v : Value) (s : Shared) (Q E : Value → Shared → Prop), (∀ b o, h0.get? b = some o → s.heap.get? b = some o) → Pv i u → Pv j v → Q (.bool (bt i j)) s → wpAny (model prog w) A (richCompare .Lt u v) Q E s
theorem minH_loop (U : Walks prog w A.in1 it fp wr n Pv Sv) {h0 : Heap} (bt : Nat → Nat → Bool) (hc : CmpH prog w A.in1 h0 Pv bt) (T : Addr) (hT : T ∉ fp) (hw : ∀ b o, h0.get? b = some o → b ∉ wr ∧ b ≠ T) :
    ∀ (k j : Nat) (s : Shared) (best : Value) (c : Nat), n = j + 1 + k → Sv (j + 1) s.heap → Pv (argBest bt j) best → (∀ b o, h0.get? b = some o → s.heap.get? b = some o) →
    s.heap.get? T = some { cls := .type "list", dict := none, data := .seq #[best, best] c, slots := #[] } →
    (∀ v h' tk, Pv (argBest bt (n - 1)) v → (∀ b o, h0.get? b = some o → h'.get? b = some o) → R (.ok (.ret v)) { s with heap := h', toks := tk }) →
    codeAny (model prog w) A (.builtin "min.loop" ⟨[.ref it, .none, .ref T], []⟩) R s := by
  have nT : T ∉ wr := fun z => hT (U.sub _ z)
  have hnm : (toString "min" ++ toString ".loop" : String) = "min.loop" := by decide
  intro k
  induction k with
  | zero =>
    intro j s best c hn sv pb h0s hTs hR
    have en : j + 1 = n := by omega
    refine codeAny_builtin PySem.F.entry_min_loop ?_
    rw [Around.under_plainId PySem.F.plain_min_loop _]
    show wpAny _ A.in1 (seqItems? (.ref T) >>= _) _ _ s
    refine wpAny_bind (wpAny_seqItems hTs rfl ?_)
    show wpAny _ A.in1 (tryCatch (pyNext (.ref it)) _ >>= _) _ _ s
    refine wpAny_bind (wpAny_tryCatch (U.done s _ _ (en ▸ sv) fun h' tk kp => ?_))
    have hT' := kp T _ nT hTs
    show wpAny _ A.in1 (updateSeq T (fun _ => #[]) >>= _) _ _ _
    refine wpAny_bind (wpAny_updateSeq hT' rfl (wpAny_bind (wpAny_letGo (wpAny_pure ?_))))
    refine hR best _ tk (by rw [← en]; exact pb) fun b o e => ?_
    obtain ⟨w1, w2⟩ := hw b o e
    exact (Heap.get?_update_other _ _ w2.symm).trans (kp b o w1 (h0s b o e))
  | succ k ih =>
    intro j s best c hn sv pb h0s hTs hR
    have lt : j + 1 < n := by omega
    refine codeAny_builtin PySem.F.entry_min_loop ?_
    rw [Around.under_plainId PySem.F.plain_min_loop _]
    show wpAny _ A.in1 (seqItems? (.ref T) >>= _) _ _ s
    refine wpAny_bind (wpAny_seqItems hTs rfl ?_)
    show wpAny _ A.in1 (tryCatch (pyNext (.ref it)) _ >>= _) _ _ s
    refine wpAny_bind (wpAny_tryCatch (U.item (j + 1) s _ _ lt sv fun v h' tk pv sv' kp => ?_))
    have hT' := kp T _ nT hTs
    have h0' : ∀ b o, h0.get? b = some o → h'.get? b = some o := fun b o e => kp b o (hw b o e).1 (h0s b o e)
    show wpAny _ A.in1 (tryCatch (holding [v, v] (richCompare .Lt v best >>= _)) _ >>= _) _ _ _
    refine wpAny_bind (wpAny_tryCatch (wpAny_holding (wpAny_bind (hc (j + 1) (argBest bt j) v best _ _ _ h0' pv pb ?_))))
    refine wpAny_bind (wpAny_holding (wpAny_truthy_bool (wpAny_bind (wpAny_letGo (wpAny_pure ?_)))))
    cases e : bt (j + 1) (argBest bt j) with
    | true =>
      rw [if_pos rfl]
      refine wpAny_bind (wpAny_updateSeq hT' rfl (wpAny_bind (wpAny_letGo ?_)))
      rw [hnm]
      refine wpAny_pure ⟨plainId_quiet PySem.F.plain_min_loop _, ih (j + 1) _ v _ (by omega) (U.frame _ _ _ sv' fun b hb o q => ?_) (by rw [argBest, e, if_pos rfl]; exact pv) (fun b o q => ?_) (Heap.get?_update_self _ hT' rfl) hR⟩
      · exact (Heap.get?_update_other _ _ fun z : T = b => hT (z ▸ hb)).trans q
      · exact (Heap.get?_update_other _ _ (hw b o q).2.symm).trans (h0' b o q)
    | false =>
      rw [if_neg Bool.false_ne_true]
      refine wpAny_bind (wpAny_letGo ?_)
      rw [hnm]
      exact wpAny_pure ⟨plainId_quiet PySem.F.plain_min_loop _, ih (j + 1) _ best c (by omega) sv' (by rw [argBest, e, if_neg Bool.false_ne_true]; exact pb) h0' hT' hR⟩
end
section
variable {prog : Program} {w : World} {A : Around} {E : Value → Shared → Prop} {s : Shared}
theorem minH_call {l : Addr} {its : Array Value} {bt : Nat → Nat → Bool} {Q : Value → Shared → Prop} (nh : A.handled = none) (hl : s.heap.IsList l its) (hpos : 0 < its.size)
    (hc : CmpH prog w A.in1 s.heap (fun i v => its[i]? = some v) bt)
    (h : ∀ v h' tk, its[argBest bt (its.size - 1)]? = some v → (∀ b o, s.heap.get? b = some o → h'.get? b = some o) → Q v { s with heap := h', toks := tk }) : wpAny (model prog w) A (call (.builtin "min") [.ref l]) Q E s := by
  have hnm : (toString "min" ++ toString ".loop" : String) = "min.loop" := by decide
  have lls : l < s.heap.objs.size := let ⟨_, e, _⟩ := hl; Heap.lt_size e
  refine call_function_tree PySem.F.kind_min PySem.F.plain_min PySem.F.entry_min (PySem.F.args_min1 _) ?_
  show wpAny _ A.in1 (Builtin.Builtins.bindParams "min" ["key", "default"] 0 ⟨[], []⟩ >>= _) _ _ s
  refine wpAny_bind (wpAny_of_eq (show Builtin.Builtins.bindParams "min" ["key", "default"] 0 ⟨[], []⟩ = pure [none, none] from rfl) (wpAny_bind (wpAny_pure ?_)))
  refine wpAny_bind (wpAny_pyIter_list hl ?_)
  refine wpAny_bind (wpAny_newObj_type ?_)
  rw [hnm]
  have hsz1 : (s.heap.push { cls := .type "list_iterator", data := .fields #[.ref l, .int 0 0] }).objs.size = s.heap.objs.size + 1 := Heap.size_push ..
  have ni : l ≠ s.heap.objs.size := Nat.ne_of_lt lls
  have U := Walks.list (prog := prog) (w := w) (A := A.in1) nh s.heap.objs.size l ni its
  have nT : (s.heap.push { cls := .type "list_iterator", data := .fields #[.ref l, .int 0 0] }).objs.size ∉ [s.heap.objs.size, l] := by
    rw [hsz1]
    simp only [List.mem_cons, List.not_mem_nil, or_false, not_or]
    exact ⟨Nat.succ_ne_self _, Nat.ne_of_gt (Nat.lt_succ_of_lt lls)⟩
  have hT0 : ((s.heap.push { cls := .type "list_iterator", data := .fields #[.ref l, .int 0 0] }).push { cls := .type "list", data := .seq #[] }).get? (s.heap.push { cls := .type "list_iterator", data := .fields #[.ref l, .int 0 0] }).objs.size = some { cls := .type "list", data := .seq #[] } := Heap.get?_push_size _ rfl
  have hw : ∀ b o, s.heap.get? b = some o → b ∉ [s.heap.objs.size] ∧ b ≠ (s.heap.push { cls := .type "list_iterator", data := .fields #[.ref l, .int 0 0] }).objs.size := fun b o e => by
    have := Heap.lt_size e
    rw [hsz1]
    exact ⟨fun z => absurd (List.mem_singleton.mp z) (Nat.ne_of_lt this), Nat.ne_of_lt (Nat.lt_succ_of_lt this)⟩
  refine wpAny_pure ⟨plainId_quiet PySem.F.plain_min_loop _, codeAny_builtin PySem.F.entry_min_loop ?_⟩
  rw [Around.under_plainId PySem.F.plain_min_loop _]
  generalize hH : (s.heap.push { cls := .type "list_iterator", data := .fields #[.ref l, .int 0 0] }) = g1 at *
  have h01 : ∀ b o, s.heap.get? b = some o → (g1.push { cls := .type "list", data := .seq #[] }).get? b = some o := fun b o e => Heap.get?_push_of_some _ (by rw [← hH]; exact Heap.get?_push_of_some _ e)
  have sv0 : (g1.push { cls := .type "list", data := .seq #[] }).IsListIter s.heap.objs.size l 0 ∧ (g1.push { cls := .type "list", data := .seq #[] }).IsList l its := by
    refine ⟨⟨_, Heap.get?_push_of_some _ (by rw [← hH]; exact Heap.get?_push_size _ rfl), rfl, rfl⟩, ?_⟩
    obtain ⟨o, e1, e2⟩ := hl
    exact ⟨o, h01 _ _ e1, e2⟩
  have hnT : g1.objs.size ∉ [s.heap.objs.size] := fun z => nT (List.mem_cons.mpr (.inl (List.mem_singleton.mp z)))
  show wpAny _ A.in1 (seqItems? (.ref g1.objs.size) >>= _) _ _ _
  refine wpAny_bind (wpAny_seqItems hT0 rfl ?_)
  show wpAny _ A.in1 (tryCatch (pyNext (.ref s.heap.objs.size)) _ >>= _) _ _ _
  refine wpAny_bind (wpAny_tryCatch (U.item 0 _ _ _ hpos sv0 fun v h' tk pv sv' kp => ?_))
  have hT' := kp _ _ hnT hT0
  show wpAny _ A.in1 (updateSeq g1.objs.size (fun _ => #[v, v]) >>= _) _ _ _
  refine wpAny_bind (wpAny_updateSeq hT' rfl ?_)
  rw [hnm]
  refine wpAny_pure ⟨plainId_quiet PySem.F.plain_min_loop _, minH_loop (A := A) U bt hc g1.objs.size nT hw (its.size - 1) 0 _ v _ (by omega) (U.frame _ _ _ sv' fun b hb o q => ?_) pv (fun b o q => ?_) (Heap.get?_update_self _ hT' rfl) fun v' h'' tk'' pv' kp' => ?_⟩
  · exact (Heap.get?_update_other _ _ fun z : g1.objs.size = b => nT (z ▸ hb)).trans q
  · exact (Heap.get?_update_other _ _ (hw b o q).2.symm).trans (kp b o (hw b o q).1 (h01 b o q))
  · exact h v' h'' tk'' pv' kp'
end
end L2
namespace L2
open PySem PySem.Spec PySem.W PyProof.Rows
theorem best_le {bt : Nat → Nat → Bool} (val : Nat → List Str) (hb : ∀ i j, bt i j = LS.lexS (val i) (val j)) : ∀ k, argBest bt k ≤ k ∧ ∀ j, j ≤ k → LS.lexS (val j) (val (argBest bt k)) = false
  | 0 => ⟨Nat.le_refl _, fun j hj => by
    have : j = 0 := by omega
    subst this
    exact Zm.lex_irr _⟩
  | k + 1 => by
    obtain ⟨h1, h2⟩ := best_le val hb k
    rw [argBest]
    cases e : bt (k + 1) (argBest bt k) with
    | true =>
      rw [if_pos rfl]
      rw [hb] at e
      refine ⟨Nat.le_refl _, fun j hj => ?_⟩
      by_cases c : j = k + 1
      · rw [c]; exact Zm.lex_irr _
      · have z := h2 j (by omega)
        cases q : LS.lexS (val j) (val (k + 1)) with
        | false => rfl
        | true => rw [Zm.lex_tr q e] at z; cases z
    | false =>
      rw [if_neg Bool.false_ne_true]
      rw [hb] at e
      refine ⟨by omega, fun j hj => ?_⟩
      by_cases c : j = k + 1
      · rw [c]; exact e
      · exact h2 j (by omega)
section
variable {X : Cx}
def rMinR (K : PySem.W.Frag) : List V → Hp → VK → Prop := fun vs H Q => ∃ (a : Addr) (xs : List V) (L : List (List Str)), vs = [V.ref a] ∧ SqL K H a xs ∧ Rws K H xs L ∧ 0 < L.length ∧
  ∀ (j : Nat) (v : V) (r : List Str), xs[j]? = some v → L[j]? = some r → IsRowT K H v r → (∀ r' ∈ L, LS.lexS r' r = false) → Q v H
theorem cr_minR (hc : X.calm = true) (hu : X.A.units + 64 < cLine) : CallR X (.builtin "min") (rMinR X.K) := by
  intro pins s σ H vs us Q I r h
  obtain ⟨a, xs, L, rfl, hs, hL, hpos, q⟩ := h
  obtain ⟨its, rv, hl, _⟩ := I.list hs
  rw [Vals.ref1 r]
  have l1 := rv.length
  have l2 := Paired.length hL
  have hu1 : X.A.in1.units < cLine := by
    have : X.A.in1.units = X.A.units + 1 := rfl
    omega
  have at_ : ∀ (i : Nat) (u : Value), its.toArray[i]? = some u → ∃ v r, xs[i]? = some v ∧ L[i]? = some r ∧ RelV v u ∧ IsRowT X.K H v r := fun i u e => by
    have hi : i < its.length := by
      have := (Array.getElem?_eq_some_iff.mp e).1
      simpa using this
    have ei : its[i]? = some u := by simpa using e
    have hx : xs[i]? = some xs[i] := List.getElem?_eq_getElem (by omega)
    have hr : L[i]? = some L[i] := List.getElem?_eq_getElem (by omega)
    obtain ⟨u', e1, e2⟩ := rv.get hx
    rw [ei] at e1
    cases e1
    exact ⟨_, _, hx, hr, e2, Paired.get hL hx hr⟩
  refine minH_call (I.ok.hd hc) hl.isList (by simp; omega) (bt := fun i j => LS.lexS (L.getD i []) (L.getD j [])) (fun i j u v s2 Q2 E2 kp hu' hv' hq => ?_) (fun v h' tk hv kp => ?_)
  · obtain ⟨vi, ri, _, hri, rvi, hrow⟩ := at_ i u hu'
    obtain ⟨vj, rj, _, hrj, rvj, hrow'⟩ := at_ j v hv'
    obtain ⟨b, i1, rfl, ⟨o1, t1, t1'⟩, v1, _⟩ := row_atT I hrow rvi
    obtain ⟨c, i2, rfl, ⟨o2, t2, t2'⟩, v2, _⟩ := row_atT I hrow' rvj
    have e : LS.lexS (L.getD i []) (L.getD j []) = LS.lexS ri rj := by
      rw [List.getD_eq_getElem?_getD, List.getD_eq_getElem?_getD, hri, hrj]
      rfl
    simp only [e] at hq
    exact LS.lt_strs ⟨o1, kp _ _ t1, t1'⟩ ⟨o2, kp _ _ t2, t2'⟩ (by simpa using v1.strs) (by simpa using v2.strs) hu1 hq
  · obtain ⟨h1, h2⟩ := best_le (bt := fun i j => LS.lexS (L.getD i []) (L.getD j [])) (fun i => L.getD i []) (fun _ _ => rfl) (its.toArray.size - 1)
    obtain ⟨x, rr, hx, hr, rx, hrow⟩ := at_ _ v hv
    refine ⟨x, H, I.kept kp, rx, q _ x rr hx hr hrow fun r' hr' => ?_⟩
    obtain ⟨j, hj⟩ := List.getElem?_of_mem hr'
    have hjl := (List.getElem?_eq_some_iff.mp hj).1
    have z := h2 j (by simp; omega)
    rw [List.getD_eq_getElem?_getD, List.getD_eq_getElem?_getD, hj, hr] at z
    exact z
/-! ### remove -/
theorem rem_loop (l : Addr) (items : Array Value) (n : Nat) (x : Value) (eq : Value → Bool) (j : Nat) (hj : j < items.size) (hit : eq items[j] = true) (hz : items.size ≤ sizeLine) (m : Nat) :
    ∀ i : Nat, j = i + m → (∀ d (hd : d < items.size), i ≤ d → d < j → eq items[d] = false) → Meets (Builtin.«list.remove.loop» ⟨[.ref l, x, rawInt i], []⟩)
      (fun A R s => s.heap.get? l = some { cls := .type "list", dict := none, data := .seq items n, slots := #[] } ∧ (∀ y, y ∈ items → SeqAt.EqAt A.in1 s y x (eq y)) ∧ R (.ok (.ret .none)) { s with heap := s.heap.update l (Obj.mapSeq fun xs => xs.eraseIdxIfInBounds j) }) := by
  induction m with
  | zero =>
    intro i ej hno prog w A R s ⟨hl, he, hR⟩
    have e0 : i = j := by omega
    subst e0
    obtain ⟨hp, g, d, tk, os⟩ := s
    wp_walk using wpAny_loadPart' hl
    rw [show items[((i : Nat) : Int).toNat]? = some items[i] from by simp [hj]]
    refine wpAny_bind (he _ (Array.getElem_mem hj) prog w _ _ ?_)
    rw [hit]
    have hz2 : (items.eraseIdxIfInBounds i).size ≤ sizeLine + 1 := Nat.le_trans (MeetsSeq.size_erased items _) (Nat.le_succ_of_le hz)
    wp_walk using (wpAny_updateSeq hl rfl (hz := hz) (_hz' := hz2)), wpAny_loadPart' hl
    simpa using hR
  | succ m ih =>
    intro i ej hno prog w A R s ⟨hl, he, hR⟩
    have hlt : i < items.size := by omega
    obtain ⟨hp, g, d, tk, os⟩ := s
    wp_walk using wpAny_loadPart' hl
    have hn1 : ((i : Int) + 1) = ((i + 1 : Nat) : Int) := by omega
    rw [show items[((i : Nat) : Int).toNat]? = some items[i] from by simp [hlt]]
    refine wpAny_bind (he _ (Array.getElem_mem hlt) prog w _ _ ?_)
    rw [hno i hlt (Nat.le_refl i) (by omega)]
    wp_walk
    rw [hn1]
    refine ⟨plainId_quiet MeetsSeq.plain_remove_loop _, codeAny_builtin MeetsSeq.entry_remove_loop ?_⟩
    rw [Around.under_plainId MeetsSeq.plain_remove_loop _]
    exact ih (i + 1) (by omega) (fun d hd h1 h2 => hno d hd (by omega) h2) prog w A R _ ⟨hl, he, hR⟩
theorem rem_meets (l : Addr) (items : Array Value) (n : Nat) (x : Value) (eq : Value → Bool) (j : Nat) (hj : j < items.size) (hit : eq items[j] = true) (hz : items.size ≤ sizeLine) (hno : ∀ d (hd : d < items.size), d < j → eq items[d] = false) :
    Meets (Builtin.«list.remove» ⟨[.ref l, x], []⟩)
      (fun A R s => s.heap.get? l = some { cls := .type "list", dict := none, data := .seq items n, slots := #[] } ∧ (∀ y, y ∈ items → SeqAt.EqAt A.in1 s y x (eq y)) ∧ R (.ok (.ret .none)) { s with heap := s.heap.update l (Obj.mapSeq fun xs => xs.eraseIdxIfInBounds j) }) := by
  intro prog w A R s ⟨hl, he, hR⟩
  obtain ⟨hp, g, d, tk, os⟩ := s
  wp_walk using wpAny_loadPart' hl
  refine ⟨plainId_quiet MeetsSeq.plain_remove_loop _, codeAny_builtin MeetsSeq.entry_remove_loop ?_⟩
  rw [Around.under_plainId MeetsSeq.plain_remove_loop _]
  exact rem_loop l items n x eq j hj hit hz j 0 (by omega) (fun d hd _ h2 => hno d hd h2) prog w A R _ ⟨hl, he, hR⟩
end
end L2

/-! rows.remove(row); {row: x}; own classes behind structures. -/
namespace L2
open PySem PySem.Spec PySem.W PyProof.Rows
section
variable {X : Cx}
def rRemR (K : PySem.W.Frag) : V → List V → Hp → VK → Prop := fun x vs H Q => ∃ (l : Addr) (ys : List V) (L : List (List Str)) (y : V) (r : List Str) (j : Nat), x = V.ref l ∧ vs = [y] ∧ H l = some (.lst ys) ∧ Rws K H ys L ∧ IsRowT K H y r ∧ L[j]? = some r ∧ (∀ m, m < j → L[m]? ≠ some r) ∧
  Q .non (upd H l (.lst (ys.eraseIdx j)))
theorem vals_erase : ∀ {xs : List V} {us : List Value} (k : Nat), Vals xs us → Vals (xs.eraseIdx k) (us.eraseIdx k)
  | _, _, _, .nil => .nil
  | _, _, 0, .cons _ t => t
  | _, _, k + 1, .cons r t => .cons r (vals_erase k t)
theorem mt_removeR (hu : X.A.units + 64 < cLine) : MtM X "list.remove" (rRemR X.K) := by
  intro pins s σ H x vs v us Q I rx rv h
  obtain ⟨l, ys, L, y, r, j, rfl, rfl, hH, hL, hy, hj0, hno, q⟩ := h
  cases rx
  obtain ⟨uy, rfl, ry⟩ := rv.one
  obtain ⟨z, its, n, rs, hl, e⟩ := I.lstM hH
  have hu1 : X.A.in1.units < cLine := by
    have : X.A.in1.units = X.A.units + 1 := rfl
    omega
  obtain ⟨b, i1, rfl, t1, v1, e1⟩ := row_atT I hy ry
  have hvl := rs.length
  have hLl : ys.length = L.length := Paired.length hL
  have at_ : ∀ m (hm : m < its.length) r', L[m]? = some r' → rowOf s.heap its[m] = some r' := fun m hm r' hr' => by
    have hyl : m < ys.length := by omega
    have hym : ys[m]? = some ys[m] := List.getElem?_eq_getElem hyl
    obtain ⟨u, hu', ru⟩ := rs.get hym
    have eu : its[m] = u := by
      have := List.getElem?_eq_getElem hm
      rw [this] at hu'
      exact Option.some.inj hu'
    rw [eu]
    obtain ⟨_, _, _, _, _, z⟩ := row_atT I (Paired.get hL hym hr') ru
    exact z
  have hjl : j < L.length := (List.getElem?_eq_some_iff.mp hj0).1
  have hj : j < its.toArray.size := by simp; omega
  have hsl := sizeLine_eq
  refine call_meets PySem.F.slot_list_remove ⟨_, e, rfl⟩ PySem.F.entry_list_remove (PySem.F.args_list_remove_2 _ _)
    (rem_meets l its.toArray n (.ref b) (fun u => decide (rowOf s.heap u = some r)) j hj ?_ (by simp; omega) ?_) ⟨e, fun w hw => ?_, ?_⟩
  · have := at_ j (by simpa using hj) r hj0
    simpa using this
  · intro m hm hmj
    have hml : m < its.length := by simpa using hm
    obtain ⟨r', hr'⟩ : ∃ r', L[m]? = some r' := ⟨L[m]'(by omega), List.getElem?_eq_getElem (by omega)⟩
    have := at_ m hml r' hr'
    have ne : r' ≠ r := fun e => hno m hmj (by rw [hr', e])
    simp [this, ne]
  · obtain ⟨v', ws', hv', rv'⟩ := mem_vals rs hL w (by simpa using hw)
    obtain ⟨c, i2, rfl, t2, v2, e2⟩ := row_atT I hv' rv'
    have z := eqAt_rowT (A := X.A.in1) t2 t1 v2 v1 hu1
    have e : decide (rowOf s.heap (.ref c) = some r) = decide (ws' = r) := by
      rw [e2]
      by_cases c : ws' = r <;> simp [c]
    rw [e]
    exact z
  · refine ⟨.non, _, I.lset (its' := its.eraseIdx j) hH e ?_ (vals_erase j rs) ?_, rfl, q⟩
    · show its.toArray.eraseIdxIfInBounds j = (its.eraseIdx j).toArray
      rw [List.eraseIdxIfInBounds_toArray]
    · have := List.length_eraseIdx_le ys j
      omega
/-! ### {row: x} -/
def tDispT (tk tv : TE) : TE := fun σ H Q => ∀ p, H p = none → tk σ (upd H p (.dT [])) fun x H1 => tv σ H1 fun y H2 => ∃ (b : Addr) (k : List Key), x = V.ref b ∧ H2 b = some (.tup (k.map kV)) ∧ H2 p = some (.dT []) ∧ Q (.ref p) (upd H2 p (.dT [(k, y)]))
theorem edispT {k v : Expr} {tk tv : TE} {pos : Pos} (hu : X.A.units + 64 < cLine) (hk : SE X k tk) (hv : SE X v tv) : SE X (.Dict [some k] [v] pos) (tDispT tk tv) := by
  refine ⟨fun pins s σ H Q I q => ?_⟩
  have hn := I.hok.fresh (Nat.le_refl s.heap.objs.size)
  have I1 := I.laid (a := s.heap.objs.size) (o := .dT []) (h' := s.heap.push { cls := .type "dict", data := .dict #[] }) (t' := s.toks) (fun _ _ q => Heap.get?_push_of_some _ q) (Nat.le_refl _) (dt_empty s.heap I.big)
  refine wpAny_Dict_any rfl rfl (by simp) (by simp) (pairTrees_cons_walk (thn (hk.o pins _ σ _ _ I1 (q _ hn)) fun u s1 ⟨x, H1, J1, rx, q1⟩ => thn (hv.o pins s1 σ H1 _ J1 q1) fun w2 s2 ⟨y, H2, J2, ry, b, ks, ex, eb, ep, q2⟩ => pairTrees_nil_walk ?_))
  subst ex
  cases (show u = Value.ref b from rx)
  obtain ⟨z, hd, xs, rel, dd⟩ := dt_of J2.hok ep
  have hz : xs.length ≤ sizeLine := by rw [← Paired.length rel]; exact z
  unfold storeAll
  rw [List.forIn_cons]
  refine wpAny_bind (wpAny_bind (wpAny_dictSet_heap (hsz := hz) (show (tupleKind (mixKind X.prog X.w)).room X.A from by show X.A.units < cLine; omega) (key_of J2.hok eb) dd (fun h' dd' hs => wpAny_pure ?_)))
  show wpAny _ _ (forIn [] PUnit.unit _) _ _ _
  rw [List.forIn_nil]
  refine wpAny_pure ⟨.ref s.heap.objs.size, _, ?_, rfl, q2⟩
  obtain ⟨o, es, ep', hq, h2, h3, h4, _, h5⟩ := dd'
  have hl : (putK ([] : List (List Key × V)) ks y).length ≤ sizeLine := by
    have := length_putK ([] : List (List Key × V)) ks y
    rw [sizeLine_eq]
    simp at this ⊢
    omega
  refine d_write J2 (by rw [ep]; exact True.intro) hs ⟨o, hq⟩ ⟨hl, hd, _, (rel.put ks eb ry).keeps fun c ys ec => ?_, o, es, ep', hq, h2, h3, h4, h5⟩
  rw [upd_ne (ne_of ec ep (fun z => nomatch z))]
  exact ec
end
section
variable {X : Cx} {o e value : Expr} {es : List Expr} {f x m : Str} {pos pos' tpos p apos : Pos} {ta tv : TE} {tas : TA} {CX : CXT} {k : Nat} {g C : Addr} {fd : FuncData} {ps : List Str} {sp : Sp} {dvs : List V} {ds : List Value} {E : XK}
theorem efld (he : SE X e ta) (hb : attributeBase e f X.env (eval e X.env) = eval e X.env) : SE X (.Attribute e f pos) (tFld X.K ta f) := ⟨pe_fld he.o hb⟩
theorem bfld (ha : SE X o ta) (hv : SE X value tv) (hs : swapsWith value (some (.Attribute o f pos')) pos.line X.env = pure false) : SS1 X (.Assign [.Attribute o f pos'] value pos) (sFld X.K ta tv f) := ⟨ps_fld ha.o hv.o hs⟩
theorem bfldaug {op : Operator} {rd : V → V → Hp → VK → Prop} (ha : SE X o ta) (hv : SE X value tv) (hop : InOp X op rd) : SS1 X (.AugAssign (.Attribute o f tpos) op value pos) (sFldAug X.K ta tv rd f) := ⟨ps_fldaug ha.o hv.o hop⟩
theorem emake (M : Mk X.K C g) (F : FnOk X.prog X.w X.K X.mg X.base CX k g fd ps sp) (hr : Room (k + 1) X.A) (hg : Gl X x) (hm : X.mg x = some (.ref C)) (hb : Binds X.K fd ps ds) (hd : Vals dvs ds) (hx : Passes CX X E)
    (ha : SA X (e :: es) tas) (hdb : (x == ("__debug__" : Str)) = false) (he : starEach (e :: es) X.env = (false, eval e X.env) :: starEach es X.env) (hpl : (backTo pos (starEach es X.env)).any (·.1) = false) :
    SE X (.Call (.Name x p) (e :: es) [] pos) (tMake C sp dvs E tas) := ⟨pe_make M F hr hg hm hb hd hx ha.o hdb he hpl⟩
theorem emeth0 (he : SE X o ta) (c : Cls X.K C) (hm : Meth X.K C m g) (F : FnOk X.prog X.w X.K X.mg X.base CX k g fd ps sp) (hr : Room k X.A) (hb : Binds X.K fd ps ds) (hd : Vals dvs ds) (hx : Passes CX X E) (pl : Sem Bool)
    (ht : eval (.Call (.Attribute o m apos) [] [] pos) X.env = (do
      let ov ← eval o X.env
      standAt apos.atName
      let (f, first) ← holding [ov] (getMethod ov m pl)
      callWith pos f first (backTo pos (starEach [] X.env)) (backToKw pos (keywordEach [] X.env)))) :
    SE X (.Call (.Attribute o m apos) [] [] pos) (tMeth C m sp dvs E ta tNil) := ⟨pe_meth0 (pl := pl) he.o c hm F hr hb hd hx ht⟩
end
end L2

/-! A walk as an object: its attributes, what waits, what was found; one telling. -/
namespace L2
open PySem PySem.Spec PyProof.Rows
/-- all but some places stay -/
def KX (S : List Addr) (H H' : Hp) : Prop := ∀ b o, H b = some o → b ∉ S → H' b = some o
theorem KX.refl (S : List Addr) (H : Hp) : KX S H H := fun _ _ h _ => h
theorem KX.trans {S : List Addr} {H H1 H2 : Hp} (a : KX S H H1) (b : KX S H1 H2) : KX S H H2 := fun c o h n => b c o (a c o h n) n
theorem KX.of {S : List Addr} {H H' : Hp} (s : Same H H') : KX S H H' := fun b o h _ => s b o h
theorem KX.put {S : List Addr} {H : Hp} {p : Addr} (o : HO) (h : p ∈ S) : KX S H (upd H p o) := fun b u e n => by rw [upd_ne (fun z => n (by rw [z]; exact h))]; exact e
theorem KX.same {S : List Addr} {H0 H H' : Hp} (s : Same H0 H) (n : ∀ q ∈ S, H0 q = none) (k : KX S H H') : Same H0 H' := fun b o e => k b o (s b o e) fun z => by rw [n b z] at e; cases e
theorem KX.free {S : List Addr} {H H' : Hp} (k : KX S H H') {p : Addr} (n : H' p = none) (hp : p ∉ S) : H p = none := by
  cases e : H p with
  | none => rfl
  | some o => rw [k p o e hp] at n; cases n
theorem Pile.kx {K : PySem.W.Frag} {H0 H H' : Hp} {p a : Addr} {ns : List Int} {S : List Addr} (h0 : Pile K H0 p a ns) (n : ∀ q ∈ S, H0 q = none) (h : Pile K H p a ns) (k : KX S H H') : Pile K H' p a ns := by
  have nq : p ∉ S := fun z => h0.ne (n p z) rfl
  obtain ⟨_, _, _, _, _, g2, _⟩ := h0.at_
  obtain ⟨i, rest, seed, turn, h1, h2, h4⟩ := h.at_
  refine ⟨i, rest, seed, turn, k _ _ h1 nq, fun u => ?_, h4⟩
  rcases g2 (.tup []) with g | g
  · have ha : a ∉ S := fun z => by
      have np : a ≠ p := fun e => nq (by rw [← e]; exact z)
      rcases g with g | ⟨_, g⟩ <;> rw [upd_ne np, n a z] at g <;> cases g
    have e : ∀ v, upd H p u a = some v → upd H' p u a = some v := fun v e => by
      by_cases c : a = p
      · subst c; rw [upd_same] at e ⊢; exact e
      · rw [upd_ne c] at e ⊢; exact k _ _ e ha
    rcases h2 u with k' | k'
    · left
      rcases k' with k' | ⟨x, k'⟩
      · exact .inl (e _ k')
      · exact .inr ⟨x, e _ k'⟩
    · exact .inr k'
  · exact .inr g
theorem made_same {H : Hp} {x dx : Addr} {o o' : HO} (nx : H x = none) (nd : H dx = none) : Same H (upd (upd H dx o) x o') := fun b u e => by
  rw [upd_ne (ne_of_none e nx), upd_ne (ne_of_none e nd)]
  exact e
end L2
namespace Zm
open PySem L2 Wd Wm Km Bm Gm Hm Fm Fn PyProof.Rows
section
variable {names : List Str} {g : Str → Str → Bool} {D : List (List Str)}
/-- whether a name leads from a row on -/
def ledB (names : List Str) (g : Str → Str → Bool) (T : List Str) (x : Str) : Bool := !decide (x ∈ T) && fullB names g (behindA g T x) x
/-- what a row leads to -/
def ledL (names : List Str) (g : Str → Str → Bool) (T : List Str) : List (List Str) := (names.filter (ledB names g T)).map (giv names g T)
theorem ledB_iff {T : List Str} {x : Str} (hx : x ∈ names) : ledB names g T x = true ↔ Val names g T x := by
  unfold ledB Val
  rw [Bool.and_eq_true, fullB_iff, Bool.not_eq_true', decide_eq_false_iff_not]
  exact ⟨fun h => ⟨hx, h⟩, fun h => h.2⟩
theorem mem_led {T r : List Str} : r ∈ ledL names g T ↔ ∃ x, Val names g T x ∧ r = giv names g T x := by
  unfold ledL
  rw [List.mem_map]
  constructor
  · rintro ⟨x, hx, rfl⟩
    obtain ⟨h1, h2⟩ := List.mem_filter.mp hx
    exact ⟨x, (ledB_iff h1).mp h2, rfl⟩
  · rintro ⟨x, v, rfl⟩
    exact ⟨x, List.mem_filter.mpr ⟨v.1, (ledB_iff v.1).mpr v⟩, rfl⟩
theorem led_len {T : List Str} : (ledL names g T).length ≤ names.length := by
  unfold ledL
  rw [List.length_map]
  exact List.length_filter_le _ _
/-- the fillings of the first k tellings -/
def fils (names : List Str) (g : Str → Str → Bool) (D : List (List Str)) (k : Nat) : Nat := ((D.take k).map fun T => (ledL names g T).length).sum
theorem fils_step {k : Nat} {S : List Str} (hk : D[k]? = some S) : fils names g D (k + 1) = fils names g D k + (ledL names g S).length := by
  unfold fils
  have tk : D.take (k + 1) = D.take k ++ [S] := by rw [List.take_succ, hk]; rfl
  rw [tk, List.map_append, List.sum_append]
  simp
theorem erase_mem {α : Type} : ∀ {l : List α} {j : Nat} {x : α}, l.Nodup → l[j]? = some x → ∀ y, y ∈ l.eraseIdx j ↔ y ∈ l ∧ y ≠ x
  | [], _, _, _, h => by simp at h
  | a :: l, 0, x, nd, h => fun y => by
    have e : a = x := by simpa using h
    subst e
    obtain ⟨h1, h2⟩ := List.nodup_cons.mp nd
    rw [List.eraseIdx_cons_zero, List.mem_cons]
    exact ⟨fun hy => ⟨.inr hy, fun e => h1 (by rw [← e]; exact hy)⟩, fun ⟨q, ne⟩ => q.resolve_left ne⟩
  | a :: l, j + 1, x, nd, h => fun y => by
    obtain ⟨h1, h2⟩ := List.nodup_cons.mp nd
    have h' : l[j]? = some x := by simpa using h
    rw [List.eraseIdx_cons_succ, List.mem_cons, List.mem_cons, erase_mem h2 h' y]
    constructor
    · rintro (e | ⟨q, ne⟩)
      · exact ⟨.inl e, fun z => h1 (by rw [← e, z]; exact List.mem_of_getElem? h')⟩
      · exact ⟨.inr q, ne⟩
    · rintro ⟨e | q, ne⟩
      · exact .inl e
      · exact .inr ⟨q, ne⟩
theorem behind_sub (hs : names.Pairwise sLt) {S : List Str} {x : Str} (sub : S.Sublist names) (hx : x ∈ names) : (behindA g S x).Sublist names := by
  have e : behindA g S x = kN names (behindA g S x) := by
    refine s_ext ?_ (hs.sublist (kN_sub _ _)) fun y => ?_
    · unfold behindA
      refine List.pairwise_append.mpr ⟨(hs.sublist sub).sublist List.filter_sublist, List.pairwise_singleton _ _, fun a ha b hb => ?_⟩
      rw [List.mem_singleton.mp hb]
      have := (List.mem_filter.mp ha).2
      rw [Bool.and_eq_true] at this
      exact of_decide_eq_true this.1
    · rw [mem_kN]
      refine ⟨fun z => ⟨?_, z⟩, fun z => z.2⟩
      rcases mem_behind.mp z with z | z
      · exact sub.subset z.1
      · rw [z]; exact hx
  rw [e]
  exact kN_sub _ _
/-- a telling: the told one out, what it leads to and was not found in -/
theorem Wk.tell {k : Nat} {W N F : List (List Str)} {S : List Str} {j : Nat} (h : Wk names g D k W) (hF : ∀ r, r ∈ F ↔ r ∈ W ∨ r ∈ D.take k) (hk : D[k]? = some S) (hj : W[j]? = some S) (nN : N.Nodup) (hN : ∀ r, r ∈ N ↔ r ∈ ledL names g S ∧ r ∉ F) : Wk names g D (k + 1) (W.eraseIdx j ++ N) := by
  have em := erase_mem h.nd hj
  have tk : D.take (k + 1) = D.take k ++ [S] := by rw [List.take_succ, hk]; rfl
  refine h.step hk ?_ fun r => ?_
  · refine List.nodup_append.mpr ⟨h.nd.sublist (List.eraseIdx_sublist _ _), nN, fun a ha b hb e => ?_⟩
    subst e
    exact ((hN a).mp hb).2 ((hF a).mpr (.inl ((em a).mp ha).1))
  · rw [List.mem_append, em r, hN, mem_led, hF, tk, List.mem_append, List.mem_singleton]
    constructor
    · rintro (q | ⟨q, n⟩)
      · exact .inl q
      · exact .inr ⟨q, fun z => n (z.elim .inr fun e => .inl (by rw [e]; exact List.mem_of_getElem? hj))⟩
    · rintro (q | ⟨q, n⟩)
      · exact .inl q
      · by_cases c : r ∈ W
        · exact .inl ⟨c, fun e => n (.inr e)⟩
        · exact .inr ⟨q, fun z => z.elim c fun z => n (.inl z)⟩
theorem found_tell {k : Nat} {W N F F' : List (List Str)} {S : List Str} {j : Nat} (nd : W.Nodup) (hF : ∀ r, r ∈ F ↔ r ∈ W ∨ r ∈ D.take k) (hk : D[k]? = some S) (hj : W[j]? = some S) (hN : ∀ r, r ∈ N ↔ r ∈ ledL names g S ∧ r ∉ F) (hF' : ∀ r, r ∈ F' ↔ r ∈ F ∨ r ∈ ledL names g S) : ∀ r, r ∈ F' ↔ r ∈ W.eraseIdx j ++ N ∨ r ∈ D.take (k + 1) := fun r => by
  have em := erase_mem nd hj
  have tk : D.take (k + 1) = D.take k ++ [S] := by rw [List.take_succ, hk]; rfl
  rw [hF', hF, List.mem_append, em r, hN, hF, tk, List.mem_append, List.mem_singleton]
  constructor
  · rintro ((q | q) | q)
    · by_cases c : r = S
      · exact .inr (.inr c)
      · exact .inl (.inl ⟨q, c⟩)
    · exact .inr (.inl q)
    · by_cases c : r ∈ W ∨ r ∈ D.take k
      · rcases c with c | c
        · by_cases e : r = S
          · exact .inr (.inr e)
          · exact .inl (.inl ⟨c, e⟩)
        · exact .inr (.inl c)
      · exact .inl (.inr ⟨q, c⟩)
  · rintro ((q | q) | (q | q))
    · exact .inl (.inl q.1)
    · exact .inr q.1
    · exact .inl (.inr q)
    · exact .inl (.inl (by rw [q]; exact List.mem_of_getElem? hj))
theorem wait_few (A : AllOf names g D) (G : Gr g) {k : Nat} {W F : List (List Str)} (h : Wk names g D k W) (hF : ∀ r, r ∈ F ↔ r ∈ W ∨ r ∈ D.take k) (nF : F.Nodup) : F.length ≤ D.length ∧ W.length ≤ D.length := by
  have s1 : ∀ r ∈ W, r ∈ D := fun r hr => ((h.mem r).mp hr).1.row A G
  refine ⟨nodup_le nF fun r hr => ?_, nodup_le h.nd s1⟩
  exact ((hF r).mp hr).elim (s1 r) fun z => List.mem_of_mem_take z
end
/-! ### the object -/
abbrev RwE (H : Hp) : List V → List (List Str) → Prop := Paired (IsRowH H)
theorem RwE.keep {H H' : Hp} {vs : List V} {L : List (List Str)} (h : RwE H vs L) (k : KeepT H H') : RwE H' vs L := Paired.mapP h fun _ _ q => q.keep k
theorem RwE.rws {K : PySem.W.Frag} {H : Hp} {vs : List V} {L : List (List Str)} (h : RwE H vs L) : Rws K H vs L := Paired.mapP h fun _ _ q => q.t
theorem RwE.erase {H : Hp} : ∀ {vs : List V} {L : List (List Str)} (j : Nat), RwE H vs L → RwE H (vs.eraseIdx j) (L.eraseIdx j)
  | _, _, _, .nil => .nil
  | _, _, 0, .cons _ t => t
  | _, _, j + 1, .cons r t => .cons r (RwE.erase j t)
theorem RwE.append {H : Hp} : ∀ {vs us : List V} {L M : List (List Str)}, RwE H vs L → RwE H us M → RwE H (vs ++ us) (L ++ M)
  | _, _, _, _, .nil, s => s
  | _, _, _, _, .cons r t, s => .cons r (RwE.append t s)
end Zm

/-! len(d) of a dict whose keys are rows. -/
namespace L2
open PySem PySem.Spec PyProof.Rows
section
variable {pg : Program} {wo : World} {Ar : Around} {Ex : Value → Shared → Prop} {st : Shared} {d : Addr}
theorem meets_lenRaw (hd : (d == sysModules) = false) : MeetsIn pg wo (Builtin.«dict.__len__» ⟨[.ref d], []⟩)
    (fun _ R u => ∃ o es ep, u.heap.get? d = some o ∧ o.data = .dict es ep ∧ R (.ok (.ret (.int es.size u.toks))) { u with toks := u.toks + 1 }) :=
  .of_wp fun Ar R u ⟨o, es, ep, ho, hdat, hR⟩ => by
    show wpAny _ _ (dictSize d >>= _) _ _ u
    unfold dictSize
    refine wpAny_bind (wpAny_bind (wpAny_dictEntries ho hdat (wpAny_pure ?_)))
    show wpAny _ _ (Builtin.Dict.pendingCount d >>= _) _ _ u
    refine wpAny_bind (wpAny_pendingCount_other hd (wpAny_ret_mkInt ?_))
    rw [Nat.add_zero]
    exact hR
theorem len_raw {Qv : Value → Shared → Prop} {o : Obj} {es : Array DictEntry} {ep : Nat} (hd : (d == sysModules) = false) (ty : st.TypeIs (.ref d) "dict") (ho : st.heap.get? d = some o) (hdat : o.data = .dict es ep) (hfit : (es.size : Int) < 2 ^ 63)
    (hq : Qv (.int es.size (st.toks + 1)) { st with toks := st.toks + 1 + 1 }) : wpAny (model pg wo) Ar (call (.builtin "len") [.ref d]) Qv Ex st := by
  refine Calls.call_function_entry kind_len plain_len entry_len (args_len1 _) ?_
  unfold Builtin.«len»
  refine wpAny_bind (m := oneArg "len" _) (wpAny_pure ?_)
  refine wpAny_bind (m := callSpecial? (.ref d) (Str.ofString "__len__")) (wpAny_callSpecial?_slot (name := Str.ofString "__len__") ty F.slot_dict_len
    (call_meetsIn F.slot_dict_len ty F.entry_dict_len (F.args_dict_len_1 _) (meets_lenRaw hd) ⟨o, es, ep, ho, hdat, ?_⟩))
  show wpAny _ _ _ _ _ { st with toks := st.toks + 1 }
  refine wpAny_bind (wpAny_holding (wpAny_pure (wpAny_bind (wpAny_letGo ?_))))
  show wpAny _ _ (if ((es.size : Nat) : Int) < 0 then _ else _) _ _ _
  rw [if_neg (by omega)]
  show wpAny _ _ (if ((es.size : Nat) : Int) ≥ 2 ^ 63 then _ else _) _ _ _
  rw [if_neg (by omega)]
  exact wpAny_bind (wpAny_mkInt (wpAny_pure ⟨_, rfl, hq⟩))
end
section
variable {X : Cx}
def rLenT : List V → Hp → VK → Prop := fun vs H Q => ∃ (a : Addr) (kvs : List (List Key × V)), vs = [.ref a] ∧ H a = some (.dT kvs) ∧ Q (.int (kvs.length : Nat)) H
theorem call_lenT : CallR X (.builtin "len") rLenT := by
  intro pins s σ H vs us Q I r h
  obtain ⟨a, kvs, rfl, e, q⟩ := h
  rw [Vals.ref1 r]
  obtain ⟨z, hd, xs, rel, dd⟩ := dt_of I.hok e
  have ty : s.TypeIs (.ref a) "dict" := dd.typeIs
  obtain ⟨o, es, ep, ho, hc, hdat, he, _⟩ := dd
  have l1 : es.size = kvs.length := by
    rw [Paired.length rel, ← Array.length_toList, he, List.length_map]
  rw [sizeLine_eq] at z
  refine len_raw hd ty ho hdat (by omega) ⟨.int (kvs.length : Nat), H, I.tok _, ⟨_, by rw [l1]⟩, q⟩
end
end L2
namespace Zm
open PySem L2 Wd Wm Km Bm Gm Hm Fm Fn PyProof.Rows
section
variable {names : List Str} {g : Str → Str → Bool} {D : List (List Str)}
theorem told_len (A : AllOf names g D) {k : Nat} {W F : List (List Str)} (h : Wk names g D k W) (hF : ∀ r, r ∈ F ↔ r ∈ W ∨ r ∈ D.take k) (nF : F.Nodup) (hk : k ≤ D.length) : F.length = W.length + k := by
  have nW : (W ++ D.take k).Nodup := List.nodup_append.mpr ⟨h.nd, A.nodup.sublist (List.take_sublist _ _), fun a ha b hb e => ((h.mem a).mp ha).2 (by rw [e]; exact hb)⟩
  have p : F.Perm (W ++ D.take k) := (List.perm_ext_iff_of_nodup nF nW).mpr fun r => by rw [hF, List.mem_append]
  rw [p.length_eq, List.length_append, List.length_take]
  omega
end
end Zm

/-! There is a list of all greatest rows, in order. -/
namespace Zm
open PySem L2 Wd Wm Km Bm Gm Hm Fm Fn PyProof.Rows
def subs : List Str → List (List Str)
  | [] => [[]]
  | x :: r => subs r ++ (subs r).map (x :: ·)
theorem mem_subs : ∀ {ns r : List Str}, r ∈ subs ns ↔ r.Sublist ns
  | [], r => by simp [subs, List.sublist_nil]
  | x :: ns, r => by
    unfold subs
    rw [List.mem_append, List.mem_map]
    constructor
    · rintro (h | ⟨s, h, rfl⟩)
      · exact (mem_subs.mp h).cons _
      · exact (mem_subs.mp h).cons_cons _
    · intro h
      cases h with
      | cons _ h => exact .inl (mem_subs.mpr h)
      | cons_cons _ h => exact .inr ⟨_, mem_subs.mpr h, rfl⟩
theorem sorted_ex : ∀ L0 : List (List Str), ∃ D : List (List Str), (∀ r, r ∈ D ↔ r ∈ L0) ∧ D.Pairwise fun a b => LS.lexS a b = true
  | [] => ⟨[], fun r => Iff.rfl, .nil⟩
  | x :: L => by
    obtain ⟨D, h1, h2⟩ := sorted_ex L
    by_cases c : x ∈ D
    · refine ⟨D, fun r => ?_, h2⟩
      rw [h1, List.mem_cons]
      exact ⟨.inr, fun z => z.elim (fun e => by rw [e]; exact (h1 x).mp c) id⟩
    · refine ⟨D.filter (fun y => LS.lexS y x) ++ x :: D.filter (fun y => LS.lexS x y), fun r => ?_, ?_⟩
      · rw [List.mem_append, List.mem_cons, List.mem_filter, List.mem_filter, List.mem_cons, ← h1]
        constructor
        · rintro (z | z | z)
          · exact .inr z.1
          · exact .inl z
          · exact .inr z.1
        · rintro (e | z)
          · exact .inr (.inl e)
          · have ne : r ≠ x := fun e => c (by rw [← e]; exact z)
            rcases lex_tot ne with q | q
            · exact .inl ⟨z, q⟩
            · exact .inr (.inr ⟨z, q⟩)
      · refine List.pairwise_append.mpr ⟨h2.sublist List.filter_sublist, List.pairwise_cons.mpr ⟨fun b hb => (List.mem_filter.mp hb).2, h2.sublist List.filter_sublist⟩, fun a ha b hb => ?_⟩
        have q1 := (List.mem_filter.mp ha).2
        rcases List.mem_cons.mp hb with e | hb
        · rw [e]; exact q1
        · exact lex_tr q1 (List.mem_filter.mp hb).2
theorem all_ex (names : List Str) (g : Str → Str → Bool) : ∃ D, AllOf names g D := by
  classical
  obtain ⟨D, h1, h2⟩ := sorted_ex ((subs names).filter fun r => decide (Mxc names g r))
  exact ⟨D, fun r => by rw [h1, List.mem_filter, mem_subs, decide_eq_true_iff], h2⟩
end Zm

/-! A dict comprehension (the layer's list comprehension with a dict in the list's place); zip of a list and its rest in a comprehension. -/
namespace L2
open PySem PySem.Spec PyProof.Rows
section
variable {X : Cx} {pins : List (Addr × Obj)} {σ : St} {H : Hp} {s : Shared} {a : Addr} {y v : V} {u r : Value} {A : Around} {E : Value → Shared → Prop}
end
section
variable {X : Cx}
/-- {k: v for target in iter if ..}: D the new dict -/
def tDc (z : HO) (wi : TI) (g : TG) (tt : TT) (tk tv : TE) (vs : List Nat) : TE := fun σ H Q => wi σ H fun J H1 => ∀ D, H1 D = none → ∃ W : Nat → Nat → Hp → Prop, (∃ m, W 0 m (upd H1 D z)) ∧ ∀ i m H, W i m H →
  (J.stop i H ∧ Q (.ref D) H) ∨ (J.go i H ∧ ∃ Nx : Hp → Prop, (∀ H', Nx H' → ∃ m', m' < m ∧ W (i + 1) m' H') ∧ ∀ x H', J.yld i H x H' → g x (wipe σ vs) H' fun σ2 H2 => wipe σ2 vs = wipe σ vs ∧ tt σ2 H2 fun b H3 =>
    if b = true then tk σ2 H3 fun k H4 => tv σ2 H4 fun v H5 => ∃ H6, DPut H5 D k v H6 ∧ Nx H6 else Nx H3)
end

section
variable {X : Cx} {pos p p2 : Pos} {tt : TT} {tk tv : TE}
end
section
variable {X : Cx} {e e2 : Expr} {es : List Expr} {p pos tpos : Pos} {tas : TA}
end
end L2

/-! sorted of rows that lie in the heap (so that they can be keys); every other item of a list. -/
namespace L2
open PySem PySem.Spec PySem.W PyProof.Rows Zm
def IsRowKE (H : Hp) (v : V) (ks : List Key) : Prop := ∃ a, v = .ref a ∧ H a = some (.tup (ks.map kV))
theorem IsRowKE.k {K : PySem.W.Frag} {H : Hp} {v : V} {ks : List Key} (h : IsRowKE H v ks) : IsRowK K H v ks := let ⟨a, e, q⟩ := h; ⟨a, e, SqT.of q⟩
def rSortedKE (sh : Nat → Bool) (K : PySem.W.Frag) : List V → Hp → VK → Prop := fun vs H Q => ∃ (a : Addr) (xs : List V) (ks : List (List Key)), vs = [V.ref a] ∧ SqL K H a xs ∧ Paired (IsRowKE H) xs ks ∧ (∀ k ∈ ks, shOk sh 0 k = true) ∧ (2 ≤ ks.length → ∀ k ∈ ks, k ≠ []) ∧
  ∀ (xs' : List V) (ks' : List (List Key)) (p : Addr), Paired (IsRowKE H) xs' ks' → ks'.Perm ks → ks'.Pairwise (fun p q => lexLt itemOrd (q.map keyI) (p.map keyI) = false) → H p = none → Q (.ref p) (upd H p (.lst xs'))
section
variable {X : Cx} {pins : List (Addr × Obj)} {σ : St} {H : Hp} {s : Shared}
end
section
variable {X : Cx}
end
def rSortedE (K : PySem.W.Frag) : List V → Hp → VK → Prop := fun vs H Q => ∃ (a : Addr) (xs : List V) (ws : List (List Str)), vs = [V.ref a] ∧ SqL K H a xs ∧ Paired (IsRowH H) xs ws ∧ (2 ≤ ws.length → ∀ k ∈ ws, k ≠ []) ∧
  ∀ (xs' : List V) (ws' : List (List Str)) (p : Addr), Paired (IsRowH H) xs' ws' → ws'.Perm ws → ws'.Pairwise (fun p q => LS.lexS q p = false) → H p = none → Q (.ref p) (upd H p (.lst xs'))
section
variable {X : Cx}
end
end L2

/-! How many greatest rows there are at most; lists that are closed. -/
namespace Zm
open PySem L2 Wd Wm Km Bm Gm Hm Fm Fn PyProof.Rows
section
variable {names : List Str} {g : Str → Str → Bool} {D : List (List Str)}
/-- three names in chains: 0 a ab abc; b bc; c ac -/
def chn (x y z : Bool) : Nat := if y && !x then 1 else if z && !y then 2 else 0
/-- sorted without doubles rises -/
theorem asc_of {L : List (List Str)} (nd : L.Nodup) (srt : L.Pairwise fun a b => LS.lexS b a = false) : L.Pairwise fun a b => LS.lexS a b = true := by
  refine List.Pairwise.imp_of_mem (fun {a b} _ _ h => ?_) (List.pairwise_and_iff.mpr ⟨srt, List.nodup_iff_pairwise_ne.mp nd⟩)
  cases e : LS.lexS a b with
  | true => rfl
  | false =>
    rcases lex_tot h.2 with z | z
    · rw [z] at e; cases e
    · rw [z] at h; exact absurd h.1 (by simp)
end
section
variable {H G G' : Hp} {wy fo : Addr} {names : List Str} {g : Str → Str → Bool}
end
end Zm

/-! Webs with a tie more or fewer, with two names called by one another. -/
namespace Zm
open PySem L2 Wd Wm Km Bm Gm Hm Fm Fn PyProof.Rows
section
variable {names : List Str} {g g' : Str → Str → Bool} {D : List (List Str)} {ties ps : List SS}
/-- a tie more, or fewer -/
def tgl (ties : List SS) (t : SS) : List SS := if t ∈ ties then ties.filter (fun p => !decide (p = t)) else ties ++ [t]
/-! ### two names called by one another -/
def swp (a b x : Str) : Str := if x = a then b else if x = b then a else x
/-- two texts in order -/
def ord2 (x y : Str) : SS := if x.cps.toList < y.cps.toList then (x, y) else (y, x)
def swpP (a b : Str) (p : SS) : SS := ord2 (swp a b p.1) (swp a b p.2)
end
end Zm
namespace L2
open PySem PySem.Spec PyProof.Rows
section
variable {X : Cx} {K : PySem.W.Frag}
end
end L2

/-! min of a list of texts; the parts of a web. -/
namespace L2
open PySem PySem.Spec PySem.W PyProof.Rows
section
variable {X : Cx}
def rMinS (K : PySem.W.Frag) : List V → Hp → VK → Prop := fun vs H Q => ∃ (a : Addr) (xs : List Str), vs = [V.ref a] ∧ SqL K H a (xs.map V.str) ∧ 0 < xs.length ∧ ∀ m : Str, m ∈ xs → (∀ x ∈ xs, ¬ x.cps.toList < m.cps.toList) → Q (.str m) H
end
end L2
namespace Zm
open PySem L2 Wd Wm Km Bm Gm Hm Fm Fn PyProof.Rows
/-- ties lead from one name to another -/
inductive Cn (ties : List SS) : Str → Str → Prop
  | refl (x : Str) : Cn ties x x
  | step {x y z : Str} : Cn ties x y → Tie ties y z → Cn ties x z
section
variable {names : List Str} {ties : List SS}
theorem Cn.trans {x y z : Str} (h : Cn ties x y) (k : Cn ties y z) : Cn ties x z := by
  induction k with
  | refl => exact h
  | step _ t ih => exact ih.step t
theorem Cn.symm {x y : Str} (h : Cn ties x y) : Cn ties y x := by
  induction h with
  | refl => exact .refl _
  | step _ t ih => exact (Cn.step (.refl _) t.symm).trans ih
theorem Cn.mono {ts : List SS} (m : ∀ p ∈ ties, p ∈ ts) {x y : Str} (h : Cn ties x y) : Cn ts x y := by
  induction h with
  | refl => exact .refl _
  | step _ t ih => exact ih.step (t.imp (m _) (m _))
/-- groups: each name's least one -/
structure Grp (names : List Str) (ties : List SS) (f : Str → Str) : Prop where
  mem : ∀ x ∈ names, f x ∈ names
  idem : ∀ x ∈ names, f (f x) = f x
  le : ∀ x ∈ names, ¬ sLt x (f x)
  iff : ∀ x ∈ names, ∀ y ∈ names, f x = f y ↔ Cn ties x y
theorem Grp.start {f : Str → Str} (h : ∀ x ∈ names, f x = x) : Grp names [] f := by
  have key : ∀ {x y : Str}, Cn [] x y → x = y := fun {x y} h => by
    induction h with
    | refl => rfl
    | step _ t _ => rcases t with t | t <;> cases t
  refine ⟨fun x hx => by rw [h x hx]; exact hx, fun x hx => by rw [h x hx, h x hx], fun x hx => by rw [h x hx]; exact sLt_irr x, fun x hx y hy => ?_⟩
  rw [h x hx, h y hy]
  exact ⟨fun e => by rw [e]; exact .refl _, key⟩
theorem Grp.next {f f' : Str → Str} {p : SS} {m : Str} (g : Grp names ties f) (ok : ∀ q ∈ ties ++ [p], q.1 ∈ names ∧ q.2 ∈ names) (hm : m = f p.1 ∨ m = f p.2) (lo : ∀ x ∈ [f p.1, f p.2], ¬ sLt x m) (e : ∀ x ∈ names, f' x = if f x = f p.1 ∨ f x = f p.2 then m else f x) : Grp names (ties ++ [p]) f' := by
  obtain ⟨h1, h2⟩ := ok p (by simp)
  have mm : m ∈ names := by rcases hm with z | z <;> rw [z]; exact g.mem _ h1; exact g.mem _ h2
  have fm : f m = m := by rcases hm with z | z <;> rw [z]; exact g.idem _ h1; exact g.idem _ h2
  have lo1 : ¬ sLt (f p.1) m := lo _ (by simp)
  have lo2 : ¬ sLt (f p.2) m := lo _ (by simp)
  have em : f' m = m := by
    rw [e m mm]
    split
    · rfl
    · exact fm
  have mono : ∀ {x y : Str}, Cn ties x y → Cn (ties ++ [p]) x y := fun h => h.mono fun q hq => List.mem_append_left _ hq
  have tp : Tie (ties ++ [p]) p.1 p.2 := .inl (by simp)
  have join : ∀ x ∈ names, (f x = f p.1 ∨ f x = f p.2) → Cn (ties ++ [p]) x p.1 := fun x hx h => by
    rcases h with h | h
    · exact mono ((g.iff x hx _ h1).mp h)
    · exact (mono ((g.iff x hx _ h2).mp h)).step tp.symm
  refine ⟨fun x hx => ?_, fun x hx => ?_, fun x hx => ?_, fun x hx y hy => ⟨fun h => ?_, fun h => ?_⟩⟩
  · rw [e x hx]
    split
    · exact mm
    · exact g.mem x hx
  · by_cases c : f x = f p.1 ∨ f x = f p.2
    · rw [e x hx, if_pos c]; exact em
    · rw [e x hx, if_neg c, e _ (g.mem x hx), g.idem x hx, if_neg c]
  · have gx := g.le x hx
    by_cases c : f x = f p.1 ∨ f x = f p.2
    · rw [e x hx, if_pos c]
      intro z
      rcases c with c | c
      · rw [c] at gx
        by_cases q : f p.1 = m
        · rw [q] at gx; exact gx z
        · exact gx (sLt_trans z (Decidable.byContradiction fun w => q (sLt_tot lo1 w)))
      · rw [c] at gx
        by_cases q : f p.2 = m
        · rw [q] at gx; exact gx z
        · exact gx (sLt_trans z (Decidable.byContradiction fun w => q (sLt_tot lo2 w)))
    · rw [e x hx, if_neg c]; exact gx
  · rw [e x hx, e y hy] at h
    by_cases cx : f x = f p.1 ∨ f x = f p.2
    · by_cases cy : f y = f p.1 ∨ f y = f p.2
      · exact (join x hx cx).trans (join y hy cy).symm
      · rw [if_pos cx, if_neg cy] at h
        exfalso
        refine cy ?_
        rcases hm with z | z
        · exact .inl (by rw [← h, z])
        · exact .inr (by rw [← h, z])
    · by_cases cy : f y = f p.1 ∨ f y = f p.2
      · rw [if_neg cx, if_pos cy] at h
        exfalso
        refine cx ?_
        rcases hm with z | z
        · exact .inl (by rw [h, z])
        · exact .inr (by rw [h, z])
      · rw [if_neg cx, if_neg cy] at h
        exact mono ((g.iff x hx y hy).mp h)
  · have key : ∀ {u v : Str}, u ∈ names → Cn (ties ++ [p]) u v → f' u = f' v := fun {u v} hu h => by
      induction h with
      | refl => rfl
      | @step y z q t ih =>
        rw [ih]
        have inn : y ∈ names ∧ z ∈ names := by
          rcases t with t | t
          · exact ok _ t
          · exact ⟨(ok _ t).2, (ok _ t).1⟩
        have old : (Tie ties y z) ∨ (y, z) = p ∨ (z, y) = p := by
          rcases t with t | t
          · rcases List.mem_append.mp t with t | t
            · exact .inl (.inl t)
            · exact .inr (.inl (List.mem_singleton.mp t))
          · rcases List.mem_append.mp t with t | t
            · exact .inl (.inr t)
            · exact .inr (.inr (List.mem_singleton.mp t))
        rcases old with t | t | t
        · have := (g.iff y inn.1 z inn.2).mpr (.step (.refl _) t)
          rw [e y inn.1, e z inn.2, this]
        · rw [e y inn.1, e z inn.2, ← t]
          simp
        · rw [e y inn.1, e z inn.2, ← t]
          simp
    exact key hx h
/-- the least of its part -/
def Mn (names : List Str) (ties : List SS) (x : Str) : Prop := ∀ y ∈ names, Cn ties x y → ¬ sLt y x
open Classical in
noncomputable def comp (names : List Str) (ties : List SS) (x : Str) : List Str := names.filter fun y => decide (Cn ties x y)
open Classical in
noncomputable def partsL (names : List Str) (ties : List SS) (ns : List Str) : List (List Str) := (ns.filter fun x => decide (Mn names ties x)).map (comp names ties)
theorem Grp.mn {f : Str → Str} (g : Grp names ties f) {x : Str} (hx : x ∈ names) : f x = x ↔ Mn names ties x := by
  constructor
  · intro h y hy c
    have := (g.iff x hx y hy).mpr c
    rw [h] at this
    rw [this]
    exact g.le y hy
  · intro h
    have c : Cn ties x (f x) := (g.iff x hx _ (g.mem x hx)).mp (g.idem x hx).symm
    exact sLt_tot (h _ (g.mem x hx) c) (g.le x hx)
theorem Grp.comp {f : Str → Str} (g : Grp names ties f) {x : Str} (hx : x ∈ names) (h : f x = x) : (names.filter fun y => decide (f y = x)) = Zm.comp names ties x := by
  classical
  unfold Zm.comp
  refine List.filter_congr fun y hy => ?_
  refine decide_eq_decide.mpr ?_
  rw [← g.iff x hx y hy, h]
  exact ⟨Eq.symm, Eq.symm⟩
/-- one step wider -/
def widen (names : List Str) (ties : List SS) (P : List Str) : List Str := names.filter fun o => decide (o ∈ P) || P.any fun p => decide (Tie ties o p)
end
end Zm

/-! sorted(d.items()) of a dict of numbers by numbers. -/
namespace L2
open PySem PySem.Spec PySem.W PyProof.Rows
/-- several new objects laid at once -/
def layM (H : Hp) (ps : List (Addr × HO)) : Hp := fun b => match ps.lookup b with
  | some o => some o
  | none => H b
theorem layM_new {H : Hp} {ps : List (Addr × HO)} {b : Addr} {o : HO} (h : ps.lookup b = some o) : layM H ps b = some o := by unfold layM; rw [h]
theorem layM_old {H : Hp} {ps : List (Addr × HO)} {b : Addr} (h : ps.lookup b = none) : layM H ps b = H b := by unfold layM; rw [h]
theorem lookup_mem : ∀ {ps : List (Addr × HO)} {b : Addr} {o : HO}, ps.lookup b = some o → (b, o) ∈ ps
  | [], _, _, h => by cases h
  | (c, q) :: r, b, o, h => by
    rw [List.lookup_cons] at h
    by_cases e : b = c
    · subst e
      simp at h
      subst h
      exact List.mem_cons_self ..
    · have e' : (b == c) = false := by simpa using e
      rw [e'] at h
      exact List.mem_cons_of_mem _ (lookup_mem h)
section
variable {X : Cx} {pins : List (Addr × Obj)} {σ : List (Option V)} {H : Hp} {s : Shared} {h' : Heap}
theorem Inv.many {ps : List (Addr × HO)} {t' : Nat} (I : Inv X pins σ H s) (k : ∀ b u, s.heap.get? b = some u → h'.get? b = some u) (hp : ∀ p ∈ ps, s.heap.objs.size ≤ p.1) (new : ∀ p ∈ ps, ObjOk X.prog X.w (layM H ps) h' p.1 p.2) : Inv X pins σ (layM H ps) { s with heap := h', toks := t' } := by
  have old : ∀ b, b < s.heap.objs.size → ps.lookup b = none := fun b hb => by
    cases e : ps.lookup b with
    | none => rfl
    | some o => exact absurd (hp _ (lookup_mem e)) (Nat.not_le.mpr hb)
  have keep : ∀ b o, H b = some o → layM H ps b = some o := fun b o e => by
    rw [layM_old (old b ((I.hok b o e).lt))]
    exact e
  refine I.un ⟨fun b u q _ _ _ => k b u q, fun b u q _ _ _ => ⟨u.slots, k b u q⟩, fun b u q n _ => ?_, fun b u q _ => ⟨u, k b u q⟩, fun b xs q => keep b _ q, fun b u xs q => keep b _ q, fun b ps' q => ⟨#[], by rw [keep b _ q]; simp⟩⟩ fun b u e => ?_
  · rw [layM_old (old b (Heap.lt_size q))]
    exact n
  · cases eo : ps.lookup b with
    | some o =>
      rw [layM_new eo] at e
      cases e
      exact new _ (lookup_mem eo)
    | none =>
      rw [layM_old eo] at e
      exact (I.hok b u e).stay (fun c v _ q => k c v q) (fun c q => keep c _ q) fun c xs q => keep c _ q
end
/-- pairs of numbers -/
abbrev II := Int × Int
def iiLt (p q : II) : Bool := decide (p.1 < q.1) || (!decide (q.1 < p.1) && decide (p.2 < q.2))
def IsII (H : Hp) (v : V) (p : II) : Prop := ∃ a, v = .ref a ∧ H a = some (.tup [.int p.1, .int p.2])
def tSortI (td : TE) : TE := fun σ H Q => td σ H fun x H1 => ∃ (d : Addr) (ns : List II), x = .ref d ∧ H1 d = some (.dK (ns.map fun p => ((Sum.inl p.1 : Key), V.int p.2))) ∧
  ∀ (H2 : Hp) (l : Addr) (us : List V) (ps : List II), Same H1 H2 → H1 l = none → H2 l = some (.lst us) → Paired (IsII H2) us ps → ps.Perm ns → ps.Pairwise (fun p q => iiLt q p = false) → Q (.ref l) H2
def kII (p : II) : List Key := [.inl p.1, .inl p.2]
end L2

/-! list.count of numbers, d.get(k, x), how many rows of each size. -/
namespace L2
open PySem PySem.Spec PyProof.Rows Xc
def isInI (k : Int) : Value → Bool
  | .int i _ => i == k
  | _ => false
section
variable {X : Cx} {K : PySem.W.Frag}
def rCountI (K : PySem.W.Frag) : V → List V → Hp → VK → Prop := fun x xs H Q => ∃ (a : Addr) (ns : List Int) (k : Int), x = V.ref a ∧ xs = [V.int k] ∧ SqL K H a (ns.map V.int) ∧ Q (.int (ns.count k : Nat)) H
end
section
variable {X : Cx} {o e f : Expr} {apos cpos : Pos} {td ty tx : TE}
end
/-! ### how many of each size -/
def kvI (p : II) : Key × V := ((Sum.inl p.1 : Key), V.int p.2)
def szs (ls : List Nat) : List II := ((List.range 20).filter fun m => decide (m ∈ ls)).map fun m : Nat => ((m : Int), ((ls.count m : Nat) : Int))
structure Cnt (ls : List Nat) (ns : List II) : Prop where
  nd : (ns.map (·.1)).Nodup
  mem : ∀ p : II, p ∈ ns ↔ ∃ m : Nat, m ∈ ls ∧ p = ((m : Int), (ls.count m : Int))
theorem Cnt.nil : Cnt [] [] := ⟨List.nodup_nil, fun p => ⟨fun h => absurd h (by simp), fun ⟨m, h, _⟩ => absurd h (by simp)⟩⟩
theorem valV_mem {k : Int} {x : V} {ns : List II} (h : valV (ns.map kvI) (.inl k) = some x) : ∃ c, (k, c) ∈ ns ∧ x = .int c := by
  unfold valV at h
  obtain ⟨q, hq, rfl⟩ := Option.map_eq_some_iff.mp h
  have hp := List.find?_some hq
  obtain ⟨p, hpm, rfl⟩ := List.mem_map.mp (List.mem_of_find?_eq_some hq)
  have e : p.1 = k := by
    have := of_decide_eq_true hp
    exact Sum.inl.inj this
  subst e
  exact ⟨p.2, hpm, rfl⟩
theorem Cnt.get {ls : List Nat} {ns : List II} (c : Cnt ls ns) (m : Nat) : (valV (ns.map kvI) (.inl (m : Int))).getD (.int 0) = .int (ls.count m : Nat) := by
  cases h : valV (ns.map kvI) (.inl (m : Int)) with
  | none =>
    have hn := valV_not h
    have : ¬ m ∈ ls := fun hm => hn (List.mem_map.mpr ⟨kvI ((m : Int), (ls.count m : Int)), List.mem_map.mpr ⟨_, (c.mem _).mpr ⟨m, hm, rfl⟩, rfl⟩, rfl⟩)
    rw [List.count_eq_zero.mpr this]
    rfl
  | some x =>
    obtain ⟨d, hd, rfl⟩ := valV_mem h
    obtain ⟨k, hk, e⟩ := (c.mem _).mp hd
    obtain ⟨e1, e2⟩ := Prod.mk.inj e
    have : m = k := by exact_mod_cast e1
    subst this
    rw [e2]
    rfl
theorem Cnt.put {ls : List Nat} {ns : List II} (c : Cnt ls ns) (m : Nat) : ∃ ns', putK (ns.map kvI) (.inl (m : Int)) (.int ((ls.count m : Nat) + 1)) = ns'.map kvI ∧ Cnt (ls ++ [m]) ns' := by
  have cnt : ∀ k, (ls ++ [m]).count k = ls.count k + if m = k then 1 else 0 := fun k => by
    rw [List.count_append, List.count_singleton]
    congr 1
    by_cases h : m = k <;> simp [h]
  cases h : valV (ns.map kvI) (.inl (m : Int)) with
  | none =>
    rw [putK_new _ h]
    have hn : ¬ (m : Int) ∈ ns.map (·.1) := fun hm => by
      obtain ⟨p, hp, e⟩ := List.mem_map.mp hm
      exact valV_not h (List.mem_map.mpr ⟨kvI p, List.mem_map.mpr ⟨p, hp, rfl⟩, by show Sum.inl p.1 = _; rw [e]⟩)
    have hm : ¬ m ∈ ls := fun hm => hn (List.mem_map.mpr ⟨((m : Int), (ls.count m : Int)), (c.mem _).mpr ⟨m, hm, rfl⟩, rfl⟩)
    refine ⟨ns ++ [((m : Int), 1)], ?_, ?_, fun p => ?_⟩
    · rw [List.map_append, List.count_eq_zero.mpr hm]
      rfl
    · rw [List.map_append, List.nodup_append]
      refine ⟨c.nd, by simp, fun a ha b hb => ?_⟩
      rw [List.map_singleton, List.mem_singleton] at hb
      subst hb
      rintro rfl
      exact hn ha
    · rw [List.mem_append, List.mem_singleton, c.mem]
      constructor
      · rintro (⟨k, hk, rfl⟩ | rfl)
        · refine ⟨k, List.mem_append.mpr (.inl hk), ?_⟩
          rw [cnt, if_neg (fun e : m = k => hm (by rw [e]; exact hk))]
          rfl
        · refine ⟨m, List.mem_append.mpr (.inr (List.mem_singleton.mpr rfl)), ?_⟩
          rw [cnt, if_pos rfl, List.count_eq_zero.mpr hm]
          rfl
      · rintro ⟨k, hk, rfl⟩
        rcases List.mem_append.mp hk with hk | hk
        · refine .inl ⟨k, hk, ?_⟩
          rw [cnt, if_neg (fun e : m = k => hm (by rw [e]; exact hk))]
          rfl
        · rw [List.mem_singleton] at hk
          subst hk
          right
          rw [cnt, if_pos rfl, List.count_eq_zero.mpr hm]
          rfl
  | some x =>
    obtain ⟨d, hd, rfl⟩ := valV_mem h
    obtain ⟨k, hk, e⟩ := (c.mem _).mp hd
    obtain ⟨e1, e2⟩ := Prod.mk.inj e
    have : m = k := by exact_mod_cast e1
    subst this
    have ha : ((ns.map kvI).any fun kv => decide (kv.1 = (Sum.inl (m : Int) : Key))) = true := by rw [valV_any, h]; rfl
    refine ⟨ns.map fun p => if p.1 = (m : Int) then (p.1, (ls.count m : Int) + 1) else p, ?_, ?_, fun p => ?_⟩
    · unfold putK
      rw [if_pos ha, List.map_map, List.map_map]
      refine List.map_congr_left fun p _ => ?_
      show (if (Sum.inl p.1 : Key) = Sum.inl (m : Int) then _ else _) = kvI (if p.1 = (m : Int) then _ else _)
      by_cases z : p.1 = (m : Int)
      · rw [if_pos z, if_pos (by rw [z])]
        rfl
      · rw [if_neg z, if_neg (fun e => z (Sum.inl.inj e))]
    · rw [List.map_map]
      have : (ns.map ((fun p : II => p.1) ∘ fun p => if p.1 = (m : Int) then (p.1, (ls.count m : Int) + 1) else p)) = ns.map (·.1) := List.map_congr_left fun p _ => by
        show (if p.1 = (m : Int) then _ else _ : II).1 = p.1
        split <;> rfl
      rw [this]
      exact c.nd
    · rw [List.mem_map]
      constructor
      · rintro ⟨q, hq, rfl⟩
        obtain ⟨k, hk', rfl⟩ := (c.mem _).mp hq
        refine ⟨k, List.mem_append.mpr (.inl hk'), ?_⟩
        show (if (k : Int) = (m : Int) then _ else _ : II) = _
        rw [cnt]
        by_cases z : k = m
        · subst z
          rw [if_pos rfl, if_pos rfl]
          rfl
        · rw [if_neg (fun e => z (by exact_mod_cast e)), if_neg (fun e => z e.symm)]
          rfl
      · rintro ⟨k, hk', rfl⟩
        have hk2 : k ∈ ls := by
          rcases List.mem_append.mp hk' with h | h
          · exact h
          · rw [List.mem_singleton.mp h]; exact hk
        refine ⟨_, (c.mem _).mpr ⟨k, hk2, rfl⟩, ?_⟩
        show (if (k : Int) = (m : Int) then _ else _ : II) = _
        rw [cnt]
        by_cases z : k = m
        · subst z
          rw [if_pos rfl, if_pos rfl]
          rfl
        · rw [if_neg (fun e => z (by exact_mod_cast e)), if_neg (fun e => z e.symm)]
          rfl
theorem sorted_one {α : Type} {lt : α → α → Prop} (ir : ∀ a, ¬ lt a a) (as : ∀ a b, lt a b → ¬ lt b a) : ∀ {xs ys : List α}, xs.Pairwise lt → ys.Pairwise lt → (∀ a, a ∈ xs ↔ a ∈ ys) → xs = ys
  | [], [], _, _, _ => rfl
  | [], y :: ys, _, _, m => absurd ((m y).mpr (List.mem_cons_self ..)) (by simp)
  | x :: xs, [], _, _, m => absurd ((m x).mp (List.mem_cons_self ..)) (by simp)
  | x :: xs, y :: ys, h1, h2, m => by
    rw [List.pairwise_cons] at h1 h2
    have e : x = y := by
      rcases List.mem_cons.mp ((m x).mp (List.mem_cons_self ..)) with e | hx
      · exact e
      rcases List.mem_cons.mp ((m y).mpr (List.mem_cons_self ..)) with e | hy
      · exact e.symm
      exact absurd (h2.1 x hx) (as _ _ (h1.1 y hy))
    subst e
    rw [sorted_one ir as h1.2 h2.2 fun a => ?_]
    constructor
    · intro ha
      rcases List.mem_cons.mp ((m a).mp (List.mem_cons_of_mem _ ha)) with rfl | h
      · exact absurd (h1.1 _ ha) (ir _)
      · exact h
    · intro ha
      rcases List.mem_cons.mp ((m a).mpr (List.mem_cons_of_mem _ ha)) with rfl | h
      · exact absurd (h2.1 _ ha) (ir _)
      · exact h
theorem szs_sorted (ls : List Nat) : (szs ls).Pairwise fun p q => p.1 < q.1 := by
  unfold szs
  rw [List.pairwise_map]
  refine List.Pairwise.imp ?_ (List.Pairwise.filter _ List.pairwise_lt_range)
  intro a b h
  show (a : Int) < (b : Int)
  omega
theorem Cnt.sorted {ls : List Nat} {ns ps : List II} (c : Cnt ls ns) (h20 : ∀ m ∈ ls, m < 20) (pm : ps.Perm ns) (st : ps.Pairwise fun p q => iiLt q p = false) : ps = szs ls := by
  have nd : (ps.map (·.1)).Nodup := (pm.map _).nodup_iff.mpr c.nd
  have h1 : ps.Pairwise fun p q => p.1 < q.1 := by
    have nd' : ps.Pairwise fun p q => p.1 ≠ q.1 := List.pairwise_map.mp nd
    refine (st.and nd').imp ?_
    rintro a b ⟨h, n⟩
    unfold iiLt at h
    rw [Bool.or_eq_false_iff] at h
    have := of_decide_eq_false h.1
    omega
  refine sorted_one (lt := fun p q : II => p.1 < q.1) (fun a => Int.lt_irrefl _) (fun a b h => by omega) h1 (szs_sorted ls) fun p => ?_
  rw [pm.mem_iff, c.mem]
  unfold szs
  rw [List.mem_map]
  constructor
  · rintro ⟨m, hm, rfl⟩
    exact ⟨m, List.mem_filter.mpr ⟨List.mem_range.mpr (h20 m hm), decide_eq_true hm⟩, rfl⟩
  · rintro ⟨m, hm, rfl⟩
    exact ⟨m, of_decide_eq_true (List.mem_filter.mp hm).2, rfl⟩
theorem Cnt.len {ls : List Nat} {ns : List II} (c : Cnt ls ns) (h20 : ∀ m ∈ ls, m < 20) : ns.length ≤ 20 := by
  have h : (ns.map (·.1)).length ≤ ((List.range 20).map fun m : Nat => (m : Int)).length := by
    refine Wd.nodup_le c.nd fun a ha => ?_
    obtain ⟨p, hp, rfl⟩ := List.mem_map.mp ha
    obtain ⟨m, hm, rfl⟩ := (c.mem _).mp hp
    exact List.mem_map.mpr ⟨m, List.mem_range.mpr (h20 m hm), rfl⟩
  rw [List.length_map, List.length_map, List.length_range] at h
  exact h
end L2

/-! A comprehension over a range with a test; pairs of numbers compared. -/
namespace L2
open PySem PySem.Spec PyProof.Rows Xc
section
variable {K : PySem.W.Frag} {D : Addr} {n : Nat} {vs : List Nat} {te : TE} {tt : TT} {σ : St} {H1 : Hp} {Q : Hp → Prop}
end
def iiD (p : II) : PyData := .tuple [.int p.1, .int p.2]
def iisD (ps : List II) : PyData := .tuple (ps.map iiD)
end L2

/-! How many greatest rows there are, by parts. -/
namespace Zm
open PySem L2 Wd Wm Km Bm Gm Hm Fm Fn PyProof.Rows
section
variable {names : List Str} {g g' : Str → Str → Bool} {L M : List (List Str)}
/-! ### pairs -/
theorem pairs_len {α β : Type} (ys : List β) : ∀ xs : List α, (xs.flatMap fun a => ys.map (Prod.mk a)).length = xs.length * ys.length
  | [] => by simp
  | x :: xs => by
    rw [List.flatMap_cons, List.length_append, pairs_len ys xs, List.length_map, List.length_cons, Nat.succ_mul]
    omega
/-! ### two parts -/
theorem mxc_ne {r : List Str} (m : Mxc names g r) (h : names ≠ []) : ∃ e, e ∈ r := by
  cases r with
  | cons e t => exact ⟨e, List.mem_cons_self ..⟩
  | nil =>
    cases hn : names with
    | nil => exact absurd hn h
    | cons x t =>
      obtain ⟨a, ha, _⟩ := m.max x (by rw [hn]; exact List.mem_cons_self ..) (by simp)
      cases ha
end
/-! ### all the parts -/
structure Prt (names : List Str) (ties : List SS) (Ps : List (List Str)) : Prop where
  sub : ∀ P ∈ Ps, ∀ x ∈ P, x ∈ names
  ne : ∀ P ∈ Ps, P ≠ []
  cov : ∀ x ∈ names, ∃ P ∈ Ps, x ∈ P
  dis : Ps.Pairwise fun P Q => ∀ x ∈ P, x ∉ Q
  tie : ∀ P ∈ Ps, ∀ x ∈ P, ∀ y, Tie ties x y → y ∈ P
def Ct (names : List Str) (ties : List SS) (kd : Kd) (P : List Str) (n : Nat) : Prop := ∃ M, AllK (kN names P) (kT ties P) kd M ∧ n = M.length
theorem Prt.rest {names : List Str} {ties : List SS} {P : List Str} {Ps : List (List Str)} (h : Prt names ties (P :: Ps)) : Prt (nN names P) (nT ties P) Ps := by
  have dis := List.pairwise_cons.mp h.dis
  refine ⟨fun Q hQ x hx => mem_nN.mpr ⟨h.sub Q (List.mem_cons_of_mem _ hQ) x hx, fun z => dis.1 Q hQ x z hx⟩, fun Q hQ => h.ne Q (List.mem_cons_of_mem _ hQ), fun x hx => ?_, dis.2, fun Q hQ x hx y t => h.tie Q (List.mem_cons_of_mem _ hQ) x hx y ?_⟩
  · obtain ⟨hn, hp⟩ := mem_nN.mp hx
    obtain ⟨Q, hQ, hxQ⟩ := h.cov x hn
    rcases List.mem_cons.mp hQ with rfl | hQ
    · exact absurd hxQ hp
    · exact ⟨Q, hQ, hxQ⟩
  · rcases t with t | t
    · exact .inl (mem_nT.mp t).1
    · exact .inr (mem_nT.mp t).1
theorem gK_congr {ties ts : List SS} {kd : Kd} {a b : Str} (h : Tie ties a b ↔ Tie ts a b) : gK ties kd a b = gK ts kd a b := by
  unfold gK
  rw [decide_eq_decide.mpr h]
section
variable {names : List Str} {ties : List SS}
end
end Zm

/-! The parts of a web: sums, and the parts themselves. -/
namespace Zm
open PySem L2 Wd Wm Km Bm Gm Hm Fm Fn PyProof.Rows
section
variable {names : List Str} {ties : List SS}
end
/-! ### as many as by sizes together -/
end Zm

/-! len(set(t)) of a tuple of texts. -/
namespace SetT
open PySem PySem.Spec PyProof.Rows
section
variable {prog : Program} {w : World} {A : Around} {E : Value → Shared → Prop} {s : Shared}
end
end SetT
namespace L2
open PySem PySem.Spec PySem.W PyProof.Rows
def tLenSetT (K : PySem.W.Frag) (ta : TA) : TE := fun σ H Q => ta σ H fun vs H1 => ∃ a xs, vs = [.ref a] ∧ SqT K H1 a (xs.map V.str) ∧ xs.length ≤ 4000 ∧ Q (.int (SetT.dd xs).length) H1
section
variable {X : Cx} {e : Expr} {tas : TA} {pos p pos2 p2 : Pos}
end
end L2

/-! Greatest rows with a name, without it; of two webs side by side. -/
namespace Zm
open PySem L2 Wd Wm Km Bm Gm Hm Fm Fn PyProof.Rows
/-- two rows in one -/
def mrg (names a b : List Str) : List Str := names.filter fun x => decide (x ∈ a) || decide (x ∈ b)
theorem nd_lt {l : List Str} (h : l.Pairwise sLt) : l.Nodup := List.nodup_iff_pairwise_ne.mpr (h.imp fun {a b} h e => by rw [e] at h; exact sLt_irr _ h)
section
variable {names : List Str} {ties : List SS} {L M : List (List Str)} {v : Str}
/-- those that stand beside a name -/
def besd (names : List Str) (ties : List SS) (v : Str) : List Str := names.filter fun o => decide (Tie ties v o)
end
/-! ### side by side -/
/-- a web beside another: its own names and ties, and such as have nothing to do with them -/
structure Bsd (n1 : List Str) (t1 : List SS) (N : List Str) (T : List SS) : Prop where
  ex : ∃ (Z : List Str) (zt : List SS), N.Perm (n1 ++ Z) ∧ (∀ x ∈ Z, x ∉ n1) ∧ T.Perm (t1 ++ zt) ∧ ∀ p ∈ zt, p.1 ∈ Z ∧ p.2 ∈ Z
section
variable {n1 N : List Str} {t1 T : List SS} {L L1 L2 : List (List Str)}
theorem Bsd.sub (b : Bsd n1 t1 N T) {x : Str} (h : x ∈ n1) : x ∈ N := by
  obtain ⟨Z, zt, h1, _⟩ := b.ex
  exact h1.mem_iff.mpr (List.mem_append_left _ h)
theorem Bsd.tie (b : Bsd n1 t1 N T) (w1 : WebOk n1 t1) {x y : Str} (hx : x ∈ n1) : Tie T x y ↔ Tie t1 x y := by
  obtain ⟨Z, zt, _, h2, h3, h4⟩ := b.ex
  unfold Tie
  rw [h3.mem_iff, h3.mem_iff, List.mem_append, List.mem_append]
  constructor
  · rintro ((h | h) | (h | h))
    · exact .inl h
    · exact absurd hx (h2 _ (h4 _ h).1)
    · exact .inr h
    · exact absurd hx (h2 _ (h4 _ h).2)
  · rintro (h | h)
    · exact .inl (.inl h)
    · exact .inr (.inl h)
end
/-! ### names that begin with z -/
def zf (x : Str) : Str := ("z" : Str) ++ cutS x none (some 7)
def zp (p : SS) : SS := (zf p.1, zf p.2)
end Zm

/-! isinstance of an own exception, by several classes. -/
namespace L2
open PySem PySem.Spec PyProof.Rows Xc PySem.W
def rIsXT (K : Frag) : List V → Hp → VK → Prop := fun vs H Q => ∃ (y C tp : Addr) (bm : List Value) (cs : List Addr) (b : Bool), vs = [.ref y, .ref tp] ∧ H y = some (.ext (IsEx y C none)) ∧ ExC K C bm ∧ ExA K C ∧ SqT K H tp (cs.map V.ref) ∧ kitAny K (.ref C) (cs.map Value.ref) = some b ∧ Q (.bl b) H
end L2

/-! enumerate of a tuple or a list, in a comprehension and in a for. -/
namespace L2
open PySem
theorem lc_enumT {K : PySem.W.Frag} {a : Addr} {xs : List V} {g : TG} {tt : TT} {te : TE} {vs : List Nat} {σ : St} {H1 : Hp} {D : Addr} {Qd : Hp → Prop} (Pv : Nat → Hp → Prop) (h0 : Pv 0 (upd H1 D (.lst []))) (hl : ∀ i H, i ≤ xs.length → Pv i H → SqT K H a xs)
    (hs : ∀ i x H, xs[i]? = some x → Pv i H → ∀ t, H t = none → g (.ref t) (wipe σ vs) (upd H t (.tup [.int (i : Nat), x])) fun σ2 H2 => wipe σ2 vs = wipe σ vs ∧ tt σ2 H2 fun b H3 => if b = true then te σ2 H3 fun y H4 => ∃ acc, H4 D = some (.lst acc) ∧ acc.length < sizeLine ∧ Pv (i + 1) (upd H4 D (.lst (acc ++ [y]))) else Pv (i + 1) H3) (hd : ∀ H, Pv xs.length H → Qd H) :
    ∃ W : Nat → Nat → Hp → Prop, (∃ m, W 0 m (upd H1 D (.lst []))) ∧ ∀ i m H, W i m H →
      ((IteT K a).stop i H ∧ Qd H) ∨ ((IteT K a).go i H ∧ ∃ Nx : Hp → Prop, (∀ H', Nx H' → ∃ m', m' < m ∧ W (i + 1) m' H') ∧ ∀ v H', (IteT K a).yld i H v H' → g v (wipe σ vs) H' fun σ2 H2 => wipe σ2 vs = wipe σ vs ∧ tt σ2 H2 fun b H3 =>
        if b = true then te σ2 H3 fun y H4 => ∃ acc, H4 D = some (.lst acc) ∧ acc.length < sizeLine ∧ Nx (upd H4 D (.lst (acc ++ [y]))) else Nx H3) := by
  refine ⟨fun i m H => m = xs.length - i ∧ i ≤ xs.length ∧ Pv i H, ⟨xs.length, by simp, Nat.zero_le _, h0⟩, ?_⟩
  rintro i m H ⟨rfl, hi, pv⟩
  have qq := hl i H hi pv
  by_cases hlt : i < xs.length
  · refine .inr ⟨⟨xs, xs[i], qq, by simp [hlt]⟩, Pv (i + 1), fun H' p' => ⟨xs.length - (i + 1), by omega, rfl, hlt, p'⟩, fun x H' y => ?_⟩
    obtain ⟨t, z, rfl, nt, rfl, y⟩ := y
    exact hs i z _ (y xs qq) pv t nt
  · have e : i = xs.length := by omega
    subst e
    exact .inl ⟨⟨xs, qq, Nat.le_refl _⟩, hd H pv⟩
/-- for k, x in enumerate(tuple) -/
theorem for_enumT {K : PySem.W.Frag} {a : Addr} {xs : List V} {g : TG} {tb : TS} {D : Ends} {σ : St} {H : Hp} (Pv : Nat → St → Hp → Prop) (h0 : Pv 0 σ H) (hl : ∀ i σ H, i ≤ xs.length → Pv i σ H → SqT K H a xs)
    (hs : ∀ i x σ H, xs[i]? = some x → Pv i σ H → ∀ t, H t = none → g (.ref t) σ (upd H t (.tup [.int (i : Nat), x])) fun σ2 H2 => tb { D with nx := Pv (i + 1), ct := Pv (i + 1), bk := D.nx } σ2 H2) (hd : ∀ σ H, Pv xs.length σ H → D.nx σ H) :
    ∃ W : Nat → Nat → St → Hp → Prop, (∃ m, W 0 m σ H) ∧ ∀ i m σ H, W i m σ H →
      ((IteT K a).stop i H ∧ D.nx σ H) ∨ ((IteT K a).go i H ∧ ∃ N : St → Hp → Prop, (∀ σ' H', N σ' H' → ∃ m', m' < m ∧ W (i + 1) m' σ' H') ∧ ∀ x H', (IteT K a).yld i H x H' → g x σ H' fun σ2 H2 => tb { D with nx := N, ct := N, bk := D.nx } σ2 H2) := by
  refine ⟨fun i m σ H => m = xs.length - i ∧ i ≤ xs.length ∧ Pv i σ H, ⟨xs.length, by simp, Nat.zero_le _, h0⟩, ?_⟩
  rintro i m σ H ⟨rfl, hi, pv⟩
  have qq := hl i σ H hi pv
  by_cases hlt : i < xs.length
  · refine .inr ⟨⟨xs, xs[i], qq, by simp [hlt]⟩, Pv (i + 1), fun σ' H' p' => ⟨xs.length - (i + 1), by omega, rfl, hlt, p'⟩, fun x H' y => ?_⟩
    obtain ⟨t, z, rfl, nt, rfl, y⟩ := y
    exact hs i z σ _ (y xs qq) pv t nt
  · have e : i = xs.length := by omega
    subst e
    exact .inl ⟨⟨xs, qq, Nat.le_refl _⟩, hd σ H pv⟩
end L2
namespace L2
open PySem PySem.W
end L2

/-! A walk by other names. -/
namespace Zm
open PySem L2 Wd Wm Km Bm Gm Hm Fm Fn PyProof.Rows
/-- other names in the same order, which go alike -/
structure Rg (ρ : Str → Str) (names : List Str) (g g' : Str → Str → Bool) : Prop where
  r : Ren ρ names
  e : ∀ a ∈ names, ∀ b ∈ names, g' (ρ a) (ρ b) = g a b
section
variable {ρ : Str → Str} {names : List Str} {g g' : Str → Str → Bool} {D : List (List Str)}
theorem Rg.lt (h : Rg ρ names g g') {x y : Str} (hx : x ∈ names) (hy : y ∈ names) : sLt (ρ x) (ρ y) ↔ sLt x y := by
  refine ⟨fun k => ?_, h.r.mono x hx y hy⟩
  refine Decidable.byContradiction fun n => ?_
  by_cases c : sLt y x
  · exact sLt_irr _ (sLt_trans k (h.r.mono y hy x hx c))
  · rw [sLt_tot n c] at k
    exact sLt_irr _ k
theorem Rg.dec (h : Rg ρ names g g') {x y : Str} (hx : x ∈ names) (hy : y ∈ names) : decide ((ρ x).cps.toList < (ρ y).cps.toList) = decide (x.cps.toList < y.cps.toList) := decide_eq_decide.mpr (h.lt hx hy)
theorem Rg.memD (h : Rg ρ names g g') {x : Str} {xs : List Str} (hx : x ∈ names) (sub : ∀ y ∈ xs, y ∈ names) : decide (ρ x ∈ xs.map ρ) = decide (x ∈ xs) := decide_eq_decide.mpr (h.r.mem hx sub)
theorem filter_mapC {α β : Type} (f : α → β) {p : β → Bool} {q : α → Bool} : ∀ {l : List α}, (∀ x ∈ l, p (f x) = q x) → (l.map f).filter p = (l.filter q).map f
  | [], _ => rfl
  | x :: l, h => by
    have ih := filter_mapC f fun y hy => h y (List.mem_cons_of_mem _ hy)
    have e := h x (List.mem_cons_self ..)
    cases c : q x with
    | true => rw [List.map_cons, List.filter_cons_of_pos (by rw [e]; exact c), List.filter_cons_of_pos c, List.map_cons, ih]
    | false => rw [List.map_cons, List.filter_cons_of_neg (by rw [e, c]; decide), List.filter_cons_of_neg (by rw [c]; decide), ih]
theorem all_mapC {α β : Type} (f : α → β) {p : β → Bool} {q : α → Bool} : ∀ {l : List α}, (∀ x ∈ l, p (f x) = q x) → (l.map f).all p = l.all q
  | [], _ => rfl
  | x :: l, h => by rw [List.map_cons, List.all_cons, List.all_cons, h x (List.mem_cons_self ..), all_mapC f fun y hy => h y (List.mem_cons_of_mem _ hy)]
theorem Rg.behind (h : Rg ρ names g g') {T : List Str} {x : Str} (sT : ∀ y ∈ T, y ∈ names) (hx : x ∈ names) : behindA g' (T.map ρ) (ρ x) = (behindA g T x).map ρ := by
  unfold behindA
  rw [List.map_append, filter_mapC ρ (q := fun y => decide (y.cps.toList < x.cps.toList) && g x y) fun y hy => by rw [h.dec (sT y hy) hx, h.e x hx y (sT y hy)]]
  rfl
theorem Rg.stG (h : Rg ρ names g g') {hs : List Str} {x : Str} (sh : ∀ y ∈ hs, y ∈ names) (hx : x ∈ names) : stG g' (hs.map ρ) (ρ x) = (stG g hs x).map ρ := by
  unfold Zm.stG
  rw [h.memD hx sh, all_mapC ρ (q := g x) fun y hy => h.e x hx y (sh y hy)]
  split
  · rw [List.map_append]; rfl
  · rfl
theorem stG_sub {hs : List Str} {x : Str} (sh : ∀ y ∈ hs, y ∈ names) (hx : x ∈ names) : ∀ y ∈ stG g hs x, y ∈ names := fun y hy => by
  rcases stG_mem.mp hy with z | z
  · exact sh y z
  · rw [z.1]; exact hx
theorem Rg.fillG (h : Rg ρ names g g') : ∀ {ns hs : List Str}, (∀ x ∈ ns, x ∈ names) → (∀ y ∈ hs, y ∈ names) → fillG g' (ns.map ρ) (hs.map ρ) = (fillG g ns hs).map ρ
  | [], hs, _, _ => rfl
  | x :: ns, hs, sn, sh => by
    show Zm.fillG g' (ns.map ρ) (Zm.stG g' (hs.map ρ) (ρ x)) = (Zm.fillG g ns (Zm.stG g hs x)).map ρ
    rw [h.stG sh (sn x (List.mem_cons_self ..))]
    exact h.fillG (fun y hy => sn y (List.mem_cons_of_mem _ hy)) (stG_sub sh (sn x (List.mem_cons_self ..)))
theorem fillG_sub : ∀ {ns hs : List Str}, (∀ x ∈ ns, x ∈ names) → (∀ y ∈ hs, y ∈ names) → ∀ y ∈ fillG g ns hs, y ∈ names
  | [], hs, _, sh => sh
  | x :: ns, hs, sn, sh => fillG_sub (ns := ns) (hs := Zm.stG g hs x) (fun y hy => sn y (List.mem_cons_of_mem _ hy)) (stG_sub sh (sn x (List.mem_cons_self ..)))
theorem Rg.filG (h : Rg ρ names g g') {r : List Str} (sr : ∀ y ∈ r, y ∈ names) : filG (names.map ρ) g' (r.map ρ) = (filG names g r).map ρ := by
  unfold Zm.filG
  rw [h.fillG (fun _ hx => hx) sr]
  exact ren_kN h.r (fillG_sub (fun _ hx => hx) sr)
theorem behind_in {T : List Str} {x : Str} (sT : ∀ y ∈ T, y ∈ names) (hx : x ∈ names) : ∀ y ∈ behindA g T x, y ∈ names := fun y hy => by
  rcases mem_behind.mp hy with z | z
  · exact sT y z.1
  · rw [z]; exact hx
theorem Rg.giv (h : Rg ρ names g g') {T : List Str} {x : Str} (sT : ∀ y ∈ T, y ∈ names) (hx : x ∈ names) : giv (names.map ρ) g' (T.map ρ) (ρ x) = (giv names g T x).map ρ := by
  unfold Zm.giv
  rw [h.behind sT hx]
  exact h.filG (behind_in sT hx)
theorem Rg.full (h : Rg ρ names g g') {r : List Str} {x : Str} (sr : ∀ y ∈ r, y ∈ names) (hx : x ∈ names) : fullB (names.map ρ) g' (r.map ρ) (ρ x) = fullB names g r x := by
  unfold fullB
  rw [filter_mapC ρ (q := fun y => decide (y.cps.toList < x.cps.toList) && !decide (y ∈ r)) fun y hy => by rw [h.dec hy hx, h.memD hy sr], List.map_map]
  congr 2
  refine List.map_congr_left fun y hy => ?_
  exact all_mapC ρ fun z hz => h.e y (List.mem_filter.mp hy).1 z (sr z hz)
theorem Rg.ledB (h : Rg ρ names g g') {T : List Str} {x : Str} (sT : ∀ y ∈ T, y ∈ names) (hx : x ∈ names) : ledB (names.map ρ) g' (T.map ρ) (ρ x) = ledB names g T x := by
  unfold Zm.ledB
  rw [h.memD hx sT, h.behind sT hx, h.full (behind_in sT hx) hx]
theorem Rg.ledL (h : Rg ρ names g g') {T : List Str} (sT : ∀ y ∈ T, y ∈ names) : ledL (names.map ρ) g' (T.map ρ) = (ledL names g T).map (List.map ρ) := by
  unfold Zm.ledL
  rw [filter_mapC ρ (q := Zm.ledB names g T) fun x hx => h.ledB sT hx, List.map_map, List.map_map]
  refine List.map_congr_left fun x hx => ?_
  exact h.giv sT (List.mem_filter.mp hx).1
theorem Rg.fils (h : Rg ρ names g g') (sD : ∀ T ∈ D, ∀ y ∈ T, y ∈ names) (k : Nat) : fils (names.map ρ) g' (D.map (List.map ρ)) k = fils names g D k := by
  unfold Zm.fils
  rw [← List.map_take, List.map_map]
  congr 1
  refine List.map_congr_left fun T hT => ?_
  show (Zm.ledL (names.map ρ) g' (T.map ρ)).length = _
  rw [h.ledL (sD T (List.mem_of_mem_take hT)), List.length_map]
/-! ### all rows -/
theorem Rg.map_inj (h : Rg ρ names g g') : ∀ {xs ys : List Str}, (∀ x ∈ xs, x ∈ names) → (∀ y ∈ ys, y ∈ names) → xs.map ρ = ys.map ρ → xs = ys
  | [], [], _, _, _ => rfl
  | [], _ :: _, _, _, e => by cases e
  | _ :: _, [], _, _, e => by cases e
  | x :: xs, y :: ys, sx, sy, e => by
    rw [List.map_cons, List.map_cons] at e
    obtain ⟨e1, e2⟩ := List.cons.inj e
    rw [h.r.inj (sx x (List.mem_cons_self ..)) (sy y (List.mem_cons_self ..)) e1, h.map_inj (fun z hz => sx z (List.mem_cons_of_mem _ hz)) (fun z hz => sy z (List.mem_cons_of_mem _ hz)) e2]
theorem Rg.lex (h : Rg ρ names g g') : ∀ {xs ys : List Str}, (∀ x ∈ xs, x ∈ names) → (∀ y ∈ ys, y ∈ names) → LS.lexS (xs.map ρ) (ys.map ρ) = LS.lexS xs ys
  | [], [], _, _ => rfl
  | [], _ :: _, _, _ => rfl
  | _ :: _, [], _, _ => rfl
  | x :: xs, y :: ys, sx, sy => by
    have hx := sx x (List.mem_cons_self ..)
    have hy := sy y (List.mem_cons_self ..)
    rw [List.map_cons, List.map_cons, LS.lexS_cons, LS.lexS_cons]
    by_cases e : x = y
    · subst e
      rw [if_pos rfl, if_pos rfl]
      exact h.lex (fun z hz => sx z (List.mem_cons_of_mem _ hz)) (fun z hz => sy z (List.mem_cons_of_mem _ hz))
    · rw [if_neg e, if_neg fun z => e (h.r.inj hx hy z)]
      exact h.dec hx hy
theorem sub_map {ρ : Str → Str} : ∀ {names r : List Str}, r.Sublist (names.map ρ) → ∃ q : List Str, q.Sublist names ∧ r = q.map ρ := fun {names r} s => by
  obtain ⟨q, h1, h2⟩ := List.sublist_map_iff.mp s
  exact ⟨q, h1, h2⟩
theorem Rg.mxc (h : Rg ρ names g g') {r : List Str} (sr : ∀ y ∈ r, y ∈ names) : Mxc (names.map ρ) g' (r.map ρ) ↔ Mxc names g r := by
  constructor
  · intro m
    refine ⟨sr, fun a ha b hb ne => ?_, fun x hx hn => ?_⟩
    · rw [← h.e a (sr a ha) b (sr b hb)]
      exact m.clq _ (List.mem_map.mpr ⟨a, ha, rfl⟩) _ (List.mem_map.mpr ⟨b, hb, rfl⟩) fun z => ne (h.r.inj (sr a ha) (sr b hb) z)
    · obtain ⟨a', ha', e⟩ := m.max (ρ x) (List.mem_map.mpr ⟨x, hx, rfl⟩) fun z => hn ((h.r.mem hx sr).mp z)
      obtain ⟨a, ha, rfl⟩ := List.mem_map.mp ha'
      exact ⟨a, ha, by rw [← h.e x hx a (sr a ha)]; exact e⟩
  · intro m
    refine ⟨fun y hy => ?_, fun a' ha' b' hb' ne => ?_, fun x' hx' hn => ?_⟩
    · obtain ⟨x, hx, rfl⟩ := List.mem_map.mp hy
      exact List.mem_map.mpr ⟨x, sr x hx, rfl⟩
    · obtain ⟨a, ha, rfl⟩ := List.mem_map.mp ha'
      obtain ⟨b, hb, rfl⟩ := List.mem_map.mp hb'
      rw [h.e a (sr a ha) b (sr b hb)]
      exact m.clq a ha b hb fun z => ne (by rw [z])
    · obtain ⟨x, hx, rfl⟩ := List.mem_map.mp hx'
      obtain ⟨a, ha, e⟩ := m.max x hx fun z => hn ((h.r.mem hx sr).mpr z)
      exact ⟨ρ a, List.mem_map.mpr ⟨a, ha, rfl⟩, by rw [h.e x hx a (sr a ha)]; exact e⟩
theorem Rg.all (h : Rg ρ names g g') (A : AllOf names g D) : AllOf (names.map ρ) g' (D.map (List.map ρ)) := by
  have sD : ∀ T ∈ D, ∀ y ∈ T, y ∈ names := fun T hT y hy => ((A.mem T).mp hT).1.subset hy
  refine ⟨fun r => ?_, List.pairwise_map.mpr (List.Pairwise.imp_of_mem (fun {a b} ha hb z => by rw [h.lex (sD a ha) (sD b hb)]; exact z) A.asc)⟩
  rw [List.mem_map]
  constructor
  · rintro ⟨q, hq, rfl⟩
    obtain ⟨s, m⟩ := (A.mem q).mp hq
    exact ⟨s.map ρ, (h.mxc fun y hy => s.subset hy).mpr m⟩
  · rintro ⟨s, m⟩
    obtain ⟨q, s', rfl⟩ := sub_map s
    exact ⟨q, (A.mem q).mpr ⟨s', (h.mxc fun y hy => s'.subset hy).mp m⟩, rfl⟩
theorem Rg.come (h : Rg ρ names g g') (sD : ∀ T ∈ D, ∀ y ∈ T, y ∈ names) {k : Nat} {r : List Str} : Come (names.map ρ) g' (D.map (List.map ρ)) k r ↔ ∃ q, Come names g D k q ∧ r = q.map ρ := by
  have e0 : Zm.filG (names.map ρ) g' [] = (Zm.filG names g []).map ρ := h.filG (r := []) fun y hy => by cases hy
  constructor
  · rintro (e | ⟨j, T, x, hj, hT, v, e⟩)
    · exact ⟨_, .inl rfl, by rw [e, e0]⟩
    · rw [List.getElem?_map] at hT
      obtain ⟨T0, hT0, rfl⟩ := Option.map_eq_some_iff.mp hT
      have sT := sD T0 (List.mem_of_getElem? hT0)
      obtain ⟨x0, hx0, rfl⟩ := List.mem_map.mp v.1
      refine ⟨Zm.giv names g T0 x0, .inr ⟨j, T0, x0, hj, hT0, ?_, rfl⟩, by rw [e, h.giv sT hx0]⟩
      have := (ledB_iff (List.mem_map.mpr ⟨x0, hx0, rfl⟩)).mpr v
      rw [h.ledB sT hx0] at this
      exact (ledB_iff hx0).mp this
  · rintro ⟨q, (e | ⟨j, T, x, hj, hT, v, e⟩), rfl⟩
    · exact .inl (by rw [e, e0])
    · have sT := sD T (List.mem_of_getElem? hT)
      refine .inr ⟨j, T.map ρ, ρ x, hj, by rw [List.getElem?_map, hT]; rfl, ?_, by rw [e, h.giv sT v.1]⟩
      have := (ledB_iff v.1).mpr v
      rw [← h.ledB sT v.1] at this
      exact (ledB_iff (List.mem_map.mpr ⟨x, v.1, rfl⟩)).mp this
theorem Rg.wk (h : Rg ρ names g g') (A : AllOf names g D) (G : Gr g) {k : Nat} {W : List (List Str)} (w : Wk names g D k W) : Wk (names.map ρ) g' (D.map (List.map ρ)) k (W.map (List.map ρ)) := by
  have sD : ∀ T ∈ D, ∀ y ∈ T, y ∈ names := fun T hT y hy => ((A.mem T).mp hT).1.subset hy
  have sC : ∀ q, Come names g D k q → ∀ y ∈ q, y ∈ names := fun q hq => sD q (hq.row A G)
  refine ⟨?_, fun r => ?_⟩
  · refine List.nodup_iff_pairwise_ne.mpr (List.pairwise_map.mpr ?_)
    refine List.Pairwise.imp_of_mem (fun {a b} ha hb ne e => ne ?_) (List.nodup_iff_pairwise_ne.mp w.nd)
    exact h.map_inj (sC a ((w.mem a).mp ha).1) (sC b ((w.mem b).mp hb).1) e
  · rw [List.mem_map, h.come sD]
    constructor
    · rintro ⟨q, hq, rfl⟩
      obtain ⟨c, n⟩ := (w.mem q).mp hq
      refine ⟨⟨q, c, rfl⟩, fun z => n ?_⟩
      rw [← List.map_take] at z
      obtain ⟨p, hp, e⟩ := List.mem_map.mp z
      rw [← h.map_inj (sD p (List.mem_of_mem_take hp)) (sC q c) e]
      exact hp
    · rintro ⟨⟨q, c, rfl⟩, n⟩
      refine ⟨q, (w.mem q).mpr ⟨c, fun z => n ?_⟩, rfl⟩
      rw [← List.map_take]
      exact List.mem_map.mpr ⟨q, z, rfl⟩
end
end Zm

/-! One name more, behind all others. -/
namespace Zm
open PySem L2 Wd Wm Km Bm Gm Hm Fm Fn PyProof.Rows
theorem lex_app : ∀ {a b s t : List Str}, LS.lexS a b = true → ¬ a <+: b → LS.lexS (a ++ s) (b ++ t) = true
  | [], b, _, _, _, n => absurd (List.nil_prefix) n
  | x :: a, [], _, _, h, _ => by
    have : LS.lexS (x :: a) [] = false := rfl
    rw [this] at h
    cases h
  | x :: a, y :: b, s, t, h, n => by
    rw [List.cons_append, List.cons_append, LS.lexS_cons]
    rw [LS.lexS_cons] at h
    by_cases e : x = y
    · subst e
      rw [if_pos rfl] at h ⊢
      exact lex_app h fun z => n (List.cons_prefix_cons.mpr ⟨rfl, z⟩)
    · rw [if_neg e] at h ⊢
      exact h
section
variable {names : List Str} {g g' : Str → Str → Bool} {D : List (List Str)} {m : Str}
theorem mxc_prefix {a b : List Str} (nd : b.Nodup) (ha : Mxc names g a) (hb : Mxc names g b) (p : a <+: b) : a = b := by
  obtain ⟨t, e⟩ := p
  have : t = [] := by
    cases ht : t with
    | nil => rfl
    | cons x u =>
      exfalso
      have hxt : x ∈ t := by rw [ht]; simp
      have hxb : x ∈ b := by rw [← e]; exact List.mem_append_right _ hxt
      by_cases hxa : x ∈ a
      · rw [← e, List.nodup_append] at nd
        exact nd.2.2 x hxa x hxt rfl
      · obtain ⟨c, hc, z⟩ := ha.max x (hb.sub x hxb) hxa
        have hcb : c ∈ b := by rw [← e]; exact List.mem_append_left _ hc
        have ne : x ≠ c := fun q => hxa (by rw [q]; exact hc)
        rw [hb.clq x hxb c hcb ne] at z
        cases z
  rw [this, List.append_nil] at e
  exact e
theorem sub_sing {e : List Str} (h : e.Sublist [m]) : e = [] ∨ e = [m] := by
  cases h with
  | cons _ h => exact .inl (List.sublist_nil.mp h)
  | cons_cons _ h => exact .inr (by rw [List.sublist_nil.mp h])
theorem sub_one {r : List Str} : r.Sublist (names ++ [m]) ↔ ∃ q, q.Sublist names ∧ (r = q ∨ r = q ++ [m]) := by
  rw [List.sublist_append_iff]
  constructor
  · rintro ⟨q, e, rfl, hq, he⟩
    rcases sub_sing he with z | z
    · exact ⟨q, hq, .inl (by rw [z, List.append_nil])⟩
    · exact ⟨q, hq, .inr (by rw [z])⟩
  · rintro ⟨q, hq, rfl | rfl⟩
    · exact ⟨_, [], by rw [List.append_nil], hq, List.nil_sublist _⟩
    · exact ⟨q, [m], rfl, hq, List.Sublist.refl _⟩
/-- a name that goes with all -/
theorem goes_all (hs : names.Pairwise sLt) (hm : m ∉ names) (e : ∀ a ∈ names, ∀ b ∈ names, g' a b = g a b) (go : ∀ a ∈ names, g' a m = true ∧ g' m a = true) (A : AllOf names g D) : AllOf (names ++ [m]) g' (D.map fun r => r ++ [m]) := by
  have sD : ∀ T ∈ D, ∀ y ∈ T, y ∈ names := fun T hT y hy => ((A.mem T).mp hT).1.subset hy
  refine ⟨fun r => ?_, List.pairwise_map.mpr (List.Pairwise.imp_of_mem (fun {a b} ha hb z => ?_) A.asc)⟩
  · rw [List.mem_map]
    constructor
    · rintro ⟨q, hq, rfl⟩
      obtain ⟨s, mx⟩ := (A.mem q).mp hq
      refine ⟨sub_one.mpr ⟨q, s, .inr rfl⟩, fun x hx => ?_, fun a ha b hb ne => ?_, fun x hx hn => ?_⟩
      · rcases List.mem_append.mp hx with z | z
        · exact List.mem_append_left _ (mx.sub x z)
        · exact List.mem_append_right _ z
      · rcases List.mem_append.mp ha with ha | ha
        · rcases List.mem_append.mp hb with hb | hb
          · rw [e a (mx.sub a ha) b (mx.sub b hb)]; exact mx.clq a ha b hb ne
          · rw [List.mem_singleton.mp hb]; exact (go a (mx.sub a ha)).1
        · rw [List.mem_singleton] at ha
          subst ha
          rcases List.mem_append.mp hb with hb | hb
          · exact (go b (mx.sub b hb)).2
          · exact absurd (List.mem_singleton.mp hb).symm ne
      · rcases List.mem_append.mp hx with hx | hx
        · obtain ⟨a, ha, z⟩ := mx.max x hx fun z => hn (List.mem_append_left _ z)
          exact ⟨a, List.mem_append_left _ ha, by rw [e x hx a (mx.sub a ha)]; exact z⟩
        · exact absurd (List.mem_append_right _ hx) hn
    · rintro ⟨s, mx⟩
      obtain ⟨q, sq, h⟩ := sub_one.mp s
      have sqn : ∀ y ∈ q, y ∈ names := fun y hy => sq.subset hy
      rcases h with rfl | rfl
      · exfalso
        obtain ⟨a, ha, z⟩ := mx.max m (List.mem_append_right _ (by simp)) fun z => hm (sqn m z)
        rw [(go a (sqn a ha)).2] at z
        cases z
      · refine ⟨q, (A.mem q).mpr ⟨sq, sqn, fun a ha b hb ne => ?_, fun x hx hn => ?_⟩, rfl⟩
        · rw [← e a (sqn a ha) b (sqn b hb)]
          exact mx.clq a (List.mem_append_left _ ha) b (List.mem_append_left _ hb) ne
        · obtain ⟨a, ha, z⟩ := mx.max x (List.mem_append_left _ hx) fun z => by
            rcases List.mem_append.mp z with z | z
            · exact hn z
            · rw [List.mem_singleton.mp z] at hx; exact hm hx
          rcases List.mem_append.mp ha with ha | ha
          · exact ⟨a, ha, by rw [← e x hx a (sqn a ha)]; exact z⟩
          · rw [List.mem_singleton.mp ha, (go x hx).1] at z
            cases z
  · refine lex_app z fun p => ?_
    obtain ⟨sa, ma⟩ := (A.mem a).mp ha
    obtain ⟨sb, mb⟩ := (A.mem b).mp hb
    have nb : b.Nodup := nd_lt (hs.sublist sb)
    rw [mxc_prefix nb ma mb p, lex_irr] at z
    cases z
/-- a name that goes with none -/
theorem goes_none (hl : ∀ a ∈ names, sLt a m) (e : ∀ a ∈ names, ∀ b ∈ names, g' a b = g a b) (go : ∀ a ∈ names, g' a m = false ∧ g' m a = false) (A : AllOf names g D) : AllOf (names ++ [m]) g' ((if names = [] then [] else D) ++ [[m]]) := by
  have hm : m ∉ names := fun z => sLt_irr _ (hl m z)
  have sD : ∀ T ∈ D, ∀ y ∈ T, y ∈ names := fun T hT y hy => ((A.mem T).mp hT).1.subset hy
  refine ⟨fun r => ?_, ?_⟩
  · rw [List.mem_append, List.mem_singleton]
    constructor
    · rintro (h | rfl)
      · by_cases c : names = []
        · rw [if_pos c] at h; cases h
        · rw [if_neg c] at h
          obtain ⟨s, mx⟩ := (A.mem r).mp h
          refine ⟨sub_one.mpr ⟨r, s, .inl rfl⟩, fun x hx => List.mem_append_left _ (mx.sub x hx), fun a ha b hb ne => ?_, fun x hx hn => ?_⟩
          · rw [e a (mx.sub a ha) b (mx.sub b hb)]; exact mx.clq a ha b hb ne
          · rcases List.mem_append.mp hx with hx | hx
            · obtain ⟨a, ha, z⟩ := mx.max x hx hn
              exact ⟨a, ha, by rw [e x hx a (mx.sub a ha)]; exact z⟩
            · obtain ⟨a, ha⟩ := mxc_ne mx c
              rw [List.mem_singleton.mp hx]
              exact ⟨a, ha, (go a (mx.sub a ha)).2⟩
      · refine ⟨sub_one.mpr ⟨[], List.nil_sublist _, .inr rfl⟩, fun x hx => List.mem_append_right _ hx, fun a ha b hb ne => ?_, fun x hx hn => ?_⟩
        · exact absurd ((List.mem_singleton.mp ha).trans (List.mem_singleton.mp hb).symm) ne
        · rcases List.mem_append.mp hx with hx | hx
          · exact ⟨m, by simp, (go x hx).1⟩
          · exact absurd hx hn
    · rintro ⟨s, mx⟩
      obtain ⟨q, sq, h⟩ := sub_one.mp s
      have sqn : ∀ y ∈ q, y ∈ names := fun y hy => sq.subset hy
      rcases h with rfl | rfl
      · left
        by_cases c : names = []
        · exfalso
          have hq : r = [] := by rw [c] at sq; exact List.sublist_nil.mp sq
          subst hq
          obtain ⟨a, ha, _⟩ := mx.max m (List.mem_append_right _ (by simp)) (by simp)
          cases ha
        · rw [if_neg c]
          refine (A.mem r).mpr ⟨sq, sqn, fun a ha b hb ne => ?_, fun x hx hn => ?_⟩
          · rw [← e a (sqn a ha) b (sqn b hb)]; exact mx.clq a ha b hb ne
          · obtain ⟨a, ha, z⟩ := mx.max x (List.mem_append_left _ hx) hn
            exact ⟨a, ha, by rw [← e x hx a (sqn a ha)]; exact z⟩
      · right
        cases hq : q with
        | nil => rfl
        | cons a u =>
          exfalso
          have ha : a ∈ q := by rw [hq]; simp
          have := mx.clq a (List.mem_append_left _ ha) m (List.mem_append_right _ (by simp)) fun z => hm (by rw [← z]; exact sqn a ha)
          rw [(go a (sqn a ha)).1] at this
          cases this
  · refine List.pairwise_append.mpr ⟨?_, by simp, fun r hr s hs => ?_⟩
    · split
      · exact .nil
      · exact A.asc
    · rw [List.mem_singleton] at hs
      subst hs
      by_cases c : names = []
      · rw [if_pos c] at hr; cases hr
      · rw [if_neg c] at hr
        obtain ⟨_, mx⟩ := (A.mem r).mp hr
        cases hrr : r with
        | nil =>
          obtain ⟨a, ha⟩ := mxc_ne mx c
          rw [hrr] at ha
          cases ha
        | cons x u =>
          have hx := sD r hr x (by rw [hrr]; simp)
          have lt := hl x hx
          rw [LS.lexS_cons, if_neg fun z => by rw [z] at lt; exact sLt_irr _ lt]
          exact decide_eq_true lt
end
/-! ### the last name that there is -/
theorem lt_z : ∀ (n : Nat) {l : List Nat}, l.length ≤ n → (∀ c ∈ l, c ≤ 122) → l ≠ List.replicate n 122 → l < List.replicate n 122
  | 0, l, h, _, ne => absurd (List.eq_nil_of_length_eq_zero (Nat.le_zero.mp h)) ne
  | n + 1, [], _, _, _ => by
    rw [List.replicate_succ]
    exact List.nil_lt_cons _ _
  | n + 1, c :: l, h, hc, ne => by
    rw [List.replicate_succ] at ne ⊢
    rw [List.cons_lt_cons_iff]
    have c1 := hc c (List.mem_cons_self ..)
    by_cases e : c = 122
    · refine .inr ⟨e, lt_z n (by simpa using h) (fun d hd => hc d (List.mem_cons_of_mem _ hd)) fun z => ne (by rw [e, z])⟩
    · exact .inl (by omega)
theorem z8_lt {x : Str} (hw : Word x) (ne : x ≠ ("zzzzzzzz" : Str)) : sLt x ("zzzzzzzz" : Str) := by
  have ez : ("zzzzzzzz" : Str).cps.toList = List.replicate 8 122 := by decide +kernel
  show x.cps.toList < ("zzzzzzzz" : Str).cps.toList
  rw [ez]
  refine lt_z 8 (by have := hw.hi; rw [len_tl] at this; exact this) (fun c hc => (hw.lt c hc).2) fun z => ne ?_
  rw [← ez] at z
  have : x.cps = ("zzzzzzzz" : Str).cps := Array.toList_inj.mp z
  cases x
  cases h : ("zzzzzzzz" : Str)
  rw [h] at this
  congr
theorem z8_ok : Word ("zzzzzzzz" : Str) ∧ ("zzzzzzzz" : Str) ∉ own16 := by
  refine ⟨⟨by decide +kernel, by decide +kernel, ?_⟩, by decide +kernel⟩
  have ez : ("zzzzzzzz" : Str).cps.toList = List.replicate 8 122 := by decide +kernel
  intro c hc
  rw [ez] at hc
  have := List.eq_of_mem_replicate hc
  omega
/-! ### the two webs with a place more -/
section
variable {names : List Str} {ties T : List SS} {m : Str} {kd : Kd} {D : List (List Str)}
theorem more_ns (w : WebOk names ties) (hl : ∀ a ∈ names, sLt a m) : (names ++ [m]).Pairwise sLt := List.pairwise_append.mpr ⟨w.ns, by simp, fun a ha b hb => by rw [List.mem_singleton.mp hb]; exact hl a ha⟩
theorem none_ok (w : WebOk names ties) (hl : ∀ a ∈ names, sLt a m) (hm : Word m ∧ m ∉ own16) : WebOk (names ++ [m]) ties := ⟨more_ns w hl, fun x hx => by
    rcases List.mem_append.mp hx with z | z
    · exact w.nw x z
    · rw [List.mem_singleton.mp z]; exact hm, w.ts, fun p hp => ⟨List.mem_append_left _ (w.ti p hp).1, List.mem_append_left _ (w.ti p hp).2.1, (w.ti p hp).2.2⟩⟩
theorem all_ok (w : WebOk names ties) (hl : ∀ a ∈ names, sLt a m) (hm : Word m ∧ m ∉ own16) (pm : T.Perm (ties ++ names.map fun a => (a, m))) (st : T.Pairwise fun p q => prLt q p = false) : WebOk (names ++ [m]) T := by
  have mn : m ∉ names := fun z => sLt_irr _ (hl m z)
  have tn : ties.Nodup := List.nodup_iff_pairwise_ne.mpr (List.Pairwise.imp (fun {a b} q e => by rw [e, prLt_irr] at q; cases q) w.ts)
  have nd : (ties ++ names.map fun a => (a, m)).Nodup := by
    rw [List.nodup_append]
    refine ⟨tn, List.nodup_iff_pairwise_ne.mpr (List.pairwise_map.mpr ((List.nodup_iff_pairwise_ne.mp (nd_lt w.ns)).imp fun {a b} ne e => ne (Prod.mk.inj e).1)), fun p hp q hq e => ?_⟩
    obtain ⟨a, _, rfl⟩ := List.mem_map.mp hq
    rw [e] at hp
    exact mn (w.ti _ hp).2.1
  refine ⟨more_ns w hl, (none_ok w hl hm).nw, Wm.asc_of st (pm.nodup_iff.mpr nd), fun p hp => ?_⟩
  rcases List.mem_append.mp (pm.mem_iff.mp hp) with z | z
  · exact (none_ok w hl hm).ti p z
  · obtain ⟨a, ha, rfl⟩ := List.mem_map.mp z
    exact ⟨List.mem_append_left _ ha, List.mem_append_right _ (by simp), hl a ha⟩
theorem none_tie (w : WebOk names ties) (mn : m ∉ names) {a : Str} : ¬ Tie ties a m ∧ ¬ Tie ties m a := by
  constructor
  · rintro (t | t)
    · exact mn (w.ti _ t).2.1
    · exact mn (w.ti _ t).1
  · rintro (t | t)
    · exact mn (w.ti _ t).1
    · exact mn (w.ti _ t).2.1
theorem all_tie (w : WebOk names ties) (mn : m ∉ names) (pm : T.Perm (ties ++ names.map fun a => (a, m))) {a : Str} (ha : a ∈ names) : Tie T a m ∧ Tie T m a := by
  have : (a, m) ∈ T := pm.mem_iff.mpr (List.mem_append_right _ (List.mem_map.mpr ⟨a, ha, rfl⟩))
  exact ⟨.inl this, .inr this⟩
theorem all_old (w : WebOk names ties) (mn : m ∉ names) (pm : T.Perm (ties ++ names.map fun a => (a, m))) {a b : Str} (ha : a ∈ names) (hb : b ∈ names) : Tie T a b ↔ Tie ties a b := by
  unfold Tie
  rw [pm.mem_iff, pm.mem_iff, List.mem_append, List.mem_append]
  have n1 : ∀ c d : Str, d ∈ names → (c, d) ∉ names.map fun a => (a, m) := fun c d hd z => by
    obtain ⟨x, _, e⟩ := List.mem_map.mp z
    rw [← (Prod.mk.inj e).2] at hd
    exact mn hd
  constructor
  · rintro ((h | h) | (h | h))
    · exact .inl h
    · exact absurd h (n1 a b hb)
    · exact .inr h
    · exact absurd h (n1 b a ha)
  · rintro (h | h)
    · exact .inl (.inl h)
    · exact .inr (.inl h)
/-- the rows with a place more that is tied to none, or to all -/
theorem none_T (w : WebOk names ties) (hl : ∀ a ∈ names, sLt a m) (A : AllOf names (gK ties .T) D) : AllOf (names ++ [m]) (gK ties .T) ((if names = [] then [] else D) ++ [[m]]) := by
  have mn : m ∉ names := fun z => sLt_irr _ (hl m z)
  refine goes_none hl (fun _ _ _ _ => rfl) (fun a ha => ?_) A
  have ne : a ≠ m := fun z => mn (by rw [← z]; exact ha)
  exact ⟨Bool.eq_false_iff.mpr fun z => (none_tie w mn).1 (((gK_iff ne).mp z).mpr rfl), Bool.eq_false_iff.mpr fun z => (none_tie w mn).2 (((gK_iff ne.symm).mp z).mpr rfl)⟩
theorem none_A (w : WebOk names ties) (hl : ∀ a ∈ names, sLt a m) (A : AllOf names (gK ties .A) D) : AllOf (names ++ [m]) (gK ties .A) (D.map fun r => r ++ [m]) := by
  have mn : m ∉ names := fun z => sLt_irr _ (hl m z)
  refine goes_all w.ns mn (fun _ _ _ _ => rfl) (fun a ha => ?_) A
  have ne : a ≠ m := fun z => mn (by rw [← z]; exact ha)
  exact ⟨(gK_iff ne).mpr ⟨fun z => absurd z (none_tie w mn).1, fun z => by cases z⟩, (gK_iff ne.symm).mpr ⟨fun z => absurd z (none_tie w mn).2, fun z => by cases z⟩⟩
theorem all_T (w : WebOk names ties) (hl : ∀ a ∈ names, sLt a m) (pm : T.Perm (ties ++ names.map fun a => (a, m))) (A : AllOf names (gK ties .T) D) : AllOf (names ++ [m]) (gK T .T) (D.map fun r => r ++ [m]) := by
  have mn : m ∉ names := fun z => sLt_irr _ (hl m z)
  refine goes_all w.ns mn (fun a ha b hb => gK_congr (all_old w mn pm ha hb)) (fun a ha => ?_) A
  have ne : a ≠ m := fun z => mn (by rw [← z]; exact ha)
  exact ⟨(gK_iff ne).mpr ⟨fun _ => rfl, fun _ => (all_tie w mn pm ha).1⟩, (gK_iff ne.symm).mpr ⟨fun _ => rfl, fun _ => (all_tie w mn pm ha).2⟩⟩
theorem all_A (w : WebOk names ties) (hl : ∀ a ∈ names, sLt a m) (pm : T.Perm (ties ++ names.map fun a => (a, m))) (A : AllOf names (gK ties .A) D) : AllOf (names ++ [m]) (gK T .A) ((if names = [] then [] else D) ++ [[m]]) := by
  have mn : m ∉ names := fun z => sLt_irr _ (hl m z)
  refine goes_none hl (fun a ha b hb => gK_congr (all_old w mn pm ha hb)) (fun a ha => ?_) A
  have ne : a ≠ m := fun z => mn (by rw [← z]; exact ha)
  refine ⟨Bool.eq_false_iff.mpr fun z => ?_, Bool.eq_false_iff.mpr fun z => ?_⟩
  · have := ((gK_iff ne).mp z).mp (all_tie w mn pm ha).1
    cases this
  · have := ((gK_iff ne.symm).mp z).mp (all_tie w mn pm ha).2
    cases this
end
end Zm

/-! sorted of a tuple of pairs of texts. -/
namespace L2
open PySem PySem.Spec PyProof.Rows
def rSortedPT (K : PySem.W.Frag) : List V → Hp → VK → Prop := fun vs H Q => ∃ (a : Addr) (xs : List V) (ps : List SS), vs = [V.ref a] ∧ SqT K H a xs ∧ Prs K H xs ps ∧
  ∀ (xs' : List V) (ps' : List SS) (p : Addr), Prs K H xs' ps' → ps'.Perm ps → ps'.Pairwise (fun p q => prLt q p = false) → H p = none → Q (.ref p) (upd H p (.lst xs'))
section
variable {X : Cx}
theorem cr_sortedPT : CallR X (.builtin "sorted") (rSortedPT X.K) := by
  intro pins s σ H vs us Q I r h
  obtain ⟨a, xs, ps, rfl, hs, hp, q⟩ := h
  obtain ⟨its, rv, ⟨o, ho, hc, n, hd⟩, hz⟩ := I.tuple hs
  rw [Vals.ref1 r]
  have hlen := rv.length
  refine Calls.call_function_entry kind_sorted plain_sorted entry_sorted (args_sorted1 _) ?_
  unfold Builtin.«sorted»
  refine wpAny_bind (m := checkCount "sorted" 1 1 _) (wpAny_pure ?_)
  refine wpAny_bind (wpAny_collect_seq a (.inr rfl) ho hc hd (fun h1 hk => ?_) (by rw [List.size_toArray]; omega))
  refine wpAny_bind (wpAny_newList ?_)
  have I1 := I.kept (t' := s.toks) hk
  have e1 : (h1.push (seqObj "list" its.toArray 0)).get? h1.objs.size = some (seqObj "list" its.toArray 0) := Heap.get?_push_size _ rfl
  have I2 : Inv X pins σ H { s with heap := h1.push (seqObj "list" its.toArray 0) } := I1.kept (t' := s.toks) fun b u hb => Heap.get?_push_of_some _ hb
  show wpAny _ _ _ _ _ { s with heap := h1.push (seqObj "list" its.toArray 0) }
  obtain ⟨fs, ht⟩ := tups_pr I2 rv hp
  have al := all_pr I2 rv hp
  refine wpAny_bind (wpAny_holding (wpAny_call_entry slot_list_sort ⟨_, e1, rfl⟩ entry_list_sort
    (G.list_sort_tups (s := { s with heap := h1.push (seqObj "list" its.toArray 0) }) (shape := fun _ => true) (vs := its) e1 ht (fun v hv => by obtain ⟨_, p, _, _, _, _, z⟩ := al v hv; exact ⟨_, z⟩) (by omega) fun st' h1' h2 _ => ⟨_, rfl, ?_⟩) (args_list_sort _)))
  refine wpAny_pure ⟨_, rfl, ?_⟩
  obtain ⟨ep, he'⟩ := sortedHeap_at (out := (arrOf st').map (·.2)) e1
  have hperm : (arrOf st').toList.Perm (its.zip its) := by rw [← pairsOf_toList]; exact Array.perm_iff_toList_perm.mp h1'
  have hmem : ∀ p, p ∈ (arrOf st').toList → p.1 = p.2 ∧ p.1 ∈ its := fun p hp' => mem_zip_self (hperm.mem_iff.mp hp')
  have hout : ((arrOf st').map (·.2)).toList = (arrOf st').toList.map (·.1) := by
    rw [Array.toList_map]
    exact List.map_congr_left fun p hp' => (hmem p hp').1.symm
  have hin : ∀ u ∈ ((arrOf st').map (·.2)).toList, u ∈ its := fun u hu => by
    rw [hout] at hu
    obtain ⟨p, hp', rfl⟩ := List.mem_map.mp hu
    exact (hmem p hp').2
  have hfst : (its.zip its).map (·.1) = its := by rw [List.map_fst_zip (Nat.le_refl _)]
  have hpu : ((arrOf st').map (·.2)).toList.Perm its := by
    rw [hout]
    have := hperm.map (·.1)
    rw [hfst] at this
    exact this
  generalize hus : ((arrOf st').map (·.2)).toList = out at hin hpu
  have fv : ∀ u ∈ out, RelV ((absV u).getD .non) u := fun u hu => by
    obtain ⟨v, p, e1, e2, _⟩ := al u (hin u hu)
    rw [e1]
    exact e2
  have fp : ∀ u ∈ out, IsPr X.K H ((absV u).getD .non) ((prOf (h1.push (seqObj "list" its.toArray 0)) u).getD default) := fun u hu => by
    obtain ⟨v, p, e1, e2, e3, e4, _⟩ := al u (hin u hu)
    rw [e1, e4]
    exact e3
  have hv' : Vals (out.map fun u => (absV u).getD .non) out := vals_back fv
  have hl' : (out.map fun u => (absV u).getD .non).length ≤ sizeLine := by rw [List.length_map, hpu.length_eq, ← hlen]; exact hz
  refine ⟨.ref h1.objs.size, upd H h1.objs.size (.lst (out.map fun u => (absV u).getD .non)), I1.laid (t' := s.toks) (fun b u hb => ?_) (Nat.le_refl _) ⟨hl', out, ep, hv', ?_⟩, rfl, q _ (out.map fun u => (prOf (h1.push (seqObj "list" its.toArray 0)) u).getD default) _ (prs_back fp) ?_ ?_ (I1.hok.fresh (Nat.le_refl _))⟩
  · have lt : b < h1.objs.size := Heap.lt_size hb
    rw [sortedHeap_old (Nat.ne_of_lt lt) (by rw [size_push']; exact Nat.lt_succ_of_lt lt)]
    exact Heap.get?_push_of_some _ hb
  · rw [← hus, Array.toArray_toList]
    exact he'
  · have := hpu.map (fun u => (prOf (h1.push (seqObj "list" its.toArray 0)) u).getD default)
    rw [map_pr I2 rv hp] at this
    exact this
  · rw [← hus, hout, List.map_map, List.pairwise_map, List.pairwise_iff_getElem]
    intro i j hi hj hij
    have hi' : i < (arrOf st').size := by simpa using hi
    have hj' : j < (arrOf st').size := by simpa using hj
    have k := h2 i j (Nat.le_of_lt hij) (by rw [← h1'.size_eq]; exact hj')
    obtain ⟨_, p1, _, _, _, e1, k1⟩ := al _ (hmem (arrOf st')[i] (by simp)).2
    obtain ⟨_, p2, _, _, _, e2, k2⟩ := al _ (hmem (arrOf st')[j] (by simp)).2
    have g1 : KK (G.tupKindC (h1.push (seqObj "list" its.toArray 0)) (fun _ => true)) (arrOf st') i = prKey p1 := by
      unfold KK
      rw [getElem?_pos (arrOf st') i hi']
      show (G.tupKeyC (h1.push (seqObj "list" its.toArray 0)) (fun _ => true) (arrOf st')[i].1).getD [] = prKey p1
      rw [k1]
      rfl
    have g2 : KK (G.tupKindC (h1.push (seqObj "list" its.toArray 0)) (fun _ => true)) (arrOf st') j = prKey p2 := by
      unfold KK
      rw [getElem?_pos (arrOf st') j hj']
      show (G.tupKeyC (h1.push (seqObj "list" its.toArray 0)) (fun _ => true) (arrOf st')[j].1).getD [] = prKey p2
      rw [k2]
      rfl
    rw [g1, g2] at k
    simp only [Function.comp, Array.getElem_toList, e1, e2, Option.getD_some]
    exact k
end
end L2

namespace K20
open PySem L2
def top (i : Nat) : Stmt := PySem.Challenge.pw_eachgreatest_k20_whole_walks_otherwise.main.body.getD i (.Pass ⟨0, 0, 0, 0⟩)
abbrev s_pairs_of : Stmt := top 1
abbrev s_tie_table : Stmt := top 2
abbrev s_turned_over : Stmt := top 3
abbrev s_goes_with : Stmt := top 6
abbrev s_grown : Stmt := top 7
abbrev s_begun_row : Stmt := top 9
abbrev s_is_full_ahead : Stmt := top 10
abbrev s_rows_led_to : Stmt := top 12
abbrev s_law_pile : Stmt := top 15
abbrev s_law_next : Stmt := top 16
abbrev s_law_names : Stmt := top 17
abbrev s_law_is_tied : Stmt := top 18
abbrev s_law_web : Stmt := top 19
abbrev s_law_renamed : Stmt := top 20
abbrev s_law_three_alike : Stmt := top 21
abbrev s_law_told : Stmt := top 22
abbrev s_law_one_more : Stmt := top 23
abbrev s_law : Stmt := top 24
abbrev s_Walk___init__ : Stmt := inClass (top 13) 0
abbrev s_Walk_tell : Stmt := inClass (top 13) 1
abbrev s_Walk_fillings : Stmt := inClass (top 13) 2
abbrev s_Walk_waiting : Stmt := inClass (top 13) 3
abbrev s_Walk_told : Stmt := inClass (top 13) 4
/-- the built-in names that the text leaves alone -/
structure Tx (mg : Str → Option Value) : Prop where
  len : mg "len" = none
  sum : mg "sum" = none
  range : mg "range" = none
  sorted : mg "sorted" = none
  min : mg "min" = none
  int : mg "int" = none
  tuple : mg "tuple" = none
  isinstance : mg "isinstance" = none
  str : mg "str" = none
  bool : mg "bool" = none
  zip : mg "zip" = none
  enumerate : mg "enumerate" = none
  set : mg "set" = none
  all : mg "all" = none
  list : mg "list" = none
  max : mg "max" = none
  any : mg "any" = none
  reversed : mg "reversed" = none
/-- a def of the text that keeps its promise -/
def Own (P : Program) (w : World) (K : PySem.W.Frag) (mg : Str → Option Value) (base : Heap) (k : Nat) (x : Str) (ps : List Str) (sp : Sp) : Prop :=
  ∃ f fd, FnOk P w K mg base CX0 k f fd ps sp ∧ Binds K fd ps [] ∧ PySem.W.keepIn K (.ref f) = true ∧ mg x = some (.ref f)
end K20
namespace K20
open PySem L2 Wd Wm Km
theorem sl1000 {n : Nat} (h : n ≤ 1000) : n ≤ sizeLine := Nat.le_of_lt (small1000 h)
theorem at_strs {xs : List Str} {r : Int} (h0 : 0 ≤ r) (h1 : r < (xs.length : Int)) : ∃ x, atI (xs.map V.str) r = some (.str x) ∧ x ∈ xs := by
  obtain ⟨k, rfl⟩ := Int.eq_ofNat_of_zero_le h0
  have hk : k < xs.length := by omega
  exact ⟨xs[k], atI_nat (by rw [List.getElem?_map, List.getElem?_eq_getElem hk]; rfl), List.getElem_mem hk⟩
theorem flat_strs : ∀ xs : List Str, (xs.map V.str).all flatV = true
  | [] => rfl
  | _ :: r => by rw [List.map_cons, List.all_cons, flat_strs r]; rfl
theorem in_strs (x : Str) : ∀ xs : List Str, inV (.str x) (xs.map V.str) = decide (x ∈ xs)
  | [] => by simp [inV]
  | y :: r => by
    have ih := in_strs x r
    unfold inV at ih ⊢
    rw [List.map_cons, List.any_cons, ih]
    have e : eqV (.str y) (.str x) = decide (x = y) := by
      show (y == x) = decide (x = y)
      by_cases h : x = y
      · subst h; simp
      · have h' : ¬ y = x := fun z => h z.symm
        simp [h, h']
    rw [e]
    by_cases h : x = y <;> simp [h]
theorem str_at {names : List Str} {i : Nat} {v : V} (hv : (names.map V.str)[i]? = some v) : ∃ x, names[i]? = some x ∧ V.str x = v := by
  rw [List.getElem?_map] at hv
  cases e : names[i]? with
  | none => rw [e] at hv; cases hv
  | some x => rw [e] at hv; exact ⟨x, rfl, Option.some.inj hv⟩
/-- a list of texts grows at D -/
structure Sp1 (H : Hp) (D : Addr) (xs : List Str) (H2 : Hp) : Prop where
  s : Same H H2
  v : H2 D = some (.lst (xs.map V.str))
theorem Sp1.start {H : Hp} {D : Addr} (n : H D = none) : Sp1 H D [] (upd H D (.lst [])) := ⟨same_new n _, upd_same⟩
theorem Sp1.add {H H2 : Hp} {D : Addr} {xs : List Str} (h : Sp1 H D xs H2) (n : H D = none) (x : Str) : Sp1 H D (xs ++ [x]) (upd H2 D (.lst (xs.map V.str ++ [V.str x]))) :=
  ⟨fun b o e => by rw [upd_ne (ne_of_none e n)]; exact h.s b o e, by rw [upd_same, List.map_append]; rfl⟩
/-- a list of pairs grows at D -/
structure Pp (K : PySem.W.Frag) (H : Hp) (D : Addr) (ps : List SS) (H2 : Hp) : Prop where
  s : Same H H2
  v : ∃ vs, H2 D = some (.lst vs) ∧ Prs K H2 vs ps
section
variable {K : PySem.W.Frag} {H H2 : Hp} {D : Addr} {ps : List SS}
theorem Pp.new (h : Pp K H D ps H2) {p : Addr} (n : H2 p = none) (o : HO) : Pp K H D ps (upd H2 p o) := by
  obtain ⟨vs, h1, h2⟩ := h.v
  exact ⟨h.s.trans (same_new n o), vs, by rw [upd_ne (ne_of_none h1 n)]; exact h1, h2.same (same_new n o)⟩
theorem Pp.add (h : Pp K H D ps H2) (n : H D = none) {acc : List V} (ha : H2 D = some (.lst acc)) {v : V} {p : SS} (hv : IsPr K H2 v p) : Pp K H D (ps ++ [p]) (upd H2 D (.lst (acc ++ [v]))) := by
  obtain ⟨vs, h1, h2⟩ := h.v
  rw [ha] at h1
  cases h1
  have kt := keepT_upd ha (.lst (acc ++ [v]))
  exact ⟨fun b o e => by rw [upd_ne (ne_of_none e n)]; exact h.s b o e, _, upd_same, Paired.snoc (h2.keep kt) (hv.keep kt)⟩
theorem Pp.start (n : H D = none) : Pp K H D [] (upd H D (.lst [])) := ⟨same_new n _, [], upd_same, .nil⟩
end
theorem at_nat {xs : List Str} {i : Nat} {x : Str} (h : xs[i]? = some x) : atI (xs.map V.str) (0 + (i : Int)) = some (.str x) := by
  rw [Int.zero_add]
  exact atI_nat (by rw [List.getElem?_map, h]; rfl)
section
variable {K : PySem.W.Frag}
/-- a web stands at a -/
structure WebAt (K : PySem.W.Frag) (H : Hp) (a : Addr) (names : List Str) (ties : List SS) : Prop where
  at_ : ∃ (na ta : Addr) (vs : List V), SqT K H a [.ref na, .ref ta] ∧ SqT K H na (names.map V.str) ∧ SqT K H ta vs ∧ Prs K H vs ties
theorem WebAt.keep {H H' : Hp} {a : Addr} {names : List Str} {ties : List SS} (h : WebAt K H a names ties) (k : KeepT H H') : WebAt K H' a names ties := by
  obtain ⟨na, ta, vs, h1, h2, h3, h4⟩ := h.at_
  exact ⟨na, ta, vs, k.seqT h1, k.seqT h2, k.seqT h3, h4.keep k⟩
end
end K20

namespace K20
open PySem L2
section
variable {P : Program} {w : World} {K : PySem.W.Frag} {mg : Str → Option Value} {base : Heap}
/-! ### _law_pile -/
def spPile (K : PySem.W.Frag) : Sp := fun vs H Q _ => ∃ (a : Addr) (ns : List Int), vs = [.ref a] ∧ SqL K H a (ns.map V.int) ∧ ns.length ≤ 63 ∧ ∀ (p : Addr) (H' : Hp), Same H H' → H p = none → Pile K H' p a ns → Q (.ref p) H'
theorem sc_pile : FnScope ["script"] ["script"] (defScope s_law_pile) := ⟨rfl, rfl, rfl, by decide +kernel, rfl, by decide +kernel, by decide +kernel⟩
theorem ok_pile {f : Addr} {fd : FuncData} (F : Fun K "_law_pile" "_law_pile" s_law_pile f fd) (T : Tx mg) : FnOk P w K mg base CX0 1 f fd ["script"] (spPile K) := by
  have nd := sc_pile.nd
  refine F.ok sc_pile (fun vs H Q E h => ?_) (fun cdv A outer s H vs Q E hr h => ?_)
  · obtain ⟨a, ns, rfl, _⟩ := h
    rfl
  obtain ⟨a, ns, rfl, hS, h63, q⟩ := h
  refine SB.use (bone
  (bret (elst (acons (ev 0 rfl (Or.inl (by kernel_rfl)) (by kernel_rfl) (by kernel_rfl)) (acons eint (acons eint (acons eint (acons eint anil (by kernel_rfl)) (by kernel_rfl)) (by kernel_rfl)) (by kernel_rfl)) (by kernel_rfl))))) ?_
  refine ⟨_, rfl, (by show 5 ≤ sizeLine; decide), fun p hp => ?_⟩
  exact q p _ (same_new hp _) hp ⟨0, 0, 71993, 0, upd_same, fun o => by rw [upd_upd]; exact (same_new hp o).seq hS, h63, Nat.zero_le _, by decide, by decide, by decide⟩
/-! ### _law_next -/
def spNextP (K : PySem.W.Frag) : Sp := fun vs H Q _ => ∃ (p a : Addr) (ns : List Int) (most : Int), vs = [.ref p, .int most] ∧ Pile K H p a ns ∧ 0 < most ∧ most < 100000 ∧ ∀ (r : Int) (H' : Hp), 0 ≤ r → r < most → KB p H H' → Pile K H' p a ns → Q (.int r) H'
theorem sc_nextp : FnScope ["pile", "most", "found", "cell"] ["pile", "most"] (defScope s_law_next) := ⟨rfl, rfl, rfl, by decide +kernel, rfl, by decide +kernel, by decide +kernel⟩
theorem ok_nextp {f : Addr} {fd : FuncData} (F : Fun K "_law_next" "_law_next" s_law_next f fd) (T : Tx mg) (TA : mg "abs" = none) : FnOk P w K mg base CX0 1 f fd ["pile", "most"] (spNextP K) := by
  have nd := sc_nextp.nd
  refine F.ok sc_nextp (fun vs H Q E h => ?_) (fun cdv A outer s H vs Q E hr h => ?_)
  · obtain ⟨p, a, ns, most, rfl, _⟩ := h
    rfl
  obtain ⟨p, a, ns, most, rfl, hP, m0, m1, q⟩ := h
  obtain ⟨i, rest, seed, turn, hp, hS, h63, hi, r0, d0, d1⟩ := hP.at_
  have hSq : SqL K H a (ns.map V.int) := by
    have := hS (.lst [.ref a, .int (i : Nat), .int rest, .int seed, .int turn])
    rw [upd_self hp] at this
    exact this
  have hS2 : ∀ o o', SqL K (upd (upd H p o) p o') a (ns.map V.int) := fun o o' => by rw [upd_upd]; exact hS o'
  refine SB.use (bcons
  (bifs (tcmp op_gt (eix ix_list (ev 0 rfl (Or.inl (by kernel_rfl)) (by kernel_rfl) (by kernel_rfl)) eint (fun _ _ => rfl)) eint (nomark _)) (bcons
  (bset (n := 2) nd rfl (Or.inl (by kernel_rfl)) (eop op_mod (eix ix_list (ev 0 rfl (Or.inl (by kernel_rfl)) (by kernel_rfl) (by kernel_rfl)) eint (fun _ _ => rfl)) (ev 1 rfl (Or.inl (by kernel_rfl)) (by kernel_rfl) (by kernel_rfl))) (by kernel_rfl) (.inl rfl))
  (bcons
  (basg (eop op_fdiv (eix ix_list (ev 0 rfl (Or.inl (by kernel_rfl)) (by kernel_rfl) (by kernel_rfl)) eint (fun _ _ => rfl)) (ev 1 rfl (Or.inl (by kernel_rfl)) (by kernel_rfl) (by kernel_rfl))) (gsub (ev 0 rfl (Or.inl (by kernel_rfl)) (by kernel_rfl) (by kernel_rfl)) eint set_list (by intro _; rfl)) (by kernel_rfl) (by kernel_rfl) (by kernel_rfl))
  (bone
  (bret (ev 2 rfl (Or.inl (by kernel_rfl)) (by kernel_rfl) (by kernel_rfl)))))) bnil)
  (bcons
  (bifs (tcmp op_lt (eix ix_list (ev 0 rfl (Or.inl (by kernel_rfl)) (by kernel_rfl) (by kernel_rfl)) eint (fun _ _ => rfl)) (ecallB call_len_seq (by unfold Gl; kernel_rfl) T.len L2.boot_len (acons (eix ix_list (ev 0 rfl (Or.inl (by kernel_rfl)) (by kernel_rfl) (by kernel_rfl)) eint (fun _ _ => rfl)) anil (by kernel_rfl)) (by decide +kernel) (by kernel_rfl) (by kernel_rfl) (by kernel_rfl)) (nomark _)) (bcons
  (bset (n := 3) nd rfl (Or.inl (by kernel_rfl)) (eix ix_list (eix ix_list (ev 0 rfl (Or.inl (by kernel_rfl)) (by kernel_rfl) (by kernel_rfl)) eint (fun _ _ => rfl)) (eix ix_list (ev 0 rfl (Or.inl (by kernel_rfl)) (by kernel_rfl) (by kernel_rfl)) eint (fun _ _ => rfl)) (fun _ _ => rfl)) (by kernel_rfl) (.inl rfl))
  (bcons
  (basg (eop op_add (eix ix_list (ev 0 rfl (Or.inl (by kernel_rfl)) (by kernel_rfl) (by kernel_rfl)) eint (fun _ _ => rfl)) eint) (gsub (ev 0 rfl (Or.inl (by kernel_rfl)) (by kernel_rfl) (by kernel_rfl)) eint set_list (by intro _; rfl)) (by kernel_rfl) (by kernel_rfl) (by kernel_rfl))
  (bcons
  (basg (eop op_mod (eop op_add (eop op_mul (eix ix_list (ev 0 rfl (Or.inl (by kernel_rfl)) (by kernel_rfl) (by kernel_rfl)) eint (fun _ _ => rfl)) eint) (ev 3 rfl (Or.inl (by kernel_rfl)) (by kernel_rfl) (by kernel_rfl))) eint) (gsub (ev 0 rfl (Or.inl (by kernel_rfl)) (by kernel_rfl) (by kernel_rfl)) eint set_list (by intro _; rfl)) (by kernel_rfl) (by kernel_rfl) (by kernel_rfl))
  (bcons
  (bifs (tcmp op_ge (ecallB call_abs (by unfold Gl; kernel_rfl) TA L2.boot_abs (acons (ev 3 rfl (Or.inl (by kernel_rfl)) (by kernel_rfl) (by kernel_rfl)) anil (by kernel_rfl)) (by decide +kernel) (by kernel_rfl) (by kernel_rfl) (by kernel_rfl)) (eop op_pow eint eint) (nomark _)) (bcons
  (basg (eop op_fdiv (ecallB call_abs (by unfold Gl; kernel_rfl) TA L2.boot_abs (acons (ev 3 rfl (Or.inl (by kernel_rfl)) (by kernel_rfl) (by kernel_rfl)) anil (by kernel_rfl)) (by decide +kernel) (by kernel_rfl) (by kernel_rfl) (by kernel_rfl)) (ev 1 rfl (Or.inl (by kernel_rfl)) (by kernel_rfl) (by kernel_rfl))) (gsub (ev 0 rfl (Or.inl (by kernel_rfl)) (by kernel_rfl) (by kernel_rfl)) eint set_list (by intro _; rfl)) (by kernel_rfl) (by kernel_rfl) (by kernel_rfl))
  (bone
  (bret (eop op_mod (ecallB call_abs (by unfold Gl; kernel_rfl) TA L2.boot_abs (acons (ev 3 rfl (Or.inl (by kernel_rfl)) (by kernel_rfl) (by kernel_rfl)) anil (by kernel_rfl)) (by decide +kernel) (by kernel_rfl) (by kernel_rfl) (by kernel_rfl)) (ev 1 rfl (Or.inl (by kernel_rfl)) (by kernel_rfl) (by kernel_rfl)))))) bnil)
  (bone
  (bret (eop op_mod (ev 3 rfl (Or.inl (by kernel_rfl)) (by kernel_rfl) (by kernel_rfl)) (ev 1 rfl (Or.inl (by kernel_rfl)) (by kernel_rfl) (by kernel_rfl))))))))) bnil)
  (bcons
  (basg (eop op_add (eix ix_list (ev 0 rfl (Or.inl (by kernel_rfl)) (by kernel_rfl) (by kernel_rfl)) eint (fun _ _ => rfl)) eint) (gsub (ev 0 rfl (Or.inl (by kernel_rfl)) (by kernel_rfl) (by kernel_rfl)) eint set_list (by intro _; rfl)) (by kernel_rfl) (by kernel_rfl) (by kernel_rfl))
  (bcons
  (basg (eop op_mod (eop op_add (eop op_add (eop op_mul (eix ix_list (ev 0 rfl (Or.inl (by kernel_rfl)) (by kernel_rfl) (by kernel_rfl)) eint (fun _ _ => rfl)) (eix ix_list (ev 0 rfl (Or.inl (by kernel_rfl)) (by kernel_rfl) (by kernel_rfl)) eint (fun _ _ => rfl))) (eop op_mul eint (eix ix_list (ev 0 rfl (Or.inl (by kernel_rfl)) (by kernel_rfl) (by kernel_rfl)) eint (fun _ _ => rfl)))) eint) eint) (gsub (ev 0 rfl (Or.inl (by kernel_rfl)) (by kernel_rfl) (by kernel_rfl)) eint set_list (by intro _; rfl)) (by kernel_rfl) (by kernel_rfl) (by kernel_rfl))
  (bone
  (bret (eop op_mod (eop op_fdiv (eix ix_list (ev 0 rfl (Or.inl (by kernel_rfl)) (by kernel_rfl) (by kernel_rfl)) eint (fun _ _ => rfl)) eint) (ev 1 rfl (Or.inl (by kernel_rfl)) (by kernel_rfl) (by kernel_rfl))))))))) ?_
  -- a great one
  refine ⟨_, rfl, p, _, _, _, rfl, rfl, SqL.of hp, rfl, _, _, rfl, rfl, _, rfl, ite2 (fun c => ?_) (fun c => ?_)⟩
  · have mm := Int.emod_nonneg rest (by omega : most ≠ 0)
    have mm2 := Int.emod_lt_of_pos rest m0
    refine ⟨_, rfl, p, _, _, _, rfl, rfl, SqL.of hp, rfl, _, rfl, _, _, rfl, rfl, m0, ?_⟩
    refine ⟨_, rfl, p, _, _, _, rfl, rfl, SqL.of hp, rfl, _, rfl, _, _, rfl, rfl, ⟨by omega, by omega⟩, _, rfl, p, _, 2, 2, rfl, rfl, hp, rfl, ?_⟩
    refine ⟨_, rfl, ?_⟩
    exact q _ _ mm mm2 (KB.put _) ⟨i, rest / most, seed, turn, upd_same, hS2 _, h63, hi, Int.ediv_nonneg r0 (by omega), d0, d1⟩
  -- a cell
  refine ⟨_, rfl, p, _, _, _, rfl, rfl, SqL.of hp, rfl, _, rfl, p, _, _, _, rfl, rfl, SqL.of hp, rfl, a, _, rfl, .inl hSq, _, _, rfl, rfl, _, rfl, ?_⟩
  show if decide (((i : Nat) : Int) < (((ns.map V.int).length : Nat) : Int)) = true then _ else _
  rw [List.length_map]
  refine ite2 (fun c2 => ?_) (fun c2 => ?_)
  · have hil : i < ns.length := by have := of_decide_eq_true c2; omega
    obtain ⟨cell, hcell⟩ : ∃ cell, ns[i]? = some cell := ⟨ns[i], List.getElem?_eq_getElem hil⟩
    refine ⟨_, rfl, p, _, _, _, rfl, rfl, SqL.of hp, rfl, _, rfl, p, _, _, _, rfl, rfl, SqL.of hp, rfl, a, _, _, _, rfl, rfl, hSq, atI_nat (by rw [List.getElem?_map, hcell]; rfl), ?_⟩
    refine ⟨_, rfl, p, _, _, _, rfl, rfl, SqL.of hp, rfl, _, _, rfl, rfl, _, rfl, p, _, 1, 1, rfl, rfl, hp, rfl, ?_⟩
    have e1 : (upd H p (.lst (List.set [V.ref a, V.int (i : Nat), V.int rest, V.int seed, V.int turn] 1 (V.int ((i : Nat) + 1))))) = upd H p (.lst [V.ref a, V.int ((i + 1 : Nat) : Int), V.int rest, V.int seed, V.int turn]) := rfl
    rw [e1]
    have hp1 : (upd H p (.lst [V.ref a, V.int ((i + 1 : Nat) : Int), V.int rest, V.int seed, V.int turn])) p = some (.lst [V.ref a, V.int ((i + 1 : Nat) : Int), V.int rest, V.int seed, V.int turn]) := upd_same
    refine ⟨_, rfl, p, _, _, _, rfl, rfl, SqL.of hp1, rfl, _, _, rfl, rfl, .inr ⟨by decide, by decide⟩, _, rfl, _, _, rfl, rfl, _, _, rfl, rfl, (by show (0 : Int) < 2147483629; decide), _, rfl, p, _, 3, 3, rfl, rfl, hp1, rfl, ?_⟩
    have n0 := Int.emod_nonneg (seed * 69069 + cell) (by decide : (2147483629 : Int) ≠ 0)
    have n1 := Int.emod_lt_of_pos (seed * 69069 + cell) (by decide : (0 : Int) < 2147483629)
    rw [upd_upd]
    have e2 : (upd H p (.lst (List.set [V.ref a, V.int ((i + 1 : Nat) : Int), V.int rest, V.int seed, V.int turn] 3 (V.int ((seed * 69069 + cell) % 2147483629))))) = upd H p (.lst [V.ref a, V.int ((i + 1 : Nat) : Int), V.int rest, V.int ((seed * 69069 + cell) % 2147483629), V.int turn]) := rfl
    rw [e2]
    generalize (seed * 69069 + cell) % 2147483629 = sd at n0 n1 ⊢
    have hp2 : (upd H p (.lst [V.ref a, V.int ((i + 1 : Nat) : Int), V.int rest, V.int sd, V.int turn])) p = some (.lst [V.ref a, V.int ((i + 1 : Nat) : Int), V.int rest, V.int sd, V.int turn]) := upd_same
    refine ⟨_, rfl, cell, rfl, _, _, rfl, rfl, ⟨by decide, by decide, by decide⟩, _, _, rfl, rfl, _, rfl, ite2 (fun c3 => ?_) (fun c3 => ?_)⟩
    · have ab : ∃ b : Int, (if cell < 0 then -cell else cell) = b ∧ 0 ≤ b := ⟨_, rfl, by split <;> omega⟩
      obtain ⟨b, eb, b0⟩ := ab
      refine ⟨_, rfl, cell, rfl, _, rfl, _, _, rfl, rfl, ⟨by omega, by omega⟩, _, rfl, p, _, 2, 2, rfl, rfl, hp2, rfl, ?_⟩
      refine ⟨_, rfl, cell, rfl, _, rfl, _, _, rfl, rfl, m0, ?_⟩
      rw [upd_upd]
      refine q _ _ (Int.emod_nonneg _ (by omega)) (Int.emod_lt_of_pos _ m0) (KB.put _) ⟨i + 1, _, sd, turn, upd_same, hS2 _, h63, hil, Int.ediv_nonneg ?_ (by omega), n0, n1⟩
      rw [eb]
      exact b0
    · refine ⟨_, rfl, _, rfl, _, _, rfl, rfl, m0, ?_⟩
      exact q _ _ (Int.emod_nonneg _ (by omega)) (Int.emod_lt_of_pos _ m0) (KB.put _) ⟨i + 1, rest, sd, turn, upd_same, hS2 _, h63, hil, r0, n0, n1⟩
  -- mixed
  · refine ⟨_, rfl, p, _, _, _, rfl, rfl, SqL.of hp, rfl, _, _, rfl, rfl, _, rfl, p, _, 4, 4, rfl, rfl, hp, rfl, ?_⟩
    have e1 : (upd H p (.lst (List.set [V.ref a, V.int (i : Nat), V.int rest, V.int seed, V.int turn] 4 (V.int (turn + 1))))) = upd H p (.lst [V.ref a, V.int (i : Nat), V.int rest, V.int seed, V.int (turn + 1)]) := rfl
    rw [e1]
    have hp1 : (upd H p (.lst [V.ref a, V.int (i : Nat), V.int rest, V.int seed, V.int (turn + 1)])) p = some (.lst [V.ref a, V.int (i : Nat), V.int rest, V.int seed, V.int (turn + 1)]) := upd_same
    refine ⟨_, rfl, p, _, _, _, rfl, rfl, SqL.of hp1, rfl, _, rfl, p, _, _, _, rfl, rfl, SqL.of hp1, rfl, _, _, rfl, rfl, .inl ⟨by omega, by omega⟩, _, rfl, p, _, _, _, rfl, rfl, SqL.of hp1, rfl, _, _, rfl, rfl, .inl ⟨by decide, by decide⟩, _, _, rfl, rfl, _, _, rfl, rfl, _, _, rfl, rfl, (by show (0 : Int) < 2147483629; decide), _, rfl, p, _, 3, 3, rfl, rfl, hp1, rfl, ?_⟩
    have n0 := Int.emod_nonneg (seed * seed + 40014 * (turn + 1) + 977) (by decide : (2147483629 : Int) ≠ 0)
    have n1 := Int.emod_lt_of_pos (seed * seed + 40014 * (turn + 1) + 977) (by decide : (0 : Int) < 2147483629)
    rw [upd_upd]
    have e2 : (upd H p (.lst (List.set [V.ref a, V.int (i : Nat), V.int rest, V.int seed, V.int (turn + 1)] 3 (V.int ((seed * seed + 40014 * (turn + 1) + 977) % 2147483629))))) = upd H p (.lst [V.ref a, V.int (i : Nat), V.int rest, V.int ((seed * seed + 40014 * (turn + 1) + 977) % 2147483629), V.int (turn + 1)]) := rfl
    rw [e2]
    generalize (seed * seed + 40014 * (turn + 1) + 977) % 2147483629 = sd at n0 n1 ⊢
    have hp2 : (upd H p (.lst [V.ref a, V.int (i : Nat), V.int rest, V.int sd, V.int (turn + 1)])) p = some (.lst [V.ref a, V.int (i : Nat), V.int rest, V.int sd, V.int (turn + 1)]) := upd_same
    refine ⟨_, rfl, p, _, _, _, rfl, rfl, SqL.of hp2, rfl, _, _, rfl, rfl, ⟨by decide, by decide⟩, _, rfl, _, _, rfl, rfl, m0, ?_⟩
    exact q _ _ (Int.emod_nonneg _ (by omega)) (Int.emod_lt_of_pos _ m0) (KB.put _) ⟨i, rest, sd, turn + 1, upd_same, hS2 _, h63, hi, r0, n0, n1⟩
end
end K20

namespace K20
open PySem L2 Wd Wm Tm Ym Am
section
variable {P : Program} {w : World} {K : PySem.W.Frag} {mg : Str → Option Value} {base : Heap}
/-! ### _law_names -/
abbrev z8 : Str := "zzzzzzzz"
theorem two_za : (pairs4.all fun p => (List.range 8).all fun a => (List.range 15).all fun m => (twoL p a m).all fun x => !decide (x = z8)) = true := by decide +kernel
theorem two_z {p : Str} {a m : Nat} (hp : p ∈ pairs4) (ha : a < 8) (hm : m < 15) : ∀ x ∈ twoL p a m, x ≠ z8 := fun x hx => by
  have h := List.all_eq_true.mp (List.all_eq_true.mp (List.all_eq_true.mp (List.all_eq_true.mp two_za p hp) a (List.mem_range.mpr ha)) m (List.mem_range.mpr hm)) x hx
  simpa using h
theorem mkb_za : (bases.all fun b => (List.range 8).all fun a => (List.range 26).all fun c => !decide (mkN b a c = z8)) = true := by decide +kernel
theorem mkb_z {b : Str} {a c : Nat} (hb : b ∈ bases) (ha : a < 8) (hc : c < 26) : mkN b a c ≠ z8 := by
  have h := List.all_eq_true.mp (List.all_eq_true.mp (List.all_eq_true.mp mkb_za b hb) a (List.mem_range.mpr ha)) c (List.mem_range.mpr hc)
  simpa using h
theorem mkt_za : (tails.all fun t => (List.range 26).all fun c => (List.range 2).all fun k => !decide (mkT t c k = z8)) = true := by decide +kernel
theorem mkt_z {t : Str} {c k : Nat} (ht : t ∈ tails) (hc : c < 26) (hk : k < 2) : mkT t c k ≠ z8 := by
  have h := List.all_eq_true.mp (List.all_eq_true.mp (List.all_eq_true.mp mkt_za t ht) c (List.mem_range.mpr hc)) k (List.mem_range.mpr hk)
  simpa using h
def spNames (K : PySem.W.Frag) : Sp := fun vs H Q _ => ∃ (p sa : Addr) (sn : List Int) (many : Nat), vs = [.ref p, .int (many : Nat)] ∧ Pile K H p sa sn ∧ many ≤ 14 ∧
  ∀ (r : Addr) (names : List Str) (H' : Hp), KB p H H' → Pile K H' p sa sn → H' r = some (.tup (names.map V.str)) → names.length = many → names.Pairwise sLt → (∀ x ∈ names, Word x ∧ x ∉ own16) → z8 ∉ names → Q (.ref r) H'
theorem sc_names : FnScope ["pile", "many", "letters", "start", "tail", "base", "at", "pair", "short", "word", "some", "k"] ["pile", "many"] (defScope s_law_names) := ⟨rfl, rfl, rfl, by decide +kernel, rfl, by decide +kernel, by decide +kernel⟩
theorem at_mem {xs : List Str} {r : Int} (h0 : 0 ≤ r) (h1 : r < (xs.length : Int)) : ∃ x, atI (xs.map V.str) r = some (.str x) ∧ x ∈ xs := at_strs h0 h1
theorem ok_names {f : Addr} {fd : FuncData} (F : Fun K "_law_names" "_law_names" s_law_names f fd) (T : Tx mg) (oN : Own P w K mg base 1 "_law_next" ["pile", "most"] (spNextP K)) : FnOk P w K mg base CX0 2 f fd ["pile", "many"] (spNames K) := by
  have nd := sc_names.nd
  obtain ⟨f1, fd1, G_law_next, b_law_next, k_law_next, m_law_next⟩ := oN
  refine F.ok sc_names (fun vs H Q E h => ?_) (fun cdv A outer s H vs Q E hr h => ?_)
  · obtain ⟨p, sa, sn, many, rfl, _⟩ := h
    rfl
  have hr_law_next := hr
  obtain ⟨p, sa, sn, many, rfl, hP, m14, q⟩ := h
  refine SB.use (bcons
  (bset (n := 2) nd rfl (Or.inr (by kernel_rfl)) estr (by kernel_rfl) (.inl rfl))
  (bcons
  (bset (n := 3) nd rfl (Or.inr (by kernel_rfl)) (ecall G_law_next hr_law_next (by unfold Gl; kernel_rfl) m_law_next k_law_next b_law_next .nil pass0 (acons (ev 0 rfl (Or.inl (by kernel_rfl)) (by kernel_rfl) (by kernel_rfl)) (acons eint anil (by kernel_rfl)) (by kernel_rfl)) (by kernel_rfl) (by kernel_rfl) (by kernel_rfl)) (by kernel_rfl) (.inl rfl))
  (bcons
  (bset (n := 4) nd rfl (Or.inr (by kernel_rfl)) (eix ix_list (elst (acons estr (acons estr (acons estr (acons estr (acons estr (acons estr anil (by kernel_rfl)) (by kernel_rfl)) (by kernel_rfl)) (by kernel_rfl)) (by kernel_rfl)) (by kernel_rfl))) (ecall G_law_next hr_law_next (by unfold Gl; kernel_rfl) m_law_next k_law_next b_law_next .nil pass0 (acons (ev 0 rfl (Or.inl (by kernel_rfl)) (by kernel_rfl) (by kernel_rfl)) (acons eint anil (by kernel_rfl)) (by kernel_rfl)) (by kernel_rfl) (by kernel_rfl) (by kernel_rfl)) (fun _ _ => rfl)) (by kernel_rfl) (.inl rfl))
  (bcons
  (bset (n := 5) nd rfl (Or.inr (by kernel_rfl)) (eix ix_list (elst (acons estr (acons estr (acons estr (acons estr (acons estr (acons estr (acons estr (acons estr anil (by kernel_rfl)) (by kernel_rfl)) (by kernel_rfl)) (by kernel_rfl)) (by kernel_rfl)) (by kernel_rfl)) (by kernel_rfl)) (by kernel_rfl))) (ecall G_law_next hr_law_next (by unfold Gl; kernel_rfl) m_law_next k_law_next b_law_next .nil pass0 (acons (ev 0 rfl (Or.inl (by kernel_rfl)) (by kernel_rfl) (by kernel_rfl)) (acons eint anil (by kernel_rfl)) (by kernel_rfl)) (by kernel_rfl) (by kernel_rfl) (by kernel_rfl)) (fun _ _ => rfl)) (by kernel_rfl) (.inl rfl))
  (bcons
  (bset (n := 6) nd rfl (Or.inr (by kernel_rfl)) (ecall G_law_next hr_law_next (by unfold Gl; kernel_rfl) m_law_next k_law_next b_law_next .nil pass0 (acons (ev 0 rfl (Or.inl (by kernel_rfl)) (by kernel_rfl) (by kernel_rfl)) (acons eint anil (by kernel_rfl)) (by kernel_rfl)) (by kernel_rfl) (by kernel_rfl) (by kernel_rfl)) (by kernel_rfl) (.inl rfl))
  (bcons
  (bifs (tcmp op_eq (ev 5 rfl (Or.inr (Or.inl (by kernel_rfl))) (by kernel_rfl) (by kernel_rfl)) estr (nomark _)) (bcons
  (bset (n := 7) nd rfl (Or.inr (by kernel_rfl)) (eix ix_list (elst (acons estr (acons estr (acons estr (acons estr anil (by kernel_rfl)) (by kernel_rfl)) (by kernel_rfl)) (by kernel_rfl))) (eop op_mod (ev 3 rfl (Or.inr (Or.inl (by kernel_rfl))) (by kernel_rfl) (by kernel_rfl)) eint) (fun _ _ => rfl)) (by kernel_rfl) (.inl rfl))
  (bcons
  (bset (n := 8) nd rfl (Or.inl (by kernel_rfl)) (eop op_cat (elc (own := [("word", 9)]) (g := gName 9) (by rfl) nd (istr (ev 7 rfl (Or.inr (Or.inl (by kernel_rfl))) (by kernel_rfl) (by kernel_rfl))) (blkOk_by (own := [("word", 9)]) (N := ["pile", "many", "letters", "start", "tail", "base", "at", "pair", "short", "word", "some", "k"]) (sc := defScope s_law_names) (by decide +kernel)) (fun _ _ _ _ _ => (gname (n := 9) nd rfl (Or.inl (by kernel_rfl)) (.inr (by kernel_rfl)))) (fun _ _ _ _ _ => unil) (fun _ _ _ _ _ => (eop op_add_str (ev 9 rfl (Or.inl (by kernel_rfl)) (by kernel_rfl) (by kernel_rfl)) (eix ix_str (ev 7 rfl (Or.inr (Or.inl (by kernel_rfl))) (by kernel_rfl) (by kernel_rfl)) eint (fun _ _ => rfl)))) (by intro _; rfl)) (elc (own := [("word", 9)]) (g := gName 9) (by rfl) nd (istr (ev 7 rfl (Or.inr (Or.inl (by kernel_rfl))) (by kernel_rfl) (by kernel_rfl))) (blkOk_by (own := [("word", 9)]) (N := ["pile", "many", "letters", "start", "tail", "base", "at", "pair", "short", "word", "some", "k"]) (sc := defScope s_law_names) (by decide +kernel)) (fun _ _ _ _ _ => (gname (n := 9) nd rfl (Or.inl (by kernel_rfl)) (.inr (by kernel_rfl)))) (fun _ _ _ _ _ => unil) (fun _ _ _ _ _ => (eop op_add_str (ev 9 rfl (Or.inl (by kernel_rfl)) (by kernel_rfl) (by kernel_rfl)) (eix ix_str (ev 7 rfl (Or.inr (Or.inl (by kernel_rfl))) (by kernel_rfl) (by kernel_rfl)) eint (fun _ _ => rfl)))) (by intro _; rfl))) (by kernel_rfl) (.inl rfl))
  (bcons
  (bset (n := 10) nd rfl (Or.inl (by kernel_rfl)) (eop op_cat (eop op_cat (eop op_cat (ecallT (call_listS rfl) (by unfold Gl; kernel_rfl) T.list L2.boot_list (acons (ev 7 rfl (Or.inr (Or.inl (by kernel_rfl))) (by kernel_rfl) (by kernel_rfl)) anil (by kernel_rfl)) (by decide +kernel) (by kernel_rfl) (by kernel_rfl) (by kernel_rfl)) (ev 8 rfl (Or.inl (by kernel_rfl)) (by kernel_rfl) (by kernel_rfl))) (elc (own := [("word", 9)]) (g := gName 9) (by rfl) nd (ilist (ev 8 rfl (Or.inl (by kernel_rfl)) (by kernel_rfl) (by kernel_rfl))) (blkOk_by (own := [("word", 9)]) (N := ["pile", "many", "letters", "start", "tail", "base", "at", "pair", "short", "word", "some", "k"]) (sc := defScope s_law_names) (by decide +kernel)) (fun _ _ _ _ _ => (gname (n := 9) nd rfl (Or.inl (by kernel_rfl)) (.inr (by kernel_rfl)))) (fun _ _ _ _ _ => unil) (fun _ _ _ _ _ => (eop op_add_str (ev 9 rfl (Or.inl (by kernel_rfl)) (by kernel_rfl) (by kernel_rfl)) (eix ix_str (ev 7 rfl (Or.inr (Or.inl (by kernel_rfl))) (by kernel_rfl) (by kernel_rfl)) eint (fun _ _ => rfl)))) (by intro _; rfl))) (elc (own := [("word", 9)]) (g := gName 9) (by rfl) nd (ilist (ev 8 rfl (Or.inl (by kernel_rfl)) (by kernel_rfl) (by kernel_rfl))) (blkOk_by (own := [("word", 9)]) (N := ["pile", "many", "letters", "start", "tail", "base", "at", "pair", "short", "word", "some", "k"]) (sc := defScope s_law_names) (by decide +kernel)) (fun _ _ _ _ _ => (gname (n := 9) nd rfl (Or.inl (by kernel_rfl)) (.inr (by kernel_rfl)))) (fun _ _ _ _ _ => unil) (fun _ _ _ _ _ => (eop op_add_str (ev 9 rfl (Or.inl (by kernel_rfl)) (by kernel_rfl) (by kernel_rfl)) (eix ix_str (ev 7 rfl (Or.inr (Or.inl (by kernel_rfl))) (by kernel_rfl) (by kernel_rfl)) eint (fun _ _ => rfl)))) (by intro _; rfl))) (by kernel_rfl) (.inl rfl))
  (bone
  (bret (ecallT call_tuple_of (by unfold Gl; kernel_rfl) T.tuple L2.boot_tuple (acons (ecallB cr_sortedS (by unfold Gl; kernel_rfl) T.sorted L2.boot_sorted (acons (eslice sl_list (eop op_cat (ev 10 rfl (Or.inl (by kernel_rfl)) (by kernel_rfl) (by kernel_rfl)) (ev 10 rfl (Or.inl (by kernel_rfl)) (by kernel_rfl) (by kernel_rfl))) (osome (ev 6 rfl (Or.inr (Or.inl (by kernel_rfl))) (by kernel_rfl) (by kernel_rfl))) (osome (eop op_add (ev 6 rfl (Or.inr (Or.inl (by kernel_rfl))) (by kernel_rfl) (by kernel_rfl)) (ev 1 rfl (Or.inl (by kernel_rfl)) (by kernel_rfl) (by kernel_rfl))))) anil (by kernel_rfl)) (by decide +kernel) (by kernel_rfl) (by kernel_rfl) (by kernel_rfl)) anil (by kernel_rfl)) (by decide +kernel) (by kernel_rfl) (by kernel_rfl) (by kernel_rfl))))))) bnil)
  (bcons
  (bifs (tcmp op_ne (ev 5 rfl (Or.inr (Or.inl (by kernel_rfl))) (by kernel_rfl) (by kernel_rfl)) estr (nomark _)) (bone
  (bret (ecallT call_tuple_of (by unfold Gl; kernel_rfl) T.tuple L2.boot_tuple (acons (ecallB cr_sortedS (by unfold Gl; kernel_rfl) T.sorted L2.boot_sorted (acons (elc (own := [("k", 11)]) (g := gName 11) (by rfl) nd (irange1 (by unfold Gl; kernel_rfl) T.range (acons (ev 1 rfl (Or.inl (by kernel_rfl)) (by kernel_rfl) (by kernel_rfl)) anil (by kernel_rfl)) (by kernel_rfl)) (blkOk_by (own := [("k", 11)]) (N := ["pile", "many", "letters", "start", "tail", "base", "at", "pair", "short", "word", "some", "k"]) (sc := defScope s_law_names) (by decide +kernel)) (fun _ _ _ _ _ => (gname (n := 11) nd rfl (Or.inl (by kernel_rfl)) (.inr (by kernel_rfl)))) (fun _ _ _ _ _ => unil) (fun _ _ _ _ _ => (eop op_add_str (eop op_add_str (eslice sl_str (ev 5 rfl (Or.inr (Or.inl (by kernel_rfl))) (by kernel_rfl) (by kernel_rfl)) onone (osome (ev 6 rfl (Or.inr (Or.inl (by kernel_rfl))) (by kernel_rfl) (by kernel_rfl)))) (eix ix_str (ev 2 rfl (Or.inr (Or.inl (by kernel_rfl))) (by kernel_rfl) (by kernel_rfl)) (eop op_mod (eop op_add (ev 3 rfl (Or.inr (Or.inl (by kernel_rfl))) (by kernel_rfl) (by kernel_rfl)) (eop op_mul eint (ev 11 rfl (Or.inl (by kernel_rfl)) (by kernel_rfl) (by kernel_rfl)))) eint) (fun _ _ => rfl))) (eslice sl_str (ev 5 rfl (Or.inr (Or.inl (by kernel_rfl))) (by kernel_rfl) (by kernel_rfl)) (osome (ev 6 rfl (Or.inr (Or.inl (by kernel_rfl))) (by kernel_rfl) (by kernel_rfl))) onone))) (by intro _; rfl)) anil (by kernel_rfl)) (by decide +kernel) (by kernel_rfl) (by kernel_rfl) (by kernel_rfl)) anil (by kernel_rfl)) (by decide +kernel) (by kernel_rfl) (by kernel_rfl) (by kernel_rfl)))) bnil)
  (bone
  (bret (ecallT call_tuple_of (by unfold Gl; kernel_rfl) T.tuple L2.boot_tuple (acons (ecallB cr_sortedS (by unfold Gl; kernel_rfl) T.sorted L2.boot_sorted (acons (elc (own := [("k", 11)]) (g := gName 11) (by rfl) nd (irange1 (by unfold Gl; kernel_rfl) T.range (acons (ev 1 rfl (Or.inl (by kernel_rfl)) (by kernel_rfl) (by kernel_rfl)) anil (by kernel_rfl)) (by kernel_rfl)) (blkOk_by (own := [("k", 11)]) (N := ["pile", "many", "letters", "start", "tail", "base", "at", "pair", "short", "word", "some", "k"]) (sc := defScope s_law_names) (by decide +kernel)) (fun _ _ _ _ _ => (gname (n := 11) nd rfl (Or.inl (by kernel_rfl)) (.inr (by kernel_rfl)))) (fun _ _ _ _ _ => unil) (fun _ _ _ _ _ => (eop op_add_str (eix ix_str (ev 2 rfl (Or.inr (Or.inl (by kernel_rfl))) (by kernel_rfl) (by kernel_rfl)) (eop op_mod (eop op_add (ev 3 rfl (Or.inr (Or.inl (by kernel_rfl))) (by kernel_rfl) (by kernel_rfl)) (eop op_fdiv (ev 11 rfl (Or.inl (by kernel_rfl)) (by kernel_rfl) (by kernel_rfl)) eint)) eint) (fun _ _ => rfl)) (eix (ix_listK (K := K) rfl) (elst (acons estr (acons (ev 4 rfl (Or.inr (Or.inl (by kernel_rfl))) (by kernel_rfl) (by kernel_rfl)) anil (by kernel_rfl)) (by kernel_rfl))) (eop op_mod (ev 11 rfl (Or.inl (by kernel_rfl)) (by kernel_rfl) (by kernel_rfl)) eint) (fun _ _ => rfl)))) (by intro _; rfl)) anil (by kernel_rfl)) (by decide +kernel) (by kernel_rfl) (by kernel_rfl) (by kernel_rfl)) anil (by kernel_rfl)) (by decide +kernel) (by kernel_rfl) (by kernel_rfl) (by kernel_rfl))))))))))) ?_
  refine ⟨_, rfl, p, sa, sn, 26, rfl, hP, by decide, by decide, fun start H1 t0 t1 k1 P1 => ?_⟩
  obtain ⟨st, rfl⟩ := Int.eq_ofNat_of_zero_le t0
  -- tail
  refine ⟨(by show 6 ≤ sizeLine; decide), fun tl htl => ?_⟩
  have s2 := same_new htl (.lst (tails.map V.str))
  have e2 := at_new htl (.lst (tails.map V.str))
  have P2 := P1.same s2
  have ntp : tl ≠ p := fun e => by obtain ⟨_, z⟩ := P1.lst; rw [← e, htl] at z; cases z
  refine ⟨_, rfl, p, sa, sn, 6, rfl, P2, by decide, by decide, fun r6 H3 r0 r1 k3 P3 => ?_⟩
  obtain ⟨tail, hta, mta⟩ := at_mem (xs := tails) r0 r1
  refine ⟨tl, _, _, _, rfl, rfl, SqL.of (k3 _ _ e2 ntp), hta, ?_⟩
  have k03 := (k1.trans (KB.of s2)).trans k3
  -- base
  refine ⟨(by show 8 ≤ sizeLine; decide), fun bl hbl => ?_⟩
  have s4 := same_new hbl (.lst ((["", "two", "room", "lengthy", "zzz", "two", "kkkkkk", "planets"] : List Str).map V.str))
  have e4 := at_new hbl (.lst ((["", "two", "room", "lengthy", "zzz", "two", "kkkkkk", "planets"] : List Str).map V.str))
  have P4 := P3.same s4
  have nbp : bl ≠ p := fun e => by obtain ⟨_, z⟩ := P3.lst; rw [← e, hbl] at z; cases z
  refine ⟨_, rfl, p, sa, sn, 8, rfl, P4, by decide, by decide, fun r8 H5 v0 v1 k5 P5 => ?_⟩
  obtain ⟨bas, hba, mba⟩ := at_mem (xs := ["", "two", "room", "lengthy", "zzz", "two", "kkkkkk", "planets"]) v0 v1
  refine ⟨bl, _, _, _, rfl, rfl, SqL.of (k5 _ _ e4 nbp), hba, ?_⟩
  have k05 := (k03.trans (KB.of s4)).trans k5
  -- at
  refine ⟨_, rfl, p, sa, sn, 8, rfl, P5, by decide, by decide, fun a8 H6 a0 a1 k6 P6 => ?_⟩
  obtain ⟨at_, rfl⟩ := Int.eq_ofNat_of_zero_le a0
  have at8 : at_ < 8 := by omega
  have k06 := k05.trans k6
  clear k1 k3 k5 k6 e2 e4 P2 P4 s2 s4 k03 k05
  have bdec : ∀ y : Str, decide (V.str bas = V.str y) = decide (bas = y) := fun y => decide_eq_decide.mpr ⟨fun h => V.str.inj h, fun h => by rw [h]⟩
  refine ⟨_, rfl, rfl, _, rfl, ?_⟩
  show if decide (V.str bas = V.str "two") = true then _ else _
  rw [bdec]
  refine ite2 (fun c => ?_) (fun c => ?_)
  · -- of two signs
    refine ⟨(by show 4 ≤ sizeLine; decide), fun pl hpl => ?_⟩
    have s1 := same_new hpl (.lst (pairs4.map V.str))
    have e1 := at_new hpl (.lst (pairs4.map V.str))
    obtain ⟨pair, hpa, mpa⟩ := at_mem (xs := pairs4) (r := (st : Int) % 4) (Int.emod_nonneg _ (by decide)) (Int.emod_lt_of_pos _ (by decide))
    refine ⟨_, rfl, _, _, rfl, rfl, (by show (0 : Int) < 4; decide), pl, _, _, _, rfl, rfl, SqL.of e1, hpa, ?_⟩
    have lp := pairs_len pair mpa
    have lpl : pair.length ≤ sizeLine := sl1000 (by omega)
    have lc : pair.cps.toList.length = 2 := by rw [← len_tl]; exact lp
    obtain ⟨c0, c1, ec⟩ : ∃ c0 c1, pair.cps.toList = [c0, c1] := by
      match h : pair.cps.toList, lc with
      | [c0, c1], _ => exact ⟨c0, c1, rfl⟩
    have at0 : atI pair.cps.toList 0 = some (pair.cps.toList.getD 0 0) := by rw [ec]; rfl
    have at1 : atI pair.cps.toList 1 = some (pair.cps.toList.getD 1 0) := by rw [ec]; rfl
    have lsg : ∀ x ∈ sgL pair, x.length = 1 := fun x hx => by
      unfold sgL at hx
      obtain ⟨c, _, rfl⟩ := List.mem_map.mp hx
      rfl
    have lsl : (sgL pair).length = 2 := by unfold sgL; rw [List.length_map]; exact lc
    show tSeq _ _ _ _ (upd H6 pl (.lst (pairs4.map V.str)))
    generalize upd H6 pl (.lst (pairs4.map V.str)) = H7 at s1 e1 ⊢
    -- short
    refine ⟨_, rfl, pair, rfl, fun d1 hd1 => ?_⟩
    refine lcp_str (f := fun x => V.str (add1 ⟨#[pair.cps.toList.getD 0 0]⟩ x)) hd1 (by omega) (fun _ => rfl) ?_ ?_
    · intro x hx G sg R hR
      have := lsg x hx
      exact ⟨_, rfl, _, rfl, _, _, _, rfl, rfl, lpl, at0, _, _, rfl, rfl, (by rw [this, sign_len]; exact sl1000 (by omega)), hR⟩
    have s2 := same_new hd1 (.lst ((sgL pair).map fun x => V.str (add1 ⟨#[pair.cps.toList.getD 0 0]⟩ x)))
    have e2 := at_new hd1 (.lst ((sgL pair).map fun x => V.str (add1 ⟨#[pair.cps.toList.getD 0 0]⟩ x)))
    generalize upd H7 d1 (.lst ((sgL pair).map fun x => V.str (add1 ⟨#[pair.cps.toList.getD 0 0]⟩ x))) = H8 at s2 e2 ⊢
    refine ⟨_, rfl, pair, rfl, fun d2 hd2 => ?_⟩
    refine lcp_str (f := fun x => V.str (add1 ⟨#[pair.cps.toList.getD 1 0]⟩ x)) hd2 (by omega) (fun _ => rfl) ?_ ?_
    · intro x hx G sg R hR
      have := lsg x hx
      exact ⟨_, rfl, _, rfl, _, _, _, rfl, rfl, lpl, at1, _, _, rfl, rfl, (by rw [this, sign_len]; exact sl1000 (by omega)), hR⟩
    have s3 := same_new hd2 (.lst ((sgL pair).map fun x => V.str (add1 ⟨#[pair.cps.toList.getD 1 0]⟩ x)))
    have e3 := at_new hd2 (.lst ((sgL pair).map fun x => V.str (add1 ⟨#[pair.cps.toList.getD 1 0]⟩ x)))
    generalize upd H8 d2 (.lst ((sgL pair).map fun x => V.str (add1 ⟨#[pair.cps.toList.getD 1 0]⟩ x))) = H9 at s3 e3 ⊢
    have esh : ((sgL pair).map fun x => V.str (add1 ⟨#[pair.cps.toList.getD 0 0]⟩ x)) ++ ((sgL pair).map fun x => V.str (add1 ⟨#[pair.cps.toList.getD 1 0]⟩ x)) = (short2 pair).map V.str := by
      unfold short2
      rw [List.map_append, List.map_map, List.map_map]
      rfl
    have lsh : (short2 pair).length = 4 := by unfold short2; rw [List.length_append, List.length_map, List.length_map, lsl]
    have lsh2 : ∀ x ∈ short2 pair, x.length = 2 := fun x hx => by
      unfold short2 at hx
      rcases List.mem_append.mp hx with hx | hx <;> obtain ⟨y, hy, rfl⟩ := List.mem_map.mp hx <;> (unfold add1; rw [app_len, lsg y hy, sign_len])
    refine ⟨d1, d2, _, _, rfl, rfl, s3 _ _ e2, e3, (by rw [List.length_map, List.length_map, lsl]; exact sl1000 (by omega)), fun sh hsh => ?_⟩
    rw [esh]
    have s4 := same_new hsh (.lst ((short2 pair).map V.str))
    have e4 := at_new hsh (.lst ((short2 pair).map V.str))
    generalize upd H9 sh (.lst ((short2 pair).map V.str)) = Ha at s4 e4 ⊢
    -- some
    refine ⟨_, rfl, pair, rfl, by omega, fun l1 hl1 => ?_⟩
    have s5 := same_new hl1 (.lst ((sgL pair).map V.str))
    have e5 := at_new hl1 (.lst ((sgL pair).map V.str))
    generalize upd Ha l1 (.lst ((sgL pair).map V.str)) = Hb at s5 e5 ⊢
    refine ⟨_, rfl, l1, sh, _, _, rfl, rfl, e5, s5 _ _ e4, (by rw [List.length_map, List.length_map, lsl, lsh]; exact sl1000 (by omega)), fun l2 hl2 => ?_⟩
    rw [← List.map_append]
    have s6 := same_new hl2 (.lst ((sgL pair ++ short2 pair).map V.str))
    have e6 := at_new hl2 (.lst ((sgL pair ++ short2 pair).map V.str))
    generalize upd Hb l2 (.lst ((sgL pair ++ short2 pair).map V.str)) = Hc at s6 e6 ⊢
    have e4c := s6 _ _ (s5 _ _ e4)
    refine ⟨_, rfl, sh, rfl, ⟨_, SqL.of e4c⟩, fun d3 hd3 => ?_⟩
    refine lcp_list (xs := short2 pair) (v := V.str) (f := fun x => V.str (add1 ⟨#[pair.cps.toList.getD 0 0]⟩ x)) (p := fun _ => true) hd3 (SqL.of e4c) (by omega) (fun _ => rfl) ?_ ?_ ?_
    · intro x hx G sg R hR
      exact hR
    · intro x hx _ G sg R hR
      have := lsh2 x hx
      exact ⟨_, rfl, _, rfl, _, _, _, rfl, rfl, lpl, at0, _, _, rfl, rfl, (by rw [this, sign_len]; exact sl1000 (by omega)), hR⟩
    rw [List.filter_eq_self.mpr (fun _ _ => rfl)]
    have s7 := same_new hd3 (.lst ((short2 pair).map fun x => V.str (add1 ⟨#[pair.cps.toList.getD 0 0]⟩ x)))
    have e7 := at_new hd3 (.lst ((short2 pair).map fun x => V.str (add1 ⟨#[pair.cps.toList.getD 0 0]⟩ x)))
    generalize upd Hc d3 (.lst ((short2 pair).map fun x => V.str (add1 ⟨#[pair.cps.toList.getD 0 0]⟩ x))) = Hd at s7 e7 ⊢
    refine ⟨l2, d3, _, _, rfl, rfl, s7 _ _ e6, e7, (by rw [List.length_map, List.length_map, List.length_append, lsl, lsh]; exact sl1000 (by omega)), fun l3 hl3 => ?_⟩
    have em : ((sgL pair ++ short2 pair).map V.str ++ (short2 pair).map fun x => V.str (add1 ⟨#[pair.cps.toList.getD 0 0]⟩ x)) = (sgL pair ++ short2 pair ++ (short2 pair).map (add1 ⟨#[pair.cps.toList.getD 0 0]⟩)).map V.str := by
      rw [List.map_append (l₁ := sgL pair ++ short2 pair), List.map_map]
      rfl
    rw [em]
    have s8 := same_new hl3 (.lst ((sgL pair ++ short2 pair ++ (short2 pair).map (add1 ⟨#[pair.cps.toList.getD 0 0]⟩)).map V.str))
    have e8 := at_new hl3 (.lst ((sgL pair ++ short2 pair ++ (short2 pair).map (add1 ⟨#[pair.cps.toList.getD 0 0]⟩)).map V.str))
    generalize upd Hd l3 (.lst ((sgL pair ++ short2 pair ++ (short2 pair).map (add1 ⟨#[pair.cps.toList.getD 0 0]⟩)).map V.str)) = He at s8 e8 ⊢
    have e4e := s8 _ _ (s7 _ _ e4c)
    refine ⟨_, rfl, sh, rfl, ⟨_, SqL.of e4e⟩, fun d4 hd4 => ?_⟩
    refine lcp_list (xs := short2 pair) (v := V.str) (f := fun x => V.str (add1 ⟨#[pair.cps.toList.getD 1 0]⟩ x)) (p := fun _ => true) hd4 (SqL.of e4e) (by omega) (fun _ => rfl) ?_ ?_ ?_
    · intro x hx G sg R hR
      exact hR
    · intro x hx _ G sg R hR
      have := lsh2 x hx
      exact ⟨_, rfl, _, rfl, _, _, _, rfl, rfl, lpl, at1, _, _, rfl, rfl, (by rw [this, sign_len]; exact sl1000 (by omega)), hR⟩
    rw [List.filter_eq_self.mpr (fun _ _ => rfl)]
    have s9 := same_new hd4 (.lst ((short2 pair).map fun x => V.str (add1 ⟨#[pair.cps.toList.getD 1 0]⟩ x)))
    have e9 := at_new hd4 (.lst ((short2 pair).map fun x => V.str (add1 ⟨#[pair.cps.toList.getD 1 0]⟩ x)))
    generalize upd He d4 (.lst ((short2 pair).map fun x => V.str (add1 ⟨#[pair.cps.toList.getD 1 0]⟩ x))) = Hf at s9 e9 ⊢
    refine ⟨l3, d4, _, _, rfl, rfl, s9 _ _ e8, e9, (by rw [List.length_map, List.length_map, List.length_append, List.length_append, List.length_map, lsl, lsh]; exact sl1000 (by omega)), fun so hso => ?_⟩
    have en : ((sgL pair ++ short2 pair ++ (short2 pair).map (add1 ⟨#[pair.cps.toList.getD 0 0]⟩)).map V.str ++ (short2 pair).map fun x => V.str (add1 ⟨#[pair.cps.toList.getD 1 0]⟩ x)) = (some2 pair).map V.str := by
      unfold some2
      rw [List.map_append (l₁ := sgL pair ++ short2 pair ++ (short2 pair).map (add1 ⟨#[pair.cps.toList.getD 0 0]⟩)), List.map_map (l := short2 pair)]
      rfl
    rw [en]
    have s10 := same_new hso (.lst ((some2 pair).map V.str))
    have e10 := at_new hso (.lst ((some2 pair).map V.str))
    have lso : (some2 pair).length = 14 := by unfold some2; rw [List.length_append, List.length_append, List.length_append, List.length_map, List.length_map, lsl, lsh]
    have sA := ((((((((s1.trans s2).trans s3).trans s4).trans s5).trans s6).trans s7).trans s8).trans s9).trans s10
    generalize upd Hf so (.lst ((some2 pair).map V.str)) = Hg at s10 e10 sA ⊢
    refine ⟨_, rfl, _, rfl, so, so, _, _, rfl, rfl, e10, e10, (by rw [List.length_map, lso]; exact sl1000 (by omega)), fun dd hdd => ?_⟩
    rw [← List.map_append]
    have s11 := same_new hdd (.lst ((some2 pair ++ some2 pair).map V.str))
    have e11 := at_new hdd (.lst ((some2 pair ++ some2 pair).map V.str))
    refine ⟨_, rfl, _, rfl, _, rfl, _, rfl, _, _, rfl, rfl, _, rfl, dd, _, rfl, SqL.of e11, fun cu hcu => ?_⟩
    have ecut : cutV ((some2 pair ++ some2 pair).map V.str) (some (at_ : Int)) (some ((at_ : Int) + (many : Int))) = (twoL pair at_ many).map V.str := by
      unfold cutV twoL
      have ei : ((at_ : Int) + (many : Int)) = ((at_ + many : Nat) : Int) := by omega
      rw [ei, HT.sIx_nat, HT.sIx_nat, List.length_map, List.length_append, lso]
      have e1 : min at_ (14 + 14) = at_ := by omega
      have e2 : min (at_ + many) (14 + 14) - at_ = many := by omega
      rw [e1, e2, ← List.map_drop, ← List.map_take]
    rw [ecut]
    obtain ⟨n1, n2, n3⟩ := two_ok mpa at8 (by omega : many < 15)
    have sB := (sA.trans s11).trans (same_new hcu (.lst ((twoL pair at_ many).map V.str)))
    have e12 := at_new hcu (.lst ((twoL pair at_ many).map V.str))
    generalize upd (upd Hg dd (.lst ((some2 pair ++ some2 pair).map V.str))) cu (.lst ((twoL pair at_ many).map V.str)) = Hh at sB e12 ⊢
    refine ⟨cu, twoL pair at_ many, rfl, SqL.of e12, by omega, fun names sl pm srt hsl => ⟨sl, _, rfl, .inl ⟨SqL.of upd_same, fun r hr' => ?_⟩⟩⟩
    have sF := sB.trans ((same_new hsl (.lst (names.map V.str))).trans (same_new hr' (.tup (names.map V.str))))
    exact q r names _ (k06.trans (KB.of sF)) (P6.same sF) upd_same (by rw [pm.length_eq, n3]) (strict srt (pm.nodup_iff.mpr n1)) (fun x hx => nm_ok (n2 x (pm.mem_iff.mp hx))) (fun hx => two_z mpa at8 (by omega : many < 15) _ (pm.mem_iff.mp hx) rfl)
  refine ⟨_, rfl, rfl, _, rfl, ?_⟩
  show if (!decide (V.str bas = V.str "")) = true then _ else _
  rw [bdec]
  refine ite2 (fun c2 => ?_) (fun c2 => ?_)
  · -- with a letter put in
    have mb : bas ∈ bases := by
      have n1 : bas ≠ "two" := fun e => c (by rw [e]; exact decide_eq_true rfl)
      have n2 : bas ≠ "" := fun e => by rw [e, decide_eq_true rfl] at c2; cases c2
      simp only [List.mem_cons, List.not_mem_nil, or_false] at mba
      rcases mba with e | e | e | e | e | e | e | e
      · exact absurd e n2
      · exact absurd e n1
      · rw [e]; decide +kernel
      · rw [e]; decide +kernel
      · rw [e]; decide +kernel
      · exact absurd e n1
      · rw [e]; decide +kernel
      · rw [e]; decide +kernel
    have lb := bases_len bas mb
    refine ⟨_, rfl, _, rfl, by omega, by omega, fun D hD => ?_⟩
    refine lcp_range (m := many) (f := fun k => V.str (mkN bas at_ ((st + 5 * k) % 26))) hD (by omega) (fun _ => rfl) ?_ ?_
    · intro k hk G sg R hR
      have c1 := cutS_length bas none (some (at_ : Int))
      have c2' := cutS_length bas (some (at_ : Int)) none
      have d0 : 0 ≤ ((st : Int) + 5 * (0 + (k : Int))) % 26 := Int.emod_nonneg _ (by decide)
      have d1 : ((st : Int) + 5 * (0 + (k : Int))) % 26 < 26 := Int.emod_lt_of_pos _ (by decide)
      refine ⟨_, rfl, _, rfl, _, rfl, _, rfl, sl1000 (by omega), _, rfl, _, rfl, _, rfl, _, _, rfl, rfl, .inl ⟨by decide, by decide⟩, _, _, rfl, rfl, _, _, rfl, rfl, (by show (0 : Int) < 26; decide), _, _, _, rfl, rfl, lett_len, lett_at d0 d1, _, _, rfl, rfl, (by rw [sign_len]; exact sl1000 (by omega)), _, rfl, _, rfl, _, rfl, _, rfl, sl1000 (by omega), _, _, rfl, rfl, (by rw [app_len, sign_len]; exact sl1000 (by omega)), ?_⟩
      have e : (((st : Int) + 5 * (0 + (k : Int))) % 26).toNat = (st + 5 * k) % 26 := by omega
      rw [e]
      exact hR G (Same.refl _)
    · intro G sg hD1
      have eL : (List.range many).map (fun k => V.str (mkN bas at_ ((st + 5 * k) % 26))) = ((List.range many).map fun k => mkN bas at_ ((st + 5 * k) % 26)).map V.str := by rw [List.map_map]; rfl
      rw [eL] at hD1
      have hnd : ((List.range many).map fun k => mkN bas at_ ((st + 5 * k) % 26)).Nodup := by
        refine List.nodup_iff_pairwise_ne.mpr (List.pairwise_map.mpr ?_)
        refine List.Pairwise.imp_of_mem (fun {i j} hi hj hij e => ?_) (List.pairwise_lt_range (n := many))
        have hi' := List.mem_range.mp hi
        have hj' := List.mem_range.mp hj
        have z1 := (mkb_ok mb at8 (Nat.mod_lt (st + 5 * i) (by decide))).2
        have z2 := (mkb_ok mb at8 (Nat.mod_lt (st + 5 * j) (by decide))).2
        rw [e, z2] at z1
        omega
      have hnm : ∀ x ∈ (List.range many).map (fun k => mkN bas at_ ((st + 5 * k) % 26)), nmB x = true := fun x hx => by
        obtain ⟨k, _, rfl⟩ := List.mem_map.mp hx
        exact (mkb_ok mb at8 (Nat.mod_lt _ (by decide))).1
      have hnz : ∀ x ∈ (List.range many).map (fun k => mkN bas at_ ((st + 5 * k) % 26)), x ≠ z8 := fun x hx => by
        obtain ⟨k, _, rfl⟩ := List.mem_map.mp hx
        exact mkb_z mb at8 (Nat.mod_lt _ (by decide))
      have hl : ((List.range many).map fun k => mkN bas at_ ((st + 5 * k) % 26)).length = many := by rw [List.length_map, List.length_range]
      generalize (List.range many).map (fun k => mkN bas at_ ((st + 5 * k) % 26)) = fs at hD1 hnd hnm hnz hl
      refine ⟨D, fs, rfl, SqL.of hD1, by omega, fun names sl pm srt hsl => ⟨sl, _, rfl, .inl ⟨SqL.of upd_same, fun r hr' => ?_⟩⟩⟩
      have sF := sg.trans ((same_new hsl (.lst (names.map V.str))).trans (same_new hr' (.tup (names.map V.str))))
      exact q r names _ (k06.trans (KB.of sF)) (P6.same sF) upd_same (by rw [pm.length_eq, hl]) (strict srt (pm.nodup_iff.mpr hnd)) (fun x hx => nm_ok (hnm x (pm.mem_iff.mp hx))) (fun hx => hnz _ (pm.mem_iff.mp hx) rfl)
  · -- letters, with a tail and without
    have lt := tails_len tail mta
    refine ⟨_, rfl, _, rfl, by omega, by omega, fun D hD => ?_⟩
    refine lcp_range (m := many) (f := fun k => V.str (mkT tail ((st + k / 2) % 26) (k % 2))) hD (by omega) (fun _ => rfl) ?_ ?_
    · intro k hk G sg R hR
      have d0 : 0 ≤ ((st : Int) + (0 + (k : Int)) / 2) % 26 := Int.emod_nonneg _ (by decide)
      have d1 : ((st : Int) + (0 + (k : Int)) / 2) % 26 < 26 := Int.emod_lt_of_pos _ (by decide)
      refine ⟨_, rfl, _, rfl, _, rfl, _, _, rfl, rfl, ⟨by decide, by decide⟩, _, _, rfl, rfl, _, _, rfl, rfl, (by show (0 : Int) < 26; decide), _, _, _, rfl, rfl, lett_len, lett_at d0 d1, _, rfl, (by show 2 ≤ sizeLine; decide), fun l2 hl2 => ?_⟩
      have s2 := same_new hl2 (.lst [V.str "", V.str tail])
      have e2 := at_new hl2 (.lst [V.str "", V.str tail])
      have k01 : k % 2 = 0 ∨ k % 2 = 1 := by omega
      have ek : (0 + (k : Int)) % 2 = ((k % 2 : Nat) : Int) := by omega
      have hat : atI [V.str "", V.str tail] ((0 + (k : Int)) % 2) = some (V.str (if k % 2 = 0 then "" else tail)) := by
        rw [ek]
        rcases k01 with e | e
        · rw [e]; rfl
        · rw [e]; rfl
      refine ⟨_, rfl, _, _, rfl, rfl, (by show (0 : Int) < 2; decide), l2, _, _, _, rfl, rfl, SqL.of e2, hat, _, _, rfl, rfl, ?_, ?_⟩
      · rw [sign_len]
        split
        · decide
        · exact sl1000 (by omega)
      · have e : (((st : Int) + (0 + (k : Int)) / 2) % 26).toNat = (st + k / 2) % 26 := by omega
        rw [e]
        have := hR _ s2
        unfold mkT at this
        rw [Nat.mod_mod] at this
        exact this
    · intro G sg hD1
      have eL : (List.range many).map (fun k => V.str (mkT tail ((st + k / 2) % 26) (k % 2))) = ((List.range many).map fun k => mkT tail ((st + k / 2) % 26) (k % 2)).map V.str := by rw [List.map_map]; rfl
      rw [eL] at hD1
      have hnd : ((List.range many).map fun k => mkT tail ((st + k / 2) % 26) (k % 2)).Nodup := by
        refine List.nodup_iff_pairwise_ne.mpr (List.pairwise_map.mpr ?_)
        refine List.Pairwise.imp_of_mem (fun {i j} hi hj hij e => ?_) (List.pairwise_lt_range (n := many))
        have hi' := List.mem_range.mp hi
        have hj' := List.mem_range.mp hj
        obtain ⟨_, x1, x2⟩ := mkt_ok mta (Nat.mod_lt (st + i / 2) (by decide : 0 < 26)) (Nat.mod_lt i (by decide : 0 < 2))
        obtain ⟨_, y1, y2⟩ := mkt_ok mta (Nat.mod_lt (st + j / 2) (by decide : 0 < 26)) (Nat.mod_lt j (by decide : 0 < 2))
        rw [e] at x1 x2
        rw [y1] at x1
        have z : i % 2 = 0 ↔ j % 2 = 0 := x2.symm.trans y2
        omega
      have hnm : ∀ x ∈ (List.range many).map (fun k => mkT tail ((st + k / 2) % 26) (k % 2)), nmB x = true := fun x hx => by
        obtain ⟨k, _, rfl⟩ := List.mem_map.mp hx
        exact (mkt_ok mta (Nat.mod_lt _ (by decide)) (Nat.mod_lt _ (by decide))).1
      have hnz : ∀ x ∈ (List.range many).map (fun k => mkT tail ((st + k / 2) % 26) (k % 2)), x ≠ z8 := fun x hx => by
        obtain ⟨k, _, rfl⟩ := List.mem_map.mp hx
        exact mkt_z mta (Nat.mod_lt _ (by decide)) (Nat.mod_lt _ (by decide))
      have hl : ((List.range many).map fun k => mkT tail ((st + k / 2) % 26) (k % 2)).length = many := by rw [List.length_map, List.length_range]
      generalize (List.range many).map (fun k => mkT tail ((st + k / 2) % 26) (k % 2)) = fs at hD1 hnd hnm hnz hl
      refine ⟨D, fs, rfl, SqL.of hD1, by omega, fun names sl pm srt hsl => ⟨sl, _, rfl, .inl ⟨SqL.of upd_same, fun r hr' => ?_⟩⟩⟩
      have sF := sg.trans ((same_new hsl (.lst (names.map V.str))).trans (same_new hr' (.tup (names.map V.str))))
      exact q r names _ (k06.trans (KB.of sF)) (P6.same sF) upd_same (by rw [pm.length_eq, hl]) (strict srt (pm.nodup_iff.mpr hnd)) (fun x hx => nm_ok (hnm x (pm.mem_iff.mp hx))) (fun hx => hnz _ (pm.mem_iff.mp hx) rfl)
end
end K20

namespace K20
open PySem L2 Wd Wm Tm Ym Am
section
variable {P : Program} {w : World} {K : PySem.W.Frag} {mg : Str → Option Value} {base : Heap}
/-! ### _law_is_tied -/
def spTied (K : PySem.W.Frag) : Sp := fun vs H Q _ => ∃ (p sa : Addr) (sn : List Int) (way many one other : Int), vs = [.ref p, .int way, .int many, .int one, .int other] ∧ Pile K H p sa sn ∧ 0 ≤ way ∧ way < 10 ∧ ∀ (b : Bool) (H' : Hp), KB p H H' → Pile K H' p sa sn → Q (.bl b) H'
theorem sc_tied : FnScope ["pile", "way", "many", "one", "other", "number", "block", "ring"] ["pile", "way", "many", "one", "other"] (defScope s_law_is_tied) := ⟨rfl, rfl, rfl, by decide +kernel, rfl, by decide +kernel, by decide +kernel⟩
theorem at10 {b0 b1 b2 b3 b4 b5 b6 b7 b8 b9 : Bool} {k : Int} (h0 : 0 ≤ k) (h1 : k < 10) : ∃ b, atI [V.bl b0, V.bl b1, V.bl b2, V.bl b3, V.bl b4, V.bl b5, V.bl b6, V.bl b7, V.bl b8, V.bl b9] k = some (.bl b) := by
  have : k = 0 ∨ k = 1 ∨ k = 2 ∨ k = 3 ∨ k = 4 ∨ k = 5 ∨ k = 6 ∨ k = 7 ∨ k = 8 ∨ k = 9 := by omega
  rcases this with rfl | rfl | rfl | rfl | rfl | rfl | rfl | rfl | rfl | rfl <;> exact ⟨_, rfl⟩
theorem ok_tied {f : Addr} {fd : FuncData} (F : Fun K "_law_is_tied" "_law_is_tied" s_law_is_tied f fd) (T : Tx mg) (oN : Own P w K mg base 1 "_law_next" ["pile", "most"] (spNextP K)) : FnOk P w K mg base CX0 2 f fd ["pile", "way", "many", "one", "other"] (spTied K) := by
  have nd := sc_tied.nd
  obtain ⟨f1, fd1, G_law_next, b_law_next, k_law_next, m_law_next⟩ := oN
  refine F.ok sc_tied (fun vs H Q E h => ?_) (fun cdv A outer s H vs Q E hr h => ?_)
  · obtain ⟨p, sa, sn, way, many, one, other, rfl, _⟩ := h
    rfl
  have hr_law_next := hr
  obtain ⟨p, sa, sn, way, many, one, other, rfl, hP, w0, w1, q⟩ := h
  refine SB.use (bcons
  (bset (n := 5) nd rfl (Or.inl (by kernel_rfl)) (ecall G_law_next hr_law_next (by unfold Gl; kernel_rfl) m_law_next k_law_next b_law_next .nil pass0 (acons (ev 0 rfl (Or.inl (by kernel_rfl)) (by kernel_rfl) (by kernel_rfl)) (acons eint anil (by kernel_rfl)) (by kernel_rfl)) (by kernel_rfl) (by kernel_rfl) (by kernel_rfl)) (by kernel_rfl) (.inl rfl))
  (bcons
  (bset (n := 6) nd rfl (Or.inl (by kernel_rfl)) (ecmp op_eq (eop op_fdiv (ev 3 rfl (Or.inl (by kernel_rfl)) (by kernel_rfl) (by kernel_rfl)) eint) (eop op_fdiv (ev 4 rfl (Or.inl (by kernel_rfl)) (by kernel_rfl) (by kernel_rfl)) eint) (nomark _)) (by kernel_rfl) (.inl rfl))
  (bcons
  (bset (n := 7) nd rfl (Or.inl (by kernel_rfl)) (ecmp op_in_seq (eop op_sub (ev 4 rfl (Or.inl (by kernel_rfl)) (by kernel_rfl) (by kernel_rfl)) (ev 3 rfl (Or.inl (by kernel_rfl)) (by kernel_rfl) (by kernel_rfl))) (etup (acons eint (acons (eop op_sub (ev 2 rfl (Or.inl (by kernel_rfl)) (by kernel_rfl) (by kernel_rfl)) eint) anil (by kernel_rfl)) (by kernel_rfl))) (by kernel_rfl)) (by kernel_rfl) (.inl rfl))
  (bone
  (bret (eix ix_list (elst (acons ebl (acons ebl (acons (ecmp op_lt (ev 5 rfl (Or.inl (by kernel_rfl)) (by kernel_rfl) (by kernel_rfl)) eint (nomark _)) (acons (ecmp op_lt (ev 5 rfl (Or.inl (by kernel_rfl)) (by kernel_rfl) (by kernel_rfl)) eint (nomark _)) (acons (ecmp op_lt (ev 5 rfl (Or.inl (by kernel_rfl)) (by kernel_rfl) (by kernel_rfl)) eint (nomark _)) (acons (ev 6 rfl (Or.inl (by kernel_rfl)) (by kernel_rfl) (by kernel_rfl)) (acons (enot (ev 6 rfl (Or.inl (by kernel_rfl)) (by kernel_rfl) (by kernel_rfl))) (acons (ev 7 rfl (Or.inl (by kernel_rfl)) (by kernel_rfl) (by kernel_rfl)) (acons (enot (ev 7 rfl (Or.inl (by kernel_rfl)) (by kernel_rfl) (by kernel_rfl))) (acons (ecmp op_lt (ev 5 rfl (Or.inl (by kernel_rfl)) (by kernel_rfl) (by kernel_rfl)) eint (nomark _)) anil (by kernel_rfl)) (by kernel_rfl)) (by kernel_rfl)) (by kernel_rfl)) (by kernel_rfl)) (by kernel_rfl)) (by kernel_rfl)) (by kernel_rfl)) (by kernel_rfl)) (by kernel_rfl))) (ev 1 rfl (Or.inl (by kernel_rfl)) (by kernel_rfl) (by kernel_rfl)) (fun _ _ => rfl))))))) ?_
  refine ⟨_, rfl, p, sa, sn, 12, rfl, hP, by decide, by decide, fun n H1 n0 n1 k1 P1 => ?_⟩
  refine ⟨_, rfl, _, _, rfl, rfl, ⟨by decide, by decide⟩, _, rfl, _, _, rfl, rfl, ⟨by decide, by decide⟩, rfl, ?_⟩
  refine ⟨_, rfl, _, rfl, _, _, rfl, rfl, _, rfl, _, _, rfl, rfl, (by show 2 ≤ sizeLine; decide), fun t ht => ?_⟩
  have s2 := same_new ht (.tup [V.int 1, V.int (many - 1)])
  refine ⟨t, _, rfl, .inr (SqT.of upd_same), rfl, rfl, ?_⟩
  refine ⟨_, rfl, _, _, rfl, rfl, _, rfl, _, _, rfl, rfl, _, rfl, _, _, rfl, rfl, _, rfl, _, rfl, _, rfl, _, rfl, _, rfl, _, rfl, _, rfl, _, _, rfl, rfl, (by show 10 ≤ sizeLine; decide), fun l hl => ?_⟩
  obtain ⟨b, hb⟩ := at10 (b0 := false) (b1 := true) (b2 := decide (n < 6)) (b3 := decide (n < 3)) (b4 := decide (n < 9)) (b5 := decide (V.int (one / 3) = V.int (other / 3))) (b6 := !decide (V.int (one / 3) = V.int (other / 3))) (b7 := inV (V.int (other - one)) [V.int 1, V.int (many - 1)]) (b8 := !inV (V.int (other - one)) [V.int 1, V.int (many - 1)]) (b9 := decide (n < 5)) w0 w1
  refine ⟨_, rfl, l, _, _, _, rfl, rfl, SqL.of upd_same, hb, ?_⟩
  exact q b _ (k1.trans (KB.of (s2.trans (same_new hl _)))) (P1.same (s2.trans (same_new hl _)))
end
end K20

namespace K20
open PySem L2 Wd Wm Tm Ym Am
section
variable {P : Program} {w : World} {K : PySem.W.Frag} {mg : Str → Option Value} {base : Heap}
/-! ### _law_web -/
def spWeb (K : PySem.W.Frag) : Sp := fun vs H Q _ => ∃ (p sa : Addr) (sn : List Int) (most : Nat), vs = [.ref p, .int (most : Nat)] ∧ Pile K H p sa sn ∧ most ≤ 14 ∧
  ∀ (r : Addr) (names : List Str) (ties : List SS) (H' : Hp), KB p H H' → Pile K H' p sa sn → WebAt K H' r names ties → WebOk names ties → names.length ≤ 14 → (names.length ≤ 9 ∨ names.length = most) → z8 ∉ names → Q (.ref r) H'
theorem sc_web : FnScope ["pile", "most", "many", "names", "way", "ties", "k", "j"] ["pile", "most"] (defScope s_law_web) := ⟨rfl, rfl, rfl, by decide +kernel, rfl, by decide +kernel, by decide +kernel⟩
theorem at12 {k : Int} (h0 : 0 ≤ k) (h1 : k < 12) : ∃ r : Int, atI [V.int 0, V.int 1, V.int 2, V.int 2, V.int 3, V.int 4, V.int 5, V.int 6, V.int 7, V.int 8, V.int 9, V.int 2] k = some (.int r) ∧ 0 ≤ r ∧ r < 10 := by
  have : k = 0 ∨ k = 1 ∨ k = 2 ∨ k = 3 ∨ k = 4 ∨ k = 5 ∨ k = 6 ∨ k = 7 ∨ k = 8 ∨ k = 9 ∨ k = 10 ∨ k = 11 := by omega
  rcases this with rfl | rfl | rfl | rfl | rfl | rfl | rfl | rfl | rfl | rfl | rfl | rfl <;> exact ⟨_, rfl, by decide, by decide⟩
/-- the ties drawn so far -/
structure Drw (names : List Str) (i j : Nat) (ps : List SS) : Prop where
  asc : Asc ps
  old : ∀ p ∈ ps, ∃ k l, names[k]? = some p.1 ∧ names[l]? = some p.2 ∧ k < l ∧ (k < i ∨ (k = i ∧ l < j))
theorem Drw.add {names : List Str} {i j : Nat} {ps : List SS} {x y : Str} (hs : names.Pairwise sLt) (h : Drw names i j ps) (hx : names[i]? = some x) (hy : names[j]? = some y) (hij : i < j) : Drw names i (j + 1) (ps ++ [(x, y)]) := by
  refine ⟨List.pairwise_append.mpr ⟨h.asc, List.pairwise_singleton _ _, fun p hp q hq => ?_⟩, fun p hp => ?_⟩
  · rw [List.mem_singleton.mp hq]
    obtain ⟨k, l, h1, h2, h3, h4⟩ := h.old p hp
    refine (prLt_iff _ _).mpr ?_
    rcases h4 with h4 | ⟨rfl, h4⟩
    · exact .inl (at_lt hs h4 h1 hx)
    · rw [hx] at h1
      have e : x = p.1 := Option.some.inj h1
      exact .inr ⟨by rw [← e]; exact sLt_irr _, at_lt hs h4 h2 hy⟩
  · rcases List.mem_append.mp hp with z | z
    · obtain ⟨k, l, h1, h2, h3, h4⟩ := h.old p z
      exact ⟨k, l, h1, h2, h3, h4.imp_right fun q => ⟨q.1, by omega⟩⟩
    · rw [List.mem_singleton.mp z]
      exact ⟨i, j, hx, hy, hij, .inr ⟨rfl, by omega⟩⟩
theorem Drw.skip {names : List Str} {i j : Nat} {ps : List SS} (h : Drw names i j ps) : Drw names i (j + 1) ps := ⟨h.asc, fun p hp => by
  obtain ⟨k, l, h1, h2, h3, h4⟩ := h.old p hp
  exact ⟨k, l, h1, h2, h3, h4.imp_right fun q => ⟨q.1, by omega⟩⟩⟩
theorem Drw.row {names : List Str} {i j j' : Nat} {ps : List SS} (h : Drw names i j ps) : Drw names (i + 1) j' ps := ⟨h.asc, fun p hp => by
  obtain ⟨k, l, h1, h2, h3, h4⟩ := h.old p hp
  exact ⟨k, l, h1, h2, h3, .inl (by rcases h4 with q | q <;> omega)⟩⟩
theorem Drw.ok {names : List Str} {i j : Nat} {ps : List SS} (hs : names.Pairwise sLt) (hw : ∀ x ∈ names, Word x ∧ x ∉ own16) (h : Drw names i j ps) : WebOk names ps := ⟨hs, hw, h.asc, fun p hp => by
  obtain ⟨k, l, h1, h2, h3, _⟩ := h.old p hp
  exact ⟨List.mem_of_getElem? h1, List.mem_of_getElem? h2, at_lt hs h3 h1 h2⟩⟩
/-- the ties grow at D; all else but the pile stays -/
structure Pq (K : PySem.W.Frag) (p sa : Addr) (sn : List Int) (H : Hp) (D : Addr) (ps : List SS) (H2 : Hp) : Prop where
  s : KB p H H2
  pl : Pile K H2 p sa sn
  v : ∃ vs, H2 D = some (.lst vs) ∧ Prs K H2 vs ps
theorem Pq.new {p sa : Addr} {sn : List Int} {H H2 : Hp} {D : Addr} {ps : List SS} (h : Pq K p sa sn H D ps H2) {q : Addr} (n : H2 q = none) (o : HO) : Pq K p sa sn H D ps (upd H2 q o) := by
  obtain ⟨vs, h1, h2⟩ := h.v
  exact ⟨h.s.trans (KB.of (same_new n o)), h.pl.same (same_new n o), vs, same_new n o _ _ h1, h2.same (same_new n o)⟩
theorem ok_web {f : Addr} {fd : FuncData} (F : Fun K "_law_web" "_law_web" s_law_web f fd) (T : Tx mg) (oN : Own P w K mg base 1 "_law_next" ["pile", "most"] (spNextP K)) (oM : Own P w K mg base 2 "_law_names" ["pile", "many"] (spNames K)) (oY : Own P w K mg base 2 "_law_is_tied" ["pile", "way", "many", "one", "other"] (spTied K)) : FnOk P w K mg base CX0 3 f fd ["pile", "most"] (spWeb K) := by
  have nd := sc_web.nd
  obtain ⟨f1, fd1, G_law_next, b_law_next, k_law_next, m_law_next⟩ := oN
  obtain ⟨f2, fd2, G_law_names, b_law_names, k_law_names, m_law_names⟩ := oM
  obtain ⟨f3, fd3, G_law_is_tied, b_law_is_tied, k_law_is_tied, m_law_is_tied⟩ := oY
  refine F.ok sc_web (fun vs H Q E h => ?_) (fun cdv A outer s H vs Q E hr h => ?_)
  · obtain ⟨p, sa, sn, most, rfl, _⟩ := h
    rfl
  have hr_law_names := hr
  have hr_law_is_tied := hr
  have hr_law_next := hr.mono (j := 1) (by decide)
  obtain ⟨p, sa, sn, most, rfl, hP, m14, q⟩ := h
  refine SB.use (bcons
  (bset (n := 2) nd rfl (Or.inl (by kernel_rfl)) (ecall G_law_next hr_law_next (by unfold Gl; kernel_rfl) m_law_next k_law_next b_law_next .nil pass0 (acons (ev 0 rfl (Or.inl (by kernel_rfl)) (by kernel_rfl) (by kernel_rfl)) (acons eint anil (by kernel_rfl)) (by kernel_rfl)) (by kernel_rfl) (by kernel_rfl) (by kernel_rfl)) (by kernel_rfl) (.inl rfl))
  (bcons
  (bifs (tcmp op_eq (ecall G_law_next hr_law_next (by unfold Gl; kernel_rfl) m_law_next k_law_next b_law_next .nil pass0 (acons (ev 0 rfl (Or.inl (by kernel_rfl)) (by kernel_rfl) (by kernel_rfl)) (acons eint anil (by kernel_rfl)) (by kernel_rfl)) (by kernel_rfl) (by kernel_rfl) (by kernel_rfl)) eint (nomark _)) (bone
  (bset (n := 2) nd rfl (Or.inl (by kernel_rfl)) (ev 1 rfl (Or.inl (by kernel_rfl)) (by kernel_rfl) (by kernel_rfl)) (by kernel_rfl) (.inl rfl))) bnil)
  (bcons
  (bset (n := 3) nd rfl (Or.inl (by kernel_rfl)) (ecall G_law_names hr_law_names (by unfold Gl; kernel_rfl) m_law_names k_law_names b_law_names .nil pass0 (acons (ev 0 rfl (Or.inl (by kernel_rfl)) (by kernel_rfl) (by kernel_rfl)) (acons (ev 2 rfl (Or.inl (by kernel_rfl)) (by kernel_rfl) (by kernel_rfl)) anil (by kernel_rfl)) (by kernel_rfl)) (by kernel_rfl) (by kernel_rfl) (by kernel_rfl)) (by kernel_rfl) (.inl rfl))
  (bcons
  (bset (n := 4) nd rfl (Or.inl (by kernel_rfl)) (eix ix_list (elst (acons eint (acons eint (acons eint (acons eint (acons eint (acons eint (acons eint (acons eint (acons eint (acons eint (acons eint (acons eint anil (by kernel_rfl)) (by kernel_rfl)) (by kernel_rfl)) (by kernel_rfl)) (by kernel_rfl)) (by kernel_rfl)) (by kernel_rfl)) (by kernel_rfl)) (by kernel_rfl)) (by kernel_rfl)) (by kernel_rfl)) (by kernel_rfl))) (ecall G_law_next hr_law_next (by unfold Gl; kernel_rfl) m_law_next k_law_next b_law_next .nil pass0 (acons (ev 0 rfl (Or.inl (by kernel_rfl)) (by kernel_rfl) (by kernel_rfl)) (acons eint anil (by kernel_rfl)) (by kernel_rfl)) (by kernel_rfl) (by kernel_rfl) (by kernel_rfl)) (fun _ _ => rfl)) (by kernel_rfl) (.inl rfl))
  (bcons
  (bset (n := 5) nd rfl (Or.inl (by kernel_rfl)) (elst anil) (by kernel_rfl) (.inl rfl))
  (bcons
  (bfor PassesOwn.never rfl (irange1 (by unfold Gl; kernel_rfl) T.range (acons (ev 2 rfl (Or.inl (by kernel_rfl)) (by kernel_rfl) (by kernel_rfl)) anil (by kernel_rfl)) (by kernel_rfl)) (gname (n := 6) nd rfl (Or.inl (by kernel_rfl)) (.inl rfl)) (bone
  (bfor PassesOwn.never rfl (irange2 (by unfold Gl; kernel_rfl) T.range (acons (eop op_add (ev 6 rfl (Or.inl (by kernel_rfl)) (by kernel_rfl) (by kernel_rfl)) eint) (acons (ev 2 rfl (Or.inl (by kernel_rfl)) (by kernel_rfl) (by kernel_rfl)) anil (by kernel_rfl)) (by kernel_rfl)) (by kernel_rfl) (by kernel_rfl)) (gname (n := 7) nd rfl (Or.inl (by kernel_rfl)) (.inl rfl)) (bone
  (bifs (tval (ecall G_law_is_tied hr_law_is_tied (by unfold Gl; kernel_rfl) m_law_is_tied k_law_is_tied b_law_is_tied .nil pass0 (acons (ev 0 rfl (Or.inl (by kernel_rfl)) (by kernel_rfl) (by kernel_rfl)) (acons (ev 4 rfl (Or.inl (by kernel_rfl)) (by kernel_rfl) (by kernel_rfl)) (acons (ev 2 rfl (Or.inl (by kernel_rfl)) (by kernel_rfl) (by kernel_rfl)) (acons (ev 6 rfl (Or.inl (by kernel_rfl)) (by kernel_rfl) (by kernel_rfl)) (acons (ev 7 rfl (Or.inl (by kernel_rfl)) (by kernel_rfl) (by kernel_rfl)) anil (by kernel_rfl)) (by kernel_rfl)) (by kernel_rfl)) (by kernel_rfl)) (by kernel_rfl)) (by kernel_rfl) (by kernel_rfl) (by kernel_rfl)) (by intro _; rfl)) (bone
  (bexpr (ebm PySem.F.plainAttrs_list PySem.F.slot_list_append PySem.F.type_list_append mt_append (ev 5 rfl (Or.inl (by kernel_rfl)) (by kernel_rfl) (by kernel_rfl)) (acons (etup (acons (eix ix_tup (ev 3 rfl (Or.inl (by kernel_rfl)) (by kernel_rfl) (by kernel_rfl)) (ev 6 rfl (Or.inl (by kernel_rfl)) (by kernel_rfl) (by kernel_rfl)) (fun _ _ => rfl)) (acons (eix ix_tup (ev 3 rfl (Or.inl (by kernel_rfl)) (by kernel_rfl) (by kernel_rfl)) (ev 7 rfl (Or.inl (by kernel_rfl)) (by kernel_rfl) (by kernel_rfl)) (fun _ _ => rfl)) anil (by kernel_rfl)) (by kernel_rfl))) anil (by kernel_rfl)) (by kernel_rfl) (by kernel_rfl) (by kernel_rfl) (by kernel_rfl) (by kernel_rfl)) (by kernel_rfl))) bnil)) (by intro _; rfl))) (by intro _; rfl))
  (bone
  (bret (etup (acons (ev 3 rfl (Or.inl (by kernel_rfl)) (by kernel_rfl) (by kernel_rfl)) (acons (ecallT call_tuple_of (by unfold Gl; kernel_rfl) T.tuple L2.boot_tuple (acons (ev 5 rfl (Or.inl (by kernel_rfl)) (by kernel_rfl) (by kernel_rfl)) anil (by kernel_rfl)) (by decide +kernel) (by kernel_rfl) (by kernel_rfl) (by kernel_rfl)) anil (by kernel_rfl)) (by kernel_rfl))))))))))) ?_
  refine ⟨_, rfl, p, sa, sn, 10, rfl, hP, by decide, by decide, fun mn H1 t0 t1 k1 P1 => ?_⟩
  obtain ⟨mn', rfl⟩ := Int.eq_ofNat_of_zero_le t0
  refine ⟨_, rfl, p, sa, sn, 12, rfl, P1, by decide, by decide, fun z H2 z0 z1 k2 P2 => ?_⟩
  have k02 := k1.trans k2
  refine ⟨rfl, _, rfl, ite2 (fun _ => ⟨_, rfl, ?y⟩) (fun _ => ?n)⟩
  case' y =>
    have hm : most ≤ 14 ∧ (most ≤ 9 ∨ most = most) := ⟨m14, .inr rfl⟩
    show tSeq _ _ _ [some (V.ref p), some (V.int (most : Nat)), some (V.int (most : Nat)), none, none, none, none, none] H2
    generalize hmn : most = mn at hm
    rw [show (mn ≤ 9 ∨ mn = mn) = (mn ≤ 9 ∨ mn = most) from by rw [hmn]] at hm
    rw [← hmn]
    have emn : ([some (V.ref p), some (V.int (most : Nat)), some (V.int (most : Nat)), none, none, none, none, none] : St) = [some (V.ref p), some (V.int (most : Nat)), some (V.int (mn : Nat)), none, none, none, none, none] := by rw [hmn]
    rw [emn]
    clear emn hmn
  case' n =>
    have hm : mn' ≤ 14 ∧ (mn' ≤ 9 ∨ mn' = most) := ⟨by omega, .inl (by omega)⟩
    show tSeq _ _ _ [some (V.ref p), some (V.int (most : Nat)), some (V.int (mn' : Nat)), none, none, none, none, none] H2
    generalize mn' = mn at hm
  all_goals
    refine ⟨_, rfl, _, rfl, p, sa, sn, mn, rfl, P2, hm.1, fun na names H3 k3 P3 hna hlen hs hw hz8 => ?_⟩
    have k03 := k02.trans k3
    -- way
    refine ⟨(by show 12 ≤ sizeLine; decide), fun wl hwl => ?_⟩
    have s4 := same_new hwl (.lst [V.int 0, V.int 1, V.int 2, V.int 2, V.int 3, V.int 4, V.int 5, V.int 6, V.int 7, V.int 8, V.int 9, V.int 2])
    have e4 := at_new hwl (.lst [V.int 0, V.int 1, V.int 2, V.int 2, V.int 3, V.int 4, V.int 5, V.int 6, V.int 7, V.int 8, V.int 9, V.int 2])
    have nwp : wl ≠ p := fun e => by obtain ⟨_, z⟩ := P3.lst; rw [← e, hwl] at z; cases z
    refine ⟨_, rfl, p, sa, sn, 12, rfl, P3.same s4, by decide, by decide, fun y H5 y0 y1 k5 P5 => ?_⟩
    obtain ⟨way, hwa, w0, w1⟩ := at12 y0 y1
    refine ⟨wl, _, _, _, rfl, rfl, SqL.of (k5 _ _ e4 nwp), hwa, ?_⟩
    have k05 := (k03.trans (KB.of s4)).trans k5
    have nnp : na ≠ p := fun e => by obtain ⟨_, z⟩ := P3.lst; rw [← e, hna] at z; cases z
    have hna5 := k5 _ _ (s4 _ _ hna) nnp
    -- ties
    refine ⟨Nat.zero_le _, fun fo hfo => ?_⟩
    have s6 := same_new hfo (.lst [])
    have nfp : fo ≠ p := fun e => by obtain ⟨_, z⟩ := P5.lst; rw [← e, hfo] at z; cases z
    have nfn : na ≠ fo := ne_of_none hna5 hfo
    have pp0 : Pq K p sa sn H5 fo [] (upd H5 fo (.lst [])) := ⟨KB.of s6, P5.same s6, [], upd_same, .nil⟩
    have hnaK : ∀ {G : Hp} {ps : List SS}, Pq K p sa sn H5 fo ps G → G na = some (.tup (names.map V.str)) := fun h => h.s _ _ hna5 nnp
    refine ⟨_, rfl, _, rfl, by omega, by omega, ?_⟩
    refine for_range (lo := 0) (fun i σ G => ∃ (x6 x7 : Option V) (qs : List SS), σ = [some (.ref p), some (.int (most : Nat)), some (.int (mn : Nat)), some (.ref na), some (.int way), some (.ref fo), x6, x7] ∧ Pq K p sa sn H5 fo qs G ∧ Drw names i 0 qs ∧ qs.length ≤ i * 15) ⟨_, _, [], rfl, pp0, ⟨List.Pairwise.nil, fun p hp => by cases hp⟩, by simp⟩ ?_ ?_
    · rintro i σ G hi ⟨x6, x7, qs, rfl, pg, dr, hql⟩
      have hi' : i < names.length := by omega
      obtain ⟨x, hx⟩ : ∃ x, names[i]? = some x := ⟨names[i], List.getElem?_eq_getElem hi'⟩
      refine ⟨_, rfl, _, _, rfl, rfl, _, rfl, _, _, rfl, ⟨by omega, by omega, by omega, by omega⟩, ?_⟩
      have en : (((mn : Nat) : Int) - ((0 : Int) + (i : Int) + 1)).toNat = names.length - (i + 1) := by omega
      refine for_range (lo := 0 + (i : Int) + 1) (fun j σ G' => ∃ (x7 : Option V) (qs : List SS), σ = [some (.ref p), some (.int (most : Nat)), some (.int (mn : Nat)), some (.ref na), some (.int way), some (.ref fo), some (.int (0 + (i : Int))), x7] ∧ Pq K p sa sn H5 fo qs G' ∧ Drw names i (i + 1 + j) qs ∧ qs.length ≤ i * 15 + j) ⟨_, qs, rfl, pg, ⟨dr.asc, fun p hp => by obtain ⟨k, l, a1, a2, a3, a4⟩ := dr.old p hp; exact ⟨k, l, a1, a2, a3, .inl (by omega)⟩⟩, by omega⟩ ?_ ?_
      · rintro j σ G2 hj ⟨x7, qs, rfl, pg2, dr2, hql2⟩
        rw [en] at hj
        have hp : i + 1 + j < names.length := by omega
        obtain ⟨y', hy⟩ : ∃ y, names[i + 1 + j]? = some y := ⟨names[i + 1 + j], List.getElem?_eq_getElem hp⟩
        refine ⟨_, rfl, _, rfl, _, rfl, _, rfl, _, rfl, p, sa, sn, way, _, _, _, rfl, pg2.pl, w0, w1, fun b G3 k3' P3' => ⟨_, rfl, ?_⟩⟩
        have pg3 : Pq K p sa sn H5 fo qs G3 := by
          obtain ⟨vs, v1, v2⟩ := pg2.v
          obtain ⟨_, pl⟩ := pg2.pl.lst
          exact ⟨pg2.s.trans k3', P3', vs, k3' _ _ v1 nfp, v2.keep (k3'.keepT pl)⟩
        refine ite2 (fun _ => ?_) (fun _ => ⟨_, qs, rfl, pg3, dr2.skip, by omega⟩)
        obtain ⟨ac, hac, hpr⟩ := id pg3.v
        have la := Paired.length hpr
        have hN3 := SqT.of (K := K) (hnaK pg3)
        have hatx : atI (names.map V.str) (0 + (i : Int)) = some (.str x) := at_nat hx
        have haty : atI (names.map V.str) (0 + (i : Int) + 1 + (j : Int)) = some (.str y') := by
          have e : (0 + (i : Int) + 1 + (j : Int)) = ((i + 1 + j : Nat) : Int) := by omega
          rw [e]
          exact atI_nat (by rw [List.getElem?_map, hy]; rfl)
        refine ⟨_, rfl, .inl ⟨rfl, _, SqL.of hac⟩, _, rfl, _, rfl, na, _, _, _, rfl, rfl, hN3, hatx, _, rfl, _, rfl, na, _, _, _, rfl, rfl, hN3, haty, (by show 2 ≤ sizeLine; decide), fun t3 ht3 => ?_⟩
        have pg7 := pg3.new ht3 (.tup [.str x, .str y'])
        have hac7 : (upd G3 t3 (.tup [.str x, .str y'])) fo = some (.lst ac) := by rw [upd_ne (ne_of_none hac ht3)]; exact hac
        refine ⟨fo, ac, _, rfl, rfl, hac7, (by rw [sizeLine_eq]; omega), _, qs ++ [(x, y')], rfl, ?_, dr2.add hs hx hy (Nat.lt_of_lt_of_le (Nat.lt_succ_self i) (Nat.le_add_right _ _)), by rw [List.length_append]; show qs.length + 1 ≤ _; omega⟩
        obtain ⟨vs7, hvs7, hpr7⟩ := pg7.v
        rw [hac7] at hvs7
        cases hvs7
        have kt := keepT_upd hac7 (.lst (ac ++ [V.ref t3]))
        have npf : p ≠ fo := nfp.symm
        refine ⟨fun b o e n => ?_, P5.put hfo pg7.pl _, _, upd_same, Paired.snoc (hpr7.keep kt) (IsPr.keep ⟨t3, rfl, SqT.of upd_same⟩ kt)⟩
        rw [upd_ne (ne_of_none e hfo)]
        exact pg7.s _ _ e n
      · rintro σ G2 ⟨x7, qs, rfl, pg2, dr2, hql2⟩
        rw [en] at hql2 dr2
        exact ⟨_, _, qs, rfl, pg2, Drw.row (by rw [show i + 1 + (names.length - (i + 1)) = names.length from by omega] at dr2; exact dr2), by omega⟩
    · rintro σ G ⟨x6, x7, qs, rfl, pg, dr, hql⟩
      obtain ⟨vs, hvs, hpr⟩ := pg.v
      have hnaG := hnaK pg
      refine ⟨_, rfl, _, rfl, fo, _, rfl, .inl ⟨SqL.of hvs, fun ta hta => ⟨(by show 2 ≤ sizeLine; decide), fun r hr' => ?_⟩⟩⟩
      have s7 := (same_new hta (.tup vs)).trans (same_new hr' (.tup [V.ref na, V.ref ta]))
      exact q r names qs _ ((k05.trans pg.s).trans (KB.of s7)) (pg.pl.same s7) ⟨na, ta, vs, SqT.of upd_same, s7.seqT (SqT.of hnaG), SqT.of (by rw [upd_ne (ne_of_none upd_same hr')]; exact upd_same), hpr.same s7⟩ (dr.ok hs hw) (by omega) (by omega) hz8
end
end K20

namespace K20
open PySem L2 Wd Wm
theorem pairs_le {names : List Str} (h : names.length ≤ 14) : (pairsL names).length ≤ 900 := by
  have l2 := len_pairs names
  have l3 : names.length * (names.length - 1) ≤ 14 * 14 := Nat.mul_le_mul h (by omega)
  omega
theorem cut_fromN {names : List Str} {i : Nat} (h : i < names.length) : cutV (names.map V.str) (some ((i : Int) + 1)) none = (names.drop (i + 1)).map V.str := by
  unfold cutV
  have e : HT.sIx (names.map V.str).length 0 (some ((i : Int) + 1)) = i + 1 := by
    have := HT.sIx_nat (names.map V.str).length 0 (i + 1)
    have e2 : (((i + 1 : Nat)) : Int) = (i : Int) + 1 := by omega
    rw [e2] at this
    rw [this, List.length_map]
    omega
  rw [e, HT.sIx_none, List.length_map, ← List.map_drop, List.take_of_length_le (by rw [List.length_map, List.length_drop]; exact Nat.le_refl _)]
theorem pairs_at {names : List Str} {i : Nat} {x : Str} (h : names[i]? = some x) : pairsL (names.drop i) = (names.drop (i + 1)).map (fun y => (x, y)) ++ pairsL (names.drop (i + 1)) := by
  obtain ⟨h1, h2⟩ := List.getElem?_eq_some_iff.mp h
  rw [List.drop_eq_getElem_cons h1, h2]
  rfl
section
variable {P : Program} {w : World} {K : PySem.W.Frag} {mg : Str → Option Value} {base : Heap}
def spPairs (K : PySem.W.Frag) : Sp := fun vs H Q _ => ∃ (a : Addr) (names : List Str), vs = [.ref a] ∧ SqT K H a (names.map V.str) ∧ names.length ≤ 14 ∧
  ∀ (l : Addr) (H' : Hp), H l = none → Pp K H l (pairsL names) H' → Q (.ref l) H'
theorem sc_pairs : FnScope ["names", "at", "one", "other"] ["names"] (defScope s_pairs_of) := ⟨rfl, rfl, rfl, by decide +kernel, rfl, by decide +kernel, by decide +kernel⟩
theorem ok_pairs {f : Addr} {fd : FuncData} (F : Fun K "pairs_of" "pairs_of" s_pairs_of f fd) (T : Tx mg) : FnOk P w K mg base CX0 1 f fd ["names"] (spPairs K) := by
  have nd := sc_pairs.nd
  refine F.ok sc_pairs (fun vs H Q E h => ?_) (fun cdv A outer s H vs Q E hr h => ?_)
  · obtain ⟨a, names, rfl, _⟩ := h
    rfl
  obtain ⟨a, names, rfl, ha, h14, q⟩ := h
  refine SB.use (bone
  (bret (elc2 (own := [("at", 1), ("one", 2), ("other", 3)]) (vs1 := [3]) (g := gTup K 2 (gCons (gName 1) (gCons (gName 2) gNil))) (g1 := gName 3) (wi1 := iTup K (tSl (rSlT K) (tVar 0) (tPart (tOp (rI0 fun i j => .int (i + j)) (tVar 1) (tC (.int 1)))) tNoPart)) (by rfl) nd (ienumT (by unfold Gl; kernel_rfl) T.enumerate (acons (ev 0 rfl (Or.inr (Or.inl (by kernel_rfl))) (by kernel_rfl) (by kernel_rfl)) anil (by kernel_rfl)) (by kernel_rfl)) (blkOk_by (own := [("at", 1), ("one", 2), ("other", 3)]) (N := ["names", "at", "one", "other"]) (sc := defScope s_pairs_of) (by decide +kernel)) (by decide) (fun _ _ _ _ _ => (gtup (n := 2) rfl (gscons (gname (n := 1) nd rfl (Or.inl (by kernel_rfl)) (.inr (by kernel_rfl))) (gscons (gname (n := 2) nd rfl (Or.inl (by kernel_rfl)) (.inr (by kernel_rfl))) gsnil (by kernel_rfl)) (by kernel_rfl)) (by kernel_rfl) (by kernel_rfl))) (fun _ _ _ _ _ => unil) (fun _ _ _ _ _ => (itupK (K := K) rfl (eslice (sl_tupK (K := K) rfl) (ev 0 rfl (Or.inr (Or.inl (by kernel_rfl))) (by kernel_rfl) (by kernel_rfl)) (osome (eop op_add (ev 1 rfl (Or.inl (by kernel_rfl)) (by kernel_rfl) (by kernel_rfl)) eint)) onone))) (fun _ _ _ _ _ => (gname (n := 3) nd rfl (Or.inl (by kernel_rfl)) (.inr (by kernel_rfl)))) (fun _ _ _ _ _ => unil) (fun _ _ _ _ _ => (etup (acons (ev 2 rfl (Or.inl (by kernel_rfl)) (by kernel_rfl) (by kernel_rfl)) (acons (ev 3 rfl (Or.inl (by kernel_rfl)) (by kernel_rfl) (by kernel_rfl)) anil (by kernel_rfl)) (by kernel_rfl)))) (by intro _; rfl) (by intro _ _; rfl)))) ?_
  refine ⟨_, rfl, a, _, rfl, ha, fun D hD => ?_⟩
  refine ⟨fun i m H2 => m = names.length - i ∧ i ≤ names.length ∧ ∃ ps, Pp K H D ps H2 ∧ ps ++ pairsL (names.drop i) = pairsL names, ⟨names.length, by omega, by omega, [], Pp.start hD, rfl⟩, ?_⟩
  rintro i m H2 ⟨rfl, hi, ps, pp, eq⟩
  by_cases hlt : i < names.length
  · obtain ⟨x, hx⟩ : ∃ x, names[i]? = some x := ⟨names[i], List.getElem?_eq_getElem hlt⟩
    have hxv : (names.map V.str)[i]? = some (.str x) := by rw [List.getElem?_map, hx]; rfl
    refine .inr ⟨⟨_, _, pp.s.seqT ha, hxv⟩, fun H' => ∃ ps, Pp K H D ps H' ∧ ps ++ pairsL (names.drop (i + 1)) = pairsL names, fun H' h => ⟨names.length - (i + 1), by omega, rfl, hlt, h⟩, ?_⟩
    rintro v H' ⟨t, x', rfl, nt, rfl, hx'⟩
    have ex : x' = .str x := by
      have := hx' _ (pp.s.seqT ha)
      rw [hxv] at this
      exact (Option.some.inj this).symm
    subst ex
    have pp := pp.new nt (.tup [.int (i : Nat), .str x])
    refine ⟨t, _, rfl, SqT.of upd_same, rfl, _, _, rfl, _, _, rfl, rfl, rfl, tyes ?_⟩
    generalize upd H2 t (.tup [.int (i : Nat), .str x]) = H3 at pp
    refine ⟨_, rfl, _, rfl, _, _, rfl, rfl, _, rfl, a, _, rfl, pp.s.seqT ha, ?_, fun p hp => ?_⟩
    · rintro ⟨z, _⟩
      have := HT.sIx_nat (names.map V.str).length 0 (i + 1)
      have e2 : (((i + 1 : Nat)) : Int) = (i : Int) + 1 := by omega
      rw [e2, List.length_map] at this
      rw [List.length_map] at z
      have z' : HT.sIx names.length 0 (some ((i : Int) + 1)) = 0 := z
      rw [this] at z'
      omega
    have pp := pp.new hp (.tup ((names.drop (i + 1)).map V.str))
    rw [← cut_fromN hlt] at pp
    have hsl : (upd H3 p (.tup (cutV (names.map V.str) (some ((i : Int) + 1)) none))) p = some (.tup ((names.drop (i + 1)).map V.str)) := by rw [cut_fromN hlt]; exact upd_same
    refine ⟨p, rfl, ⟨_, SqT.of hsl⟩, ?_⟩
    generalize upd H3 p (.tup (cutV (names.map V.str) (some ((i : Int) + 1)) none)) = H4 at pp hsl
    refine ⟨fun j k H5 => k = (names.drop (i + 1)).length - j ∧ j ≤ (names.drop (i + 1)).length ∧ H5 p = some (.tup ((names.drop (i + 1)).map V.str)) ∧ Pp K H D (ps ++ ((names.drop (i + 1)).take j).map (fun y => (x, y))) H5, ⟨(names.drop (i + 1)).length, rfl, Nat.zero_le _, hsl, by simpa using pp⟩, ?_⟩
    rintro j k H5 ⟨rfl, hj, hsl5, pp5⟩
    by_cases hjl : j < (names.drop (i + 1)).length
    · obtain ⟨y, hy⟩ : ∃ y, (names.drop (i + 1))[j]? = some y := ⟨(names.drop (i + 1))[j], List.getElem?_eq_getElem hjl⟩
      have hyv : ((names.drop (i + 1)).map V.str)[j]? = some (.str y) := by rw [List.getElem?_map, hy]; rfl
      refine .inr ⟨⟨_, _, SqT.of hsl5, hyv⟩, fun H' => H' p = some (.tup ((names.drop (i + 1)).map V.str)) ∧ Pp K H D (ps ++ ((names.drop (i + 1)).take (j + 1)).map (fun y => (x, y))) H', fun H' h => ⟨(names.drop (i + 1)).length - (j + 1), by omega, rfl, hjl, h⟩, ?_⟩
      rintro v H' ⟨rfl, hv⟩
      have ev : v = .str y := by
        have := hv _ (SqT.of hsl5)
        rw [hyv] at this
        exact (Option.some.inj this).symm
      subst ev
      refine ⟨rfl, tyes ?_⟩
      refine ⟨_, rfl, _, rfl, (by show 2 ≤ sizeLine; decide), fun u hu => ?_⟩
      have pp6 := pp5.new hu (.tup [.str x, .str y])
      obtain ⟨acc, hacc, hpr⟩ := id pp6.v
      have hlen := Paired.length hpr
      have npD : p ≠ D := fun e => by
        rw [e] at hsl5
        obtain ⟨vs, z, _⟩ := pp5.v
        rw [hsl5] at z
        cases z
      have tk : (names.drop (i + 1)).take (j + 1) = (names.drop (i + 1)).take j ++ [y] := by
        rw [List.take_succ, hy]
        rfl
      refine ⟨acc, hacc, ?_, by rw [upd_ne npD, upd_ne (ne_of_none hsl5 hu)]; exact hsl5, ?_⟩
      · rw [hlen]
        have e1 : (pairsL names).length ≤ 900 := pairs_le h14
        rw [← eq, pairs_at hx] at e1
        simp only [List.length_append, List.length_map, List.length_take] at e1 ⊢
        exact small1000 (by omega)
      · rw [tk, List.map_append, ← List.append_assoc]
        exact pp6.add hD hacc ⟨u, rfl, SqT.of upd_same⟩
    · have e : j = (names.drop (i + 1)).length := by omega
      subst e
      rw [List.take_length] at pp5
      exact .inl ⟨⟨_, SqT.of hsl5, by rw [List.length_map]; exact Nat.le_refl _⟩, _, pp5, by rw [← eq, pairs_at hx, List.append_assoc]⟩
  · have e : i = names.length := by omega
    subst e
    rw [List.drop_length] at eq
    have e2 : ps = pairsL names := by rw [← eq]; simp [pairsL]
    subst e2
    exact .inl ⟨⟨_, pp.s.seqT ha, by rw [List.length_map]; exact Nat.le_refl _⟩, q D H2 hD pp⟩
end
end K20

namespace K20
open PySem L2 Wd Wm
section
variable {P : Program} {w : World} {K : PySem.W.Frag} {mg : Str → Option Value} {base : Heap}
/-! ### turned_over -/
def spTurn (K : PySem.W.Frag) : Sp := fun vs H Q _ => ∃ (a : Addr) (names : List Str) (ties : List SS), vs = [.ref a] ∧ WebAt K H a names ties ∧ names.length ≤ 14 ∧
  ∀ (r : Addr) (H' : Hp), Same H H' → WebAt K H' r names (over names ties) → Q (.ref r) H'
theorem sc_turn : FnScope ["web", "names", "ties", "pair"] ["web"] (defScope s_turned_over) := ⟨rfl, rfl, rfl, by decide +kernel, rfl, by decide +kernel, by decide +kernel⟩
theorem ok_turn {f : Addr} {fd : FuncData} (F : Fun K "turned_over" "turned_over" s_turned_over f fd) (T : Tx mg) (oP : Own P w K mg base 1 "pairs_of" ["names"] (spPairs K)) : FnOk P w K mg base CX0 2 f fd ["web"] (spTurn K) := by
  have nd := sc_turn.nd
  obtain ⟨fp, fdp, G_pairs_of, b_pairs_of, k_pairs_of, m_pairs_of⟩ := oP
  refine F.ok sc_turn (fun vs H Q E h => ?_) (fun cdv A outer s H vs Q E hr h => ?_)
  · obtain ⟨a, names, ties, rfl, _⟩ := h
    rfl
  have hr_pairs_of := hr
  obtain ⟨a, names, ties, rfl, wa, h14, q⟩ := h
  obtain ⟨na, ta, tv, h1, h2, h3, h4⟩ := wa.at_
  refine SB.use (bcons
  (basg (ev 0 rfl (Or.inl (by kernel_rfl)) (by kernel_rfl) (by kernel_rfl)) (gtup (n := 2) rfl (gscons (gname (n := 1) nd rfl (Or.inl (by kernel_rfl)) (.inl rfl)) (gscons (gname (n := 2) nd rfl (Or.inr (by kernel_rfl)) (.inl rfl)) gsnil (by kernel_rfl)) (by kernel_rfl)) (by kernel_rfl) (by kernel_rfl)) (by kernel_rfl) (by kernel_rfl) (by kernel_rfl))
  (bone
  (bret (etup (acons (ev 1 rfl (Or.inl (by kernel_rfl)) (by kernel_rfl) (by kernel_rfl)) (acons (ecallT call_tuple_of (by unfold Gl; kernel_rfl) T.tuple L2.boot_tuple (acons (elc (own := [("pair", 3)]) (g := gName 3) (tt := tTest (tOp (rInP K true) (tVar 3) (tVar 2))) (by rfl) nd (ilist (ecall G_pairs_of hr_pairs_of (by unfold Gl; kernel_rfl) m_pairs_of k_pairs_of b_pairs_of .nil pass0 (acons (ev 1 rfl (Or.inl (by kernel_rfl)) (by kernel_rfl) (by kernel_rfl)) anil (by kernel_rfl)) (by kernel_rfl) (by kernel_rfl) (by kernel_rfl))) (blkOk_by (own := [("pair", 3)]) (N := ["web", "names", "ties", "pair"]) (sc := defScope s_turned_over) (by decide +kernel)) (fun _ _ _ _ _ => (gname (n := 3) nd rfl (Or.inl (by kernel_rfl)) (.inr (by kernel_rfl)))) (fun _ _ _ _ _ => (uone (tcmp (op_notInPK (K := K) rfl hr.units) (ev 3 rfl (Or.inl (by kernel_rfl)) (by kernel_rfl) (by kernel_rfl)) (ev 2 rfl (Or.inr (Or.inl (by kernel_rfl))) (by kernel_rfl) (by kernel_rfl)) (by kernel_rfl)))) (fun _ _ _ _ _ => (ev 3 rfl (Or.inl (by kernel_rfl)) (by kernel_rfl) (by kernel_rfl))) (by intro _; rfl)) anil (by kernel_rfl)) (by decide +kernel) (by kernel_rfl) (by kernel_rfl) (by kernel_rfl)) anil (by kernel_rfl)) (by kernel_rfl)))))) ?_
  refine ⟨_, rfl, a, _, rfl, h1, rfl, _, _, rfl, _, _, rfl, rfl, ?_⟩
  refine ⟨_, rfl, _, rfl, na, names, rfl, h2, h14, fun l H1 nl pp => ?_⟩
  obtain ⟨vs, hl, hps⟩ := pp.v
  have s1 := pp.s
  refine ⟨l, rfl, ⟨_, SqL.of hl⟩, fun D hD => ?_⟩
  refine lc_list (xs := vs) (fun i H2 => Pp K H1 D (((pairsL names).take i).filter fun p => !decide (p ∈ ties)) H2) (Pp.start hD) (fun i H2 _ p => SqL.of (p.s _ _ hl)) ?_ ?_
  · intro i x H2 hx p2
    refine ⟨rfl, ?_⟩
    have hi : i < vs.length := (List.getElem?_eq_some_iff.mp hx).1
    have el := Paired.length hps
    obtain ⟨px, hpx⟩ : ∃ px, (pairsL names)[i]? = some px := ⟨(pairsL names)[i]'(by omega), List.getElem?_eq_getElem (by omega)⟩
    have isp : IsPr K H2 x px := (Paired.get hps hx hpx).same p2.s
    have tk : ((pairsL names).take (i + 1)).filter (fun p => !decide (p ∈ ties)) = ((pairsL names).take i).filter (fun p => !decide (p ∈ ties)) ++ [px].filter (fun p => !decide (p ∈ ties)) := by
      rw [List.take_succ, hpx, List.filter_append]
      rfl
    have s2 := s1.trans p2.s
    refine ⟨_, rfl, _, rfl, ta, tv, ties, px, rfl, .inr (s2.seqT h3), h4.same s2, isp, _, rfl, ?_⟩
    refine ite2 (fun c1 => ?_) (fun c1 => ?_)
    · have c2 : (!decide (px ∈ ties)) = true := c1
      obtain ⟨acc, hacc, hpr⟩ := id p2.v
      have hlen := Paired.length hpr
      refine ⟨_, rfl, acc, hacc, ?_, ?_⟩
      · rw [hlen]
        have e1 : (pairsL names).length ≤ 900 := pairs_le h14
        have e2 := List.length_filter_le (fun p => !decide (p ∈ ties)) ((pairsL names).take i)
        rw [List.length_take] at e2
        exact small1000 (by omega)
      · have e3 : [px].filter (fun p => !decide (p ∈ ties)) = [px] := by rw [List.filter_cons, c2]; rfl
        rw [tk, e3]
        exact p2.add hD hacc isp
    · have c2 : (!decide (px ∈ ties)) = false := Bool.eq_false_iff.mpr c1
      have e3 : [px].filter (fun p => !decide (p ∈ ties)) = [] := by rw [List.filter_cons, c2]; rfl
      rw [tk, e3, List.append_nil]
      exact p2
  · intro H2 p2
    have e : (pairsL names).take vs.length = pairsL names := List.take_of_length_le (by rw [Paired.length hps]; exact Nat.le_refl _)
    rw [e] at p2
    obtain ⟨us, hus, hpr⟩ := p2.v
    refine ⟨D, _, rfl, .inl ⟨SqL.of hus, fun t ht => ?_⟩⟩
    refine ⟨(by show 2 ≤ sizeLine; decide), fun r hr' => ?_⟩
    have s2 := (s1.trans p2.s).trans ((same_new ht (.tup us)).trans (same_new hr' (.tup [V.ref na, V.ref t])))
    refine q r _ s2 ⟨na, t, us, SqT.of upd_same, s2.seqT h2, SqT.of (by rw [upd_ne (ne_of_none upd_same hr')]; exact upd_same), hpr.same ((same_new ht _).trans (same_new hr' _))⟩
end
end K20

namespace K20
open PySem L2 Wd Wm Km Bm Gm
/-- the module's table of wishes -/
def Wsh (K : PySem.W.Frag) (w : World) (mg : Str → Option Value) : Prop := ∃ aW : Addr, mg "WANTS_TIE" = some (.ref aW) ∧ TopD K w aW ∧ PySem.W.nsIn K aW "tied" = some (some (.bool true)) ∧ PySem.W.nsIn K aW "apart" = some (some (.bool false))
section
variable {P : Program} {w : World} {K : PySem.W.Frag} {mg : Str → Option Value} {base : Heap}
/-! ### tie_table -/
def spTable (K : PySem.W.Frag) : Sp := fun vs H Q _ => ∃ (wa : Addr) (names : List Str) (ties : List SS), vs = [.ref wa] ∧ WebAt K H wa names ties ∧ ties.length ≤ 300 ∧
  ∀ (t : Addr) (kvs : List (List Key × V)) (H' : Hp), Same H H' → H t = none → H' t = some (.dT kvs) → Tbl ties kvs → Q (.ref t) H'
theorem sc_table : FnScope ["web", "table", "one", "other"] ["web"] (defScope s_tie_table) := ⟨rfl, rfl, rfl, by decide +kernel, rfl, by decide +kernel, by decide +kernel⟩
theorem ok_table {f : Addr} {fd : FuncData} (F : Fun K "tie_table" "tie_table" s_tie_table f fd) (T : Tx mg) : FnOk P w K mg base CX0 1 f fd ["web"] (spTable K) := by
  have nd := sc_table.nd
  refine F.ok sc_table (fun vs H Q E h => ?_) (fun cdv A outer s H vs Q E hr h => ?_)
  · obtain ⟨wa, names, ties, rfl, _⟩ := h
    rfl
  obtain ⟨wa, names, ties, rfl, wat, h300, q⟩ := h
  obtain ⟨na, ta, tv, h1, h2, h3, h4⟩ := wat.at_
  have ltv := Paired.length h4
  refine SB.use (bcons
  (bset (n := 1) nd rfl (Or.inl (by kernel_rfl)) ednewT (by kernel_rfl) (.inl rfl))
  (bcons
  (bfor PassesOwn.never rfl (itup (eix ix_tup (ev 0 rfl (Or.inl (by kernel_rfl)) (by kernel_rfl) (by kernel_rfl)) eint (fun _ _ => rfl))) (gtup (n := 2) rfl (gscons (gname (n := 2) nd rfl (Or.inl (by kernel_rfl)) (.inl rfl)) (gscons (gname (n := 3) nd rfl (Or.inl (by kernel_rfl)) (.inl rfl)) gsnil (by kernel_rfl)) (by kernel_rfl)) (by kernel_rfl) (by kernel_rfl)) (bcons
  (bdput hr.units (ev 1 rfl (Or.inl (by kernel_rfl)) (by kernel_rfl) (by kernel_rfl)) (etup (acons (ev 2 rfl (Or.inl (by kernel_rfl)) (by kernel_rfl) (by kernel_rfl)) (acons (ev 3 rfl (Or.inl (by kernel_rfl)) (by kernel_rfl) (by kernel_rfl)) anil (by kernel_rfl)) (by kernel_rfl))) ebl (by kernel_rfl))
  (bone
  (bdput hr.units (ev 1 rfl (Or.inl (by kernel_rfl)) (by kernel_rfl) (by kernel_rfl)) (etup (acons (ev 3 rfl (Or.inl (by kernel_rfl)) (by kernel_rfl) (by kernel_rfl)) (acons (ev 2 rfl (Or.inl (by kernel_rfl)) (by kernel_rfl) (by kernel_rfl)) anil (by kernel_rfl)) (by kernel_rfl))) ebl (by kernel_rfl)))) (by intro _; rfl))
  (bone
  (bret (ev 1 rfl (Or.inl (by kernel_rfl)) (by kernel_rfl) (by kernel_rfl)))))) ?_
  refine fun t ht => ?_
  have s1 := same_new ht (.dT [])
  refine ⟨_, rfl, wa, _, _, _, rfl, rfl, s1.seqT h1, rfl, ta, rfl, ⟨_, s1.seqT h3⟩, ?_⟩
  refine for_tup (K := K) (xs := tv) (fun i σ H2 => ∃ (kvs : List (List Key × V)) (x2 x3 : Option V), σ = [some (.ref wa), some (.ref t), x2, x3] ∧ Same H H2 ∧ H2 t = some (.dT kvs) ∧ Tbl (ties.take i) kvs ∧ kvs.length ≤ 2 * i) ⟨[], _, _, rfl, s1, upd_same, tbl_nil, Nat.le_refl _⟩ (fun i σ H2 _ ⟨_, _, _, _, z, _⟩ => z.seqT h3) ?_ ?_
  · rintro i v σ H2 hv ⟨kvs, x2, x3, rfl, s2, et, tb, hl⟩
    have hi : i < tv.length := (List.getElem?_eq_some_iff.mp hv).1
    obtain ⟨p, hp⟩ : ∃ p, ties[i]? = some p := ⟨ties[i]'(by omega), List.getElem?_eq_getElem (by omega)⟩
    obtain ⟨u, rfl, hu⟩ := Paired.get h4 hv hp
    have tk : ties.take (i + 1) = ties.take i ++ [p] := by rw [List.take_succ, hp]; rfl
    have l1 := length_putK kvs (k2 p.1 p.2) (.bl true)
    have l2 := length_putK (putK kvs (k2 p.1 p.2) (.bl true)) (k2 p.2 p.1) (.bl true)
    refine ⟨u, _, rfl, s2.seqT hu, rfl, _, _, rfl, _, _, rfl, rfl, ?_⟩
    refine ⟨_, rfl, _, rfl, _, rfl, (by show 2 ≤ sizeLine; decide), fun b hb => ?_⟩
    have et1 : (upd H2 b (.tup [.str p.1, .str p.2])) t = some (.dT kvs) := by rw [upd_ne (ne_of_none et hb)]; exact et
    refine ⟨t, _, rfl, DPut.t (k := k2 p.1 p.2) et1 upd_same (small1000 (by omega)), ?_⟩
    refine ⟨_, rfl, _, rfl, _, rfl, (by show 2 ≤ sizeLine; decide), fun b2 hb2 => ?_⟩
    have et2 : (upd (upd (upd H2 b (.tup [.str p.1, .str p.2])) t (.dT (putK kvs (k2 p.1 p.2) (.bl true)))) b2 (.tup [.str p.2, .str p.1])) t = some (.dT (putK kvs (k2 p.1 p.2) (.bl true))) := by rw [upd_ne (ne_of_none upd_same hb2)]; exact upd_same
    refine ⟨t, _, rfl, DPut.t (k := k2 p.2 p.1) et2 upd_same (small1000 (by omega)), ?_⟩
    refine ⟨_, _, _, rfl, ?_, upd_same, by rw [tk]; exact tbl_add tb p, by omega⟩
    intro x o e
    have n1 : x ≠ t := ne_of_none e ht
    have n2 : x ≠ b := ne_of_none (s2 x o e) hb
    have e1 : (upd (upd H2 b (.tup [.str p.1, .str p.2])) t (.dT (putK kvs (k2 p.1 p.2) (.bl true)))) x = some o := by rw [upd_ne n1, upd_ne n2]; exact s2 x o e
    rw [upd_ne n1, upd_ne (ne_of_none e1 hb2)]
    exact e1
  · rintro σ H2 ⟨kvs, x2, x3, rfl, s2, et, tb, hl⟩
    rw [ltv, List.take_length] at tb
    exact ⟨_, rfl, q t kvs H2 s2 ht et tb⟩
/-! ### goes_with -/
def spGoes (K : PySem.W.Frag) : Sp := fun vs H Q _ => ∃ (t ra : Addr) (kd : Kd) (x : Str) (ys : List Str) (ties : List SS) (kvs : List (List Key × V)), vs = [.ref t, .str kd.s, .str x, .ref ra] ∧ H t = some (.dT kvs) ∧ Tbl ties kvs ∧ kd ≠ .C ∧ (SqL K H ra (ys.map V.str) ∨ SqT K H ra (ys.map V.str)) ∧ ys.length ≤ 900 ∧
  ∀ H', Same H H' → Q (.bl (goB ties kd x ys)) H'
theorem sc_goes : FnScope ["table", "kind", "name", "row", "wanted", "other"] ["table", "kind", "name", "row"] (defScope s_goes_with) := ⟨rfl, rfl, rfl, by decide +kernel, rfl, by decide +kernel, by decide +kernel⟩
theorem ok_goes {f : Addr} {fd : FuncData} (F : Fun K "goes_with" "goes_with" s_goes_with f fd) (T : Tx mg) (C : Wsh K w mg) : FnOk P w K mg base CX0 1 f fd ["table", "kind", "name", "row"] (spGoes K) := by
  have nd := sc_goes.nd
  obtain ⟨aW, m_WANTS_TIE, w_WANTS_TIE, n1, n2⟩ := C
  refine F.ok sc_goes (fun vs H Q E h => ?_) (fun cdv A outer s H vs Q E hr h => ?_)
  · obtain ⟨t, ra, kd, x, ys, ties, kvs, rfl, _⟩ := h
    rfl
  obtain ⟨t, ra, kd, x, ys, ties, kvs, rfl, et, tb, nc, hy, h900, q⟩ := h
  refine SB.use (bcons
  (bset (n := 4) nd rfl (Or.inr (by kernel_rfl)) (etop (by unfold Gl; kernel_rfl) m_WANTS_TIE w_WANTS_TIE (by kernel_rfl) (ev 1 rfl (Or.inl (by kernel_rfl)) (by kernel_rfl) (by kernel_rfl)) (fun _ _ => rfl)) (by kernel_rfl) (.inl rfl))
  (bone
  (bret (ecallB (cr_all rfl) (by unfold Gl; kernel_rfl) T.all L2.boot_all (acons (elc (own := [("other", 5)]) (g := gName 5) (by rfl) nd (iseq (ilist (ev 3 rfl (Or.inl (by kernel_rfl)) (by kernel_rfl) (by kernel_rfl))) (itup (ev 3 rfl (Or.inl (by kernel_rfl)) (by kernel_rfl) (by kernel_rfl)))) (blkOk_by (own := [("other", 5)]) (N := ["table", "kind", "name", "row", "wanted", "other"]) (sc := defScope s_goes_with) (by decide +kernel)) (fun _ _ _ _ _ => (gname (n := 5) nd rfl (Or.inl (by kernel_rfl)) (.inr (by kernel_rfl)))) (fun _ _ _ _ _ => unil) (fun _ _ _ _ _ => (ecmp op_eq (edin hr.units (etup (acons (ev 2 rfl (Or.inr (Or.inl (by kernel_rfl))) (by kernel_rfl) (by kernel_rfl)) (acons (ev 5 rfl (Or.inl (by kernel_rfl)) (by kernel_rfl) (by kernel_rfl)) anil (by kernel_rfl)) (by kernel_rfl))) (ev 0 rfl (Or.inr (Or.inl (by kernel_rfl))) (by kernel_rfl) (by kernel_rfl)) (by kernel_rfl)) (ev 4 rfl (Or.inr (Or.inl (by kernel_rfl))) (by kernel_rfl) (by kernel_rfl)) (nomark _))) (by intro _; rfl)) anil (by kernel_rfl)) (by decide +kernel) (by kernel_rfl) (by kernel_rfl) (by kernel_rfl))))) ?_
  obtain ⟨u, hu⟩ : ∃ u, PySem.W.nsIn K aW kd.s = some (some u) ∧ RelV (.bl (want kd)) u := by
    cases kd with
    | T => exact ⟨_, n1, rfl⟩
    | A => exact ⟨_, n2, rfl⟩
    | C => exact absurd rfl nc
  refine ⟨_, rfl, kd.s, .bl (want kd), u, rfl, hu.1, hu.2, ?_⟩
  have step : ∀ (D : Addr), H D = none → ∀ (i : Nat) (v : V) (H2 : Hp), (ys.map V.str)[i]? = some v → Same H H2 → H2 D = some (.lst (((ys.take i).map fun y => decide (V.bl (decide (Tie ties x y)) = V.bl (want kd))).map V.bl)) →
      ∃ y, v = .str y ∧ ∀ b, H2 b = none → DGet (upd H2 b (.tup [.str x, .str y])) t (.ref b) (valV kvs (k2 x y)) ∧ (valV kvs (k2 x y)).isSome = decide (Tie ties x y) ∧
        ∃ acc, (upd H2 b (.tup [.str x, .str y])) D = some (.lst acc) ∧ acc.length < sizeLine ∧ Same H (upd (upd H2 b (.tup [.str x, .str y])) D (.lst (acc ++ [V.bl (decide (V.bl (valV kvs (k2 x y)).isSome = V.bl (want kd)))]))) ∧
          (upd (upd H2 b (.tup [.str x, .str y])) D (.lst (acc ++ [V.bl (decide (V.bl (valV kvs (k2 x y)).isSome = V.bl (want kd)))]))) D = some (.lst (((ys.take (i + 1)).map fun y => decide (V.bl (decide (Tie ties x y)) = V.bl (want kd))).map V.bl)) := by
    intro D hD i v H2 hv s2 eD
    obtain ⟨y, hy', rfl⟩ := str_at hv
    have hi : i < ys.length := (List.getElem?_eq_some_iff.mp hy').1
    refine ⟨y, rfl, fun b hb => ⟨DGet.t (by rw [upd_ne (ne_of_none (s2 _ _ et) hb)]; exact s2 _ _ et) upd_same, tb x y, _, by rw [upd_ne (ne_of_none eD hb)]; exact eD, ?_, ?_, ?_⟩⟩
    · rw [List.length_map, List.length_map, List.length_take]
      exact small1000 (by omega)
    · intro z o e
      rw [upd_ne (ne_of_none e hD), upd_ne (ne_of_none (s2 z o e) hb)]
      exact s2 z o e
    · have tk : ys.take (i + 1) = ys.take i ++ [y] := by rw [List.take_succ, hy']; rfl
      rw [upd_same, tb x y, tk, List.map_append, List.map_append]
      rfl
  have fin : ∀ (D : Addr) (H2 : Hp), Same H H2 → H2 D = some (.lst (((ys.take (ys.map V.str).length).map fun y => decide (V.bl (decide (Tie ties x y)) = V.bl (want kd))).map V.bl)) → rAll K [.ref D] H2 Q := fun D H2 s2 eD => by
    rw [List.length_map, List.take_length] at eD
    exact ⟨D, _, rfl, SqL.of eD, q H2 s2⟩
  rcases hy with hy | hy
  · refine .inl ⟨_, rfl, ra, rfl, ⟨_, hy⟩, fun D hD => ?_⟩
    refine lc_list (xs := ys.map V.str) (fun i H2 => Same H H2 ∧ H2 D = some (.lst (((ys.take i).map fun y => decide (V.bl (decide (Tie ties x y)) = V.bl (want kd))).map V.bl))) ⟨same_new hD _, upd_same⟩ (fun i H2 _ p => p.1.seq hy) ?_ (fun H2 p => fin D H2 p.1 p.2)
    rintro i v H2 hv ⟨s2, eD⟩
    obtain ⟨y, rfl, hst⟩ := step D hD i v H2 hv s2 eD
    refine ⟨rfl, tyes ⟨_, rfl, _, rfl, (by show 2 ≤ sizeLine; decide), fun b hb => ?_⟩⟩
    obtain ⟨g1, _, g3⟩ := hst b hb
    refine ⟨_, rfl, t, _, rfl, g1, _, rfl, rfl, ?_⟩
    exact g3
  · refine .inr ⟨_, rfl, ra, rfl, ⟨_, hy⟩, fun D hD => ?_⟩
    refine lc_tup (xs := ys.map V.str) (fun i H2 => Same H H2 ∧ H2 D = some (.lst (((ys.take i).map fun y => decide (V.bl (decide (Tie ties x y)) = V.bl (want kd))).map V.bl))) ⟨same_new hD _, upd_same⟩ (fun i H2 _ p => p.1.seqT hy) ?_ (fun H2 p => fin D H2 p.1 p.2)
    rintro i v H2 hv ⟨s2, eD⟩
    obtain ⟨y, rfl, hst⟩ := step D hD i v H2 hv s2 eD
    refine ⟨rfl, tyes ⟨_, rfl, _, rfl, (by show 2 ≤ sizeLine; decide), fun b hb => ?_⟩⟩
    obtain ⟨g1, _, g3⟩ := hst b hb
    refine ⟨_, rfl, t, _, rfl, g1, _, rfl, rfl, ?_⟩
    exact g3
end
end K20

namespace K20
open PySem L2 Wd Wm Km Bm Gm Hm Fm
section
variable {P : Program} {w : World} {K : PySem.W.Frag} {mg : Str → Option Value} {base : Heap}
/-! ### grown -/
def spGrow (K : PySem.W.Frag) : Sp := fun vs H Q _ => ∃ (wa t ra : Addr) (kd : Kd) (names xs : List Str) (ties : List SS) (kvs : List (List Key × V)), vs = [.ref wa, .ref t, .str kd.s, .ref ra] ∧ WebAt K H wa names ties ∧ WebOk names ties ∧ names.length ≤ 14 ∧ H t = some (.dT kvs) ∧ Tbl ties kvs ∧ kd ≠ .C ∧ SqT K H ra (xs.map V.str) ∧ xs.Sublist names ∧ isK ties kd xs ∧
  ∀ (r : Addr) (H' : Hp), Same H H' → H r = none → H' r = some (.tup ((filL names ties kd xs).map V.str)) → Q (.ref r) H'
theorem sc_grow : FnScope ["web", "table", "kind", "row", "held", "name"] ["web", "table", "kind", "row"] (defScope s_grown) := ⟨rfl, rfl, rfl, by decide +kernel, rfl, by decide +kernel, by decide +kernel⟩
theorem ok_grow {f : Addr} {fd : FuncData} (F : Fun K "grown" "grown" s_grown f fd) (T : Tx mg) (oG : Own P w K mg base 1 "goes_with" ["table", "kind", "name", "row"] (spGoes K)) :
    FnOk P w K mg base CX0 2 f fd ["web", "table", "kind", "row"] (spGrow K) := by
  have nd := sc_grow.nd
  obtain ⟨f5, fd5, G_goes_with, b_goes_with, k_goes_with, m_goes_with⟩ := oG
  refine F.ok sc_grow (fun vs H Q E h => ?_) (fun cdv A outer s H vs Q E hr h => ?_)
  · obtain ⟨wa, t, ra, kd, names, xs, ties, kvs, rfl, _⟩ := h
    rfl
  have hr_goes_with := hr
  obtain ⟨wa, t, ra, kd, names, xs, ties, kvs, rfl, wat, wok, h14, et, tb, ck, hra, sub, isk, q⟩ := h
  have lx := sub.length_le
  obtain ⟨na, ta, tv, h1, h2, h3, h4⟩ := wat.at_
  refine SB.use (bcons
  (bset (n := 4) nd rfl (Or.inl (by kernel_rfl)) (ecallT call_list_of (by unfold Gl; kernel_rfl) T.list L2.boot_list (acons (ev 3 rfl (Or.inl (by kernel_rfl)) (by kernel_rfl) (by kernel_rfl)) anil (by kernel_rfl)) (by decide +kernel) (by kernel_rfl) (by kernel_rfl) (by kernel_rfl)) (by kernel_rfl) (.inl rfl))
  (bcons
  (bfor PassesOwn.never rfl (itup (eix ix_tup (ev 0 rfl (Or.inl (by kernel_rfl)) (by kernel_rfl) (by kernel_rfl)) eint (fun _ _ => rfl))) (gname (n := 5) nd rfl (Or.inl (by kernel_rfl)) (.inl rfl)) (bone
  (bifs (tw (wand (tcmp op_notIn_seq (ev 5 rfl (Or.inl (by kernel_rfl)) (by kernel_rfl) (by kernel_rfl)) (ev 4 rfl (Or.inl (by kernel_rfl)) (by kernel_rfl) (by kernel_rfl)) (by kernel_rfl)) (wand1 (tval (ecall G_goes_with hr_goes_with (by unfold Gl; kernel_rfl) m_goes_with k_goes_with b_goes_with .nil pass0 (acons (ev 1 rfl (Or.inl (by kernel_rfl)) (by kernel_rfl) (by kernel_rfl)) (acons (ev 2 rfl (Or.inl (by kernel_rfl)) (by kernel_rfl) (by kernel_rfl)) (acons (ev 5 rfl (Or.inl (by kernel_rfl)) (by kernel_rfl) (by kernel_rfl)) (acons (ev 4 rfl (Or.inl (by kernel_rfl)) (by kernel_rfl) (by kernel_rfl)) anil (by kernel_rfl)) (by kernel_rfl)) (by kernel_rfl)) (by kernel_rfl)) (by kernel_rfl) (by kernel_rfl) (by kernel_rfl)) (by intro _; rfl))))) (bone
  (bexpr (ebm PySem.F.plainAttrs_list PySem.F.slot_list_append PySem.F.type_list_append mt_append (ev 4 rfl (Or.inl (by kernel_rfl)) (by kernel_rfl) (by kernel_rfl)) (acons (ev 5 rfl (Or.inl (by kernel_rfl)) (by kernel_rfl) (by kernel_rfl)) anil (by kernel_rfl)) (by kernel_rfl) (by kernel_rfl) (by kernel_rfl) (by kernel_rfl) (by kernel_rfl)) (by kernel_rfl))) bnil)) (by intro _; rfl))
  (bone
  (bret (ecallT call_tuple_of (by unfold Gl; kernel_rfl) T.tuple L2.boot_tuple (acons (ecallB cr_sortedS (by unfold Gl; kernel_rfl) T.sorted L2.boot_sorted (acons (ev 4 rfl (Or.inl (by kernel_rfl)) (by kernel_rfl) (by kernel_rfl)) anil (by kernel_rfl)) (by decide +kernel) (by kernel_rfl) (by kernel_rfl) (by kernel_rfl)) anil (by kernel_rfl)) (by decide +kernel) (by kernel_rfl) (by kernel_rfl) (by kernel_rfl)))))) ?_
  refine ⟨_, rfl, ra, _, rfl, .inr (hra), fun l hl => ?_⟩
  have nl : H l = none := hl
  have s3 := same_new hl (.lst (xs.map V.str))
  refine ⟨_, rfl, wa, _, _, _, rfl, rfl, s3.seqT h1, rfl, na, rfl, ⟨_, s3.seqT h2⟩, ?_⟩
  have hd0 := Hd.start wok sub isk
  have lt' : t ≠ l := ne_of_none et hl
  refine for_tup (K := K) (xs := names.map V.str) (fun i σ G => ∃ (x5 : Option V), σ = [some (.ref wa), some (.ref t), some (.str kd.s), some (.ref ra), some (.ref l), x5] ∧ Same H G ∧ G t = some (.dT kvs) ∧ G l = some (.lst ((fillL ties kd (names.take i) xs).map V.str))) ⟨_, rfl, s3, by rw [upd_ne lt']; exact et, upd_same⟩ (fun i σ G _ ⟨_, _, z, _⟩ => z.seqT h2) ?_ ?_
  · rintro i v σ G hv ⟨x5, rfl, s4, et4, el4⟩
    obtain ⟨x, hx, rfl⟩ := str_at hv
    have hxn : x ∈ names := List.mem_of_getElem? hx
    have hd := hd0.fill wok ck (ns := names.take i) fun y hy => List.mem_of_mem_take hy
    rw [fill_take hx]
    have hlen := hd.len
    generalize fillL ties kd (names.take i) xs = held at el4 hd hlen
    refine ⟨_, rfl, _, rfl, l, _, rfl, .inl (SqL.of el4), rfl, flat_strs _, _, rfl, ?_⟩
    show if (!inV (V.str x) (held.map V.str)) = true then _ else _
    rw [in_strs]
    unfold stF
    refine ite2 (fun c => ?_) (fun c => ?_)
    · refine ⟨_, rfl, _, rfl, _, rfl, _, rfl, t, l, kd, x, held, ties, kvs, rfl, et4, tb, ck, .inl (SqL.of el4), by omega, fun G2 s5 => ⟨_, rfl, ?_⟩⟩
      rw [c, Bool.true_and]
      refine ite2 (fun c2 => ?_) (fun c2 => ?_)
      · rw [if_pos c2]
        refine ⟨_, rfl, .inl ⟨rfl, _, SqL.of (s5 _ _ el4)⟩, _, rfl, l, _, _, rfl, rfl, s5 _ _ el4, (by rw [List.length_map]; exact small1000 (by omega)), ?_⟩
        refine ⟨_, rfl, fun z o e => by rw [upd_ne (ne_of_none e nl)]; exact (s4.trans s5) z o e, by rw [upd_ne lt']; exact s5 _ _ et4, by rw [upd_same, List.map_append]; rfl⟩
      · rw [if_neg c2]
        exact ⟨_, rfl, s4.trans s5, s5 _ _ et4, s5 _ _ el4⟩
    · rw [Bool.eq_false_iff.mpr c, Bool.false_and]
      exact ⟨_, rfl, s4, et4, el4⟩
  · rintro σ G ⟨x5, rfl, s4, et4, el4⟩
    rw [List.length_map, List.take_length] at el4
    have hd := hd0.fill wok ck (ns := names) fun y hy => hy
    have hlen := hd.len
    have ef := fil_no (names := names) (ties := ties) (row := xs) ck
    generalize fillL ties kd names xs = held at el4 hd hlen ef
    refine ⟨_, rfl, l, held, rfl, SqL.of el4, by omega, fun ys p perm so hp => ?_⟩
    rw [sorted_kN wok.ns perm so hd.nd hd.sub, ← ef]
    refine ⟨p, _, rfl, .inl ⟨SqL.of upd_same, fun r hr' => ?_⟩⟩
    have s5 := s4.trans (same_new hp (.lst ((filL names ties kd xs).map V.str)))
    exact q r _ (s5.trans (same_new hr' _)) (s5.free hr') upd_same
end
end K20

namespace K20
open PySem L2 Wd Wm Km Bm Gm Zm
section
variable {P : Program} {w : World} {K : PySem.W.Frag} {mg : Str → Option Value} {base : Heap}
theorem go_one {ties : List SS} {kd : Kd} {y x : Str} (ne : y ≠ x) : goB ties kd y [x] = gK ties kd x y := by
  rw [goB_K (by simpa using ne), (gr_K ties kd).sy x y]
  simp
/-! ### begun_row -/
def spBegun (K : PySem.W.Frag) : Sp := fun vs H Q _ => ∃ (t ra : Addr) (kd : Kd) (r : List Str) (x : Str) (ties : List SS) (kvs : List (List Key × V)), vs = [.ref t, .str kd.s, .ref ra, .str x] ∧ H t = some (.dT kvs) ∧ Tbl ties kvs ∧ kd ≠ .C ∧ SqT K H ra (r.map V.str) ∧ r.length ≤ 900 ∧
  ∀ (p : Addr) (H' : Hp), Same H H' → H p = none → H' p = some (.tup ((behindA (gK ties kd) r x).map V.str)) → Q (.ref p) H'
theorem sc_begun : FnScope ["table", "kind", "row", "name", "ahead", "other"] ["table", "kind", "row", "name"] (defScope s_begun_row) := ⟨rfl, rfl, rfl, by decide +kernel, rfl, by decide +kernel, by decide +kernel⟩
theorem ok_begun {f : Addr} {fd : FuncData} (F : Fun K "begun_row" "begun_row" s_begun_row f fd) (T : Tx mg) (oG : Own P w K mg base 1 "goes_with" ["table", "kind", "name", "row"] (spGoes K)) : FnOk P w K mg base CX0 2 f fd ["table", "kind", "row", "name"] (spBegun K) := by
  have nd := sc_begun.nd
  obtain ⟨f1, fd1, G_goes_with, b_goes_with, k_goes_with, m_goes_with⟩ := oG
  refine F.ok sc_begun (fun vs H Q E h => ?_) (fun cdv A outer s H vs Q E hr h => ?_)
  · obtain ⟨t, ra, kd, r, x, ties, kvs, rfl, _⟩ := h
    rfl
  have hr_goes_with := hr
  obtain ⟨t, ra, kd, r, x, ties, kvs, rfl, ht, tb, hk, hra, h900, q⟩ := h
  refine SB.use (bcons
  (bsetLc (n := 4) (own := [("other", 5)]) (g := gName 5) (by rfl) nd rfl rfl (sw_true rfl rfl rfl (by decide +kernel)) (itup (ev 2 rfl (Or.inl (by kernel_rfl)) (by kernel_rfl) (by kernel_rfl))) (blkOk_by (own := [("other", 5)]) (N := ["table", "kind", "row", "name", "ahead", "other"]) (sc := defScope s_begun_row) (by decide +kernel)) (fun _ _ _ _ _ => (gname (n := 5) nd rfl (Or.inl (by kernel_rfl)) (.inr (by kernel_rfl)))) (fun _ _ _ _ _ => (uone (tw (wand (tcmp op_lt_str (ev 5 rfl (Or.inl (by kernel_rfl)) (by kernel_rfl) (by kernel_rfl)) (ev 3 rfl (Or.inr (Or.inl (by kernel_rfl))) (by kernel_rfl) (by kernel_rfl)) (nomark _)) (wand1 (tval (ecall G_goes_with hr_goes_with (by unfold Gl; kernel_rfl) m_goes_with k_goes_with b_goes_with .nil pass0 (acons (ev 0 rfl (Or.inr (Or.inl (by kernel_rfl))) (by kernel_rfl) (by kernel_rfl)) (acons (ev 1 rfl (Or.inr (Or.inl (by kernel_rfl))) (by kernel_rfl) (by kernel_rfl)) (acons (ev 5 rfl (Or.inl (by kernel_rfl)) (by kernel_rfl) (by kernel_rfl)) (acons (etup (acons (ev 3 rfl (Or.inr (Or.inl (by kernel_rfl))) (by kernel_rfl) (by kernel_rfl)) anil (by kernel_rfl))) anil (by kernel_rfl)) (by kernel_rfl)) (by kernel_rfl)) (by kernel_rfl)) (by kernel_rfl) (by kernel_rfl) (by kernel_rfl)) (by intro _; rfl))))))) (fun _ _ _ _ _ => (ev 5 rfl (Or.inl (by kernel_rfl)) (by kernel_rfl) (by kernel_rfl))) (by intro _; rfl))
  (bone
  (bret (etup (acons_star (ev 4 rfl (Or.inl (by kernel_rfl)) (by kernel_rfl) (by kernel_rfl)) (acons (ev 3 rfl (Or.inr (Or.inl (by kernel_rfl))) (by kernel_rfl) (by kernel_rfl)) anil (by kernel_rfl)) (by kernel_rfl)))))) ?_
  refine ⟨_, rfl, ra, rfl, ⟨_, hra⟩, fun D hD => ?_⟩
  refine lcs_tup (xs := r) (v := V.str) (p := fun y => decide (y.cps.toList < x.cps.toList) && gK ties kd x y) (f' := id) (W' := fun _ u b => u = V.str b) (fun _ _ _ _ h _ => h) (fun _ _ _ _ _ h _ => h) hD hra (by omega) (fun _ => rfl) ?_ ?_ ?_
  · intro y hy G sg R hR
    refine ⟨_, rfl, _, rfl, _, _, rfl, rfl, _, rfl, ite2 (fun c => ?_) (fun c => ?_)⟩
    · have ne : y ≠ x := fun e => by rw [e] at c; exact sLt_irr _ (of_decide_eq_true c)
      refine ⟨_, rfl, _, rfl, _, rfl, _, rfl, (by show 1 ≤ sizeLine; decide), fun nt hnt => ?_⟩
      have s2 := same_new hnt (.tup [V.str x])
      refine ⟨t, nt, kd, y, [x], ties, kvs, rfl, s2 _ _ (sg _ _ ht), tb, hk, .inr (SqT.of upd_same), (by show 1 ≤ 900; decide), fun G2 sg2 => ⟨_, rfl, ?_⟩⟩
      rw [go_one ne]
      have := hR G2 (s2.trans sg2)
      rw [c, Bool.true_and] at this
      exact this
    · have := hR G (Same.refl _)
      rw [Bool.eq_false_iff.mpr c] at this
      exact this
  · intro y hy c G sg R hR
    exact ⟨_, rfl, hR G _ (Same.refl _) rfl⟩
  · intro G us sg hus hpr
    have eus : us = (r.filter fun y => decide (y.cps.toList < x.cps.toList) && gK ties kd x y).map V.str := by
      have : ∀ {l : List V} {m : List Str}, Paired (fun u b => u = V.str b) l m → l = m.map V.str := fun h => by
        induction h with
        | nil => rfl
        | cons h _ ih => rw [h, ih]; rfl
      have z := this hpr
      rw [List.map_id] at z
      exact z
    subst eus
    refine ⟨_, rfl, D, _, rfl, SqL.of hus, _, rfl, ?_, fun p hp => ?_⟩
    · have l1 := List.length_filter_le (fun y => decide (y.cps.toList < x.cps.toList) && gK ties kd x y) r
      rw [List.length_append, List.length_map, sizeLine_eq]
      show _ + 1 ≤ _
      omega
    · refine q p _ (sg.trans (same_new hp _)) (sg.free hp) ?_
      rw [upd_same]
      unfold behindA
      rw [List.map_append]
      rfl
/-! ### is_full_ahead -/
def spFull (K : PySem.W.Frag) : Sp := fun vs H Q _ => ∃ (wa t ra : Addr) (kd : Kd) (r : List Str) (x : Str) (names : List Str) (ties : List SS) (kvs : List (List Key × V)), vs = [.ref wa, .ref t, .str kd.s, .ref ra, .str x] ∧ WebAt K H wa names ties ∧ names.length ≤ 900 ∧ H t = some (.dT kvs) ∧ Tbl ties kvs ∧ kd ≠ .C ∧ SqT K H ra (r.map V.str) ∧ r.length ≤ 900 ∧
  ∀ H', Same H H' → Q (.bl (fullB names (gK ties kd) r x)) H'
theorem sc_full : FnScope ["web", "table", "kind", "row", "name", "ahead", "other"] ["web", "table", "kind", "row", "name"] (defScope s_is_full_ahead) := ⟨rfl, rfl, rfl, by decide +kernel, rfl, by decide +kernel, by decide +kernel⟩
theorem ok_full {f : Addr} {fd : FuncData} (F : Fun K "is_full_ahead" "is_full_ahead" s_is_full_ahead f fd) (T : Tx mg) (oG : Own P w K mg base 1 "goes_with" ["table", "kind", "name", "row"] (spGoes K)) : FnOk P w K mg base CX0 2 f fd ["web", "table", "kind", "row", "name"] (spFull K) := by
  have nd := sc_full.nd
  obtain ⟨f1, fd1, G_goes_with, b_goes_with, k_goes_with, m_goes_with⟩ := oG
  refine F.ok sc_full (fun vs H Q E h => ?_) (fun cdv A outer s H vs Q E hr h => ?_)
  · obtain ⟨wa, t, ra, kd, r, x, names, ties, kvs, rfl, _⟩ := h
    rfl
  have hr_goes_with := hr
  obtain ⟨wa, t, ra, kd, r, x, names, ties, kvs, rfl, wat, hn9, ht, tb, hk, hra, h900, q⟩ := h
  obtain ⟨na, ta, tv, h1, h2, h3, h4⟩ := id wat.at_
  refine SB.use (bcons
  (bsetLc (n := 5) (own := [("other", 6)]) (g := gName 6) (by rfl) nd rfl rfl (sw_true rfl rfl rfl (by decide +kernel)) (itup (eix ix_tup (ev 0 rfl (Or.inl (by kernel_rfl)) (by kernel_rfl) (by kernel_rfl)) eint (fun _ _ => rfl))) (blkOk_by (own := [("other", 6)]) (N := ["web", "table", "kind", "row", "name", "ahead", "other"]) (sc := defScope s_is_full_ahead) (by decide +kernel)) (fun _ _ _ _ _ => (gname (n := 6) nd rfl (Or.inl (by kernel_rfl)) (.inr (by kernel_rfl)))) (fun _ _ _ _ _ => (uone (tw (wand (tcmp op_lt_str (ev 6 rfl (Or.inl (by kernel_rfl)) (by kernel_rfl) (by kernel_rfl)) (ev 4 rfl (Or.inr (Or.inl (by kernel_rfl))) (by kernel_rfl) (by kernel_rfl)) (nomark _)) (wand1 (tcmp (op_notIn_seqK (K := K) rfl) (ev 6 rfl (Or.inl (by kernel_rfl)) (by kernel_rfl) (by kernel_rfl)) (ev 3 rfl (Or.inr (Or.inl (by kernel_rfl))) (by kernel_rfl) (by kernel_rfl)) (by kernel_rfl))))))) (fun _ _ _ _ _ => (ev 6 rfl (Or.inl (by kernel_rfl)) (by kernel_rfl) (by kernel_rfl))) (by intro _; rfl))
  (bone
  (bret (enot (ecallB (cr_any rfl) (by unfold Gl; kernel_rfl) T.any L2.boot_any (acons (elc (own := [("other", 6)]) (g := gName 6) (by rfl) nd (ilist (ev 5 rfl (Or.inl (by kernel_rfl)) (by kernel_rfl) (by kernel_rfl))) (blkOk_by (own := [("other", 6)]) (N := ["web", "table", "kind", "row", "name", "ahead", "other"]) (sc := defScope s_is_full_ahead) (by decide +kernel)) (fun _ _ _ _ _ => (gname (n := 6) nd rfl (Or.inl (by kernel_rfl)) (.inr (by kernel_rfl)))) (fun _ _ _ _ _ => unil) (fun _ _ _ _ _ => (ecall G_goes_with hr_goes_with (by unfold Gl; kernel_rfl) m_goes_with k_goes_with b_goes_with .nil pass0 (acons (ev 1 rfl (Or.inr (Or.inl (by kernel_rfl))) (by kernel_rfl) (by kernel_rfl)) (acons (ev 2 rfl (Or.inr (Or.inl (by kernel_rfl))) (by kernel_rfl) (by kernel_rfl)) (acons (ev 6 rfl (Or.inl (by kernel_rfl)) (by kernel_rfl) (by kernel_rfl)) (acons (ev 3 rfl (Or.inr (Or.inl (by kernel_rfl))) (by kernel_rfl) (by kernel_rfl)) anil (by kernel_rfl)) (by kernel_rfl)) (by kernel_rfl)) (by kernel_rfl)) (by kernel_rfl) (by kernel_rfl) (by kernel_rfl))) (by intro _; rfl)) anil (by kernel_rfl)) (by decide +kernel) (by kernel_rfl) (by kernel_rfl) (by kernel_rfl)))))) ?_
  refine ⟨_, rfl, wa, _, _, _, rfl, rfl, h1, rfl, na, rfl, ⟨_, h2⟩, fun D hD => ?_⟩
  refine lcp_tup (xs := names) (v := V.str) (f := V.str) (p := fun y => decide (y.cps.toList < x.cps.toList) && !decide (y ∈ r)) hD h2 (by omega) (fun _ => rfl) ?_ ?_ ?_
  · intro y hy G sg R hR
    refine ⟨_, rfl, _, rfl, _, _, rfl, rfl, _, rfl, ite2 (fun c => ?_) (fun c => ?_)⟩
    · refine ⟨_, rfl, _, rfl, ra, _, rfl, .inr (sg.seqT hra), rfl, flat_strs _, _, rfl, ?_⟩
      rw [in_strs]
      rw [c, Bool.true_and] at hR
      exact hR
    · rw [Bool.eq_false_iff.mpr c] at hR
      exact hR
  · intro y hy c G sg R hR
    exact ⟨_, rfl, hR⟩
  have s1 := same_new hD (.lst ((names.filter fun y => decide (y.cps.toList < x.cps.toList) && !decide (y ∈ r)).map V.str))
  have hD1 := at_new hD (.lst ((names.filter fun y => decide (y.cps.toList < x.cps.toList) && !decide (y ∈ r)).map V.str))
  generalize upd H D (.lst ((names.filter fun y => decide (y.cps.toList < x.cps.toList) && !decide (y ∈ r)).map V.str)) = H1 at s1 hD1 ⊢
  have lf := List.length_filter_le (fun y => decide (y.cps.toList < x.cps.toList) && !decide (y ∈ r)) names
  have hnot : ∀ y ∈ names.filter (fun y => decide (y.cps.toList < x.cps.toList) && !decide (y ∈ r)), y ∉ r := fun y hy => by
    have := (List.mem_filter.mp hy).2
    rw [Bool.and_eq_true] at this
    simpa using this.2
  refine ⟨_, rfl, D, rfl, ⟨_, SqL.of hD1⟩, fun D2 hD2 => ?_⟩
  refine lcs_list (xs := names.filter fun y => decide (y.cps.toList < x.cps.toList) && !decide (y ∈ r)) (v := V.str) (p := fun _ => true) (f' := fun y => r.all (gK ties kd y)) (W' := fun _ u b => u = V.bl b) (fun _ _ _ _ h _ => h) (fun _ _ _ _ _ h _ => h) hD2 (SqL.of hD1) (by omega) (fun _ => rfl) ?_ ?_ ?_
  · intro y hy G sg R hR
    exact hR _ (Same.refl _)
  · intro y hy _ G sg R hR
    have sg2 := s1.trans sg
    refine ⟨_, rfl, _, rfl, _, rfl, _, rfl, t, ra, kd, y, r, ties, kvs, rfl, sg2 _ _ ht, tb, hk, .inr (sg2.seqT hra), h900, fun G2 s2 => ?_⟩
    rw [goB_K (hnot y hy)]
    exact hR G2 _ s2 rfl
  · intro G us sg hus hpr
    have eus : us = ((names.filter fun y => decide (y.cps.toList < x.cps.toList) && !decide (y ∈ r)).map fun y => r.all (gK ties kd y)).map V.bl := by
      have : ∀ {l : List V} {m : List Bool}, Paired (fun u b => u = V.bl b) l m → l = m.map V.bl := fun h => by
        induction h with
        | nil => rfl
        | cons h _ ih => rw [h, ih]; rfl
      have z := this hpr
      rw [List.filter_eq_self.mpr (fun _ _ => rfl)] at z
      exact z
    subst eus
    exact ⟨D2, _, rfl, SqL.of hus, _, rfl, q G (s1.trans sg)⟩
end
end K20

namespace K20
open PySem L2 Wd Wm Km Bm Gm Hm Fm Zm PyProof.Rows
def wflds (wa t qa fo : Addr) (kd : Kd) (n : Int) : List (Str × V) := [("web", .ref wa), ("kind", .str kd.s), ("table", .ref t), ("queue", .ref qa), ("found", .ref fo), ("filled_times", .int n)]
/-- a walk stands at a: k rows were told -/
structure Wlk (K : PySem.W.Frag) (C : Addr) (H : Hp) (a wa t qa fo : Addr) (names : List Str) (ties : List SS) (kd : Kd) (D : List (List Str)) (k : Nat) : Prop where
  ob : ∃ dx, H a = some (.ins C dx (wflds wa t qa fo kd (fils names (gK ties kd) D k : Nat)))
  web : WebAt K H wa names ties
  tab : ∃ kvs, H t = some (.dT kvs) ∧ Tbl ties kvs
  q : ∃ (us : List V) (W F : List (List Str)) (kw : List (List Key × V)), H qa = some (.lst us) ∧ RwE H us W ∧ Wk names (gK ties kd) D k W ∧ H fo = some (.dT kw) ∧ Keys kw F ∧ ∀ r, r ∈ F ↔ r ∈ W ∨ r ∈ D.take k
  ne : t ≠ fo
theorem Wlk.keep {K : PySem.W.Frag} {C : Addr} {H H' : Hp} {a wa t qa fo : Addr} {names : List Str} {ties : List SS} {kd : Kd} {D : List (List Str)} {k : Nat} (h : Wlk K C H a wa t qa fo names ties kd D k) (kt : KeepT H H') (e : ∀ b ∈ [a, t, qa, fo], ∀ o, H b = some o → H' b = some o) : Wlk K C H' a wa t qa fo names ties kd D k := by
  obtain ⟨⟨dx, h1⟩, h2, ⟨kvs, h3, h4⟩, ⟨us, W, F, kw, q1, q2, q3, q4, q5⟩, ne⟩ := h
  exact ⟨⟨dx, e a (by simp) _ h1⟩, h2.keep kt, ⟨kvs, e t (by simp) _ h3, h4⟩, ⟨us, W, F, kw, e qa (by simp) _ q1, q2.keep kt, q3, e fo (by simp) _ q4, q5⟩, ne⟩
theorem Wlk.same {K : PySem.W.Frag} {C : Addr} {H H' : Hp} {a wa t qa fo : Addr} {names : List Str} {ties : List SS} {kd : Kd} {D : List (List Str)} {k : Nat} (h : Wlk K C H a wa t qa fo names ties kd D k) (s : Same H H') : Wlk K C H' a wa t qa fo names ties kd D k := h.keep s.keepT fun b _ o e => s b o e
end K20

namespace K20
open PySem L2 Wd Wm Km Bm Gm Hm Fm Zm
section
variable {P : Program} {w : World} {K : PySem.W.Frag} {mg : Str → Option Value} {base : Heap}
/-! ### rows_led_to -/
def spLed (K : PySem.W.Frag) : Sp := fun vs H Q _ => ∃ (wa t ra : Addr) (kd : Kd) (names S : List Str) (ties : List SS) (kvs : List (List Key × V)), vs = [.ref wa, .ref t, .str kd.s, .ref ra] ∧ WebAt K H wa names ties ∧ WebOk names ties ∧ names.length ≤ 14 ∧ H t = some (.dT kvs) ∧ Tbl ties kvs ∧ kd ≠ .C ∧ SqT K H ra (S.map V.str) ∧ S.Sublist names ∧ Mxc names (gK ties kd) S ∧
  ∀ (r : Addr) (us : List V) (H' : Hp), Same H H' → H r = none → H' r = some (.lst us) → RwE H' us (ledL names (gK ties kd) S) → Q (.ref r) H'
theorem sc_led : FnScope ["web", "table", "kind", "row", "comes", "name", "begun"] ["web", "table", "kind", "row"] (defScope s_rows_led_to) := ⟨rfl, rfl, rfl, by decide +kernel, rfl, by decide +kernel, by decide +kernel⟩
theorem led_take {names : List Str} {g : Str → Str → Bool} {T : List Str} {i : Nat} {x : Str} (hx : names[i]? = some x) :
    ((names.take (i + 1)).filter (ledB names g T)).map (giv names g T) = ((names.take i).filter (ledB names g T)).map (giv names g T) ++ (if ledB names g T x = true then [giv names g T x] else []) := by
  have tk : names.take (i + 1) = names.take i ++ [x] := by rw [List.take_succ, hx]; rfl
  rw [tk, List.filter_append, List.map_append]
  congr 1
  cases e : ledB names g T x with
  | true => rw [if_pos rfl, List.filter_cons_of_pos e]; rfl
  | false => rw [if_neg Bool.false_ne_true, List.filter_cons_of_neg (by rw [e]; exact Bool.false_ne_true)]; rfl
theorem ok_led {f : Addr} {fd : FuncData} (F : Fun K "rows_led_to" "rows_led_to" s_rows_led_to f fd) (T : Tx mg) (oB : Own P w K mg base 2 "begun_row" ["table", "kind", "row", "name"] (spBegun K)) (oF : Own P w K mg base 2 "is_full_ahead" ["web", "table", "kind", "row", "name"] (spFull K))
    (oG : Own P w K mg base 2 "grown" ["web", "table", "kind", "row"] (spGrow K)) : FnOk P w K mg base CX0 3 f fd ["web", "table", "kind", "row"] (spLed K) := by
  have nd := sc_led.nd
  obtain ⟨f2, fd2, G_begun_row, b_begun_row, k_begun_row, m_begun_row⟩ := oB
  obtain ⟨f3, fd3, G_is_full_ahead, b_is_full_ahead, k_is_full_ahead, m_is_full_ahead⟩ := oF
  obtain ⟨f4, fd4, G_grown, b_grown, k_grown, m_grown⟩ := oG
  refine F.ok sc_led (fun vs H Q E h => ?_) (fun cdv A outer s H vs Q E hr h => ?_)
  · obtain ⟨wa, t, ra, kd, names, S, ties, kvs, rfl, _⟩ := h
    rfl
  have hr_begun_row := hr
  have hr_is_full_ahead := hr
  have hr_grown := hr
  obtain ⟨wa, t, ra, kd, names, S, ties, kvs, rfl, wat, wok, h14, ht, tb, hk, hra, sub, mx, q⟩ := h
  have lS := sub.length_le
  obtain ⟨na, ta, tv, h1, h2, h3, h4⟩ := id wat.at_
  refine SB.use (bcons
  (bset (n := 4) nd rfl (Or.inl (by kernel_rfl)) (elst anil) (by kernel_rfl) (.inl rfl))
  (bcons
  (bfor PassesOwn.never rfl (itup (eix ix_tup (ev 0 rfl (Or.inl (by kernel_rfl)) (by kernel_rfl) (by kernel_rfl)) eint (fun _ _ => rfl))) (gname (n := 5) nd rfl (Or.inl (by kernel_rfl)) (.inl rfl)) (bone
  (bifs (tcmp op_notIn_seq (ev 5 rfl (Or.inl (by kernel_rfl)) (by kernel_rfl) (by kernel_rfl)) (ev 3 rfl (Or.inl (by kernel_rfl)) (by kernel_rfl) (by kernel_rfl)) (by kernel_rfl)) (bcons
  (bset (n := 6) nd rfl (Or.inl (by kernel_rfl)) (ecall G_begun_row hr_begun_row (by unfold Gl; kernel_rfl) m_begun_row k_begun_row b_begun_row .nil pass0 (acons (ev 1 rfl (Or.inl (by kernel_rfl)) (by kernel_rfl) (by kernel_rfl)) (acons (ev 2 rfl (Or.inl (by kernel_rfl)) (by kernel_rfl) (by kernel_rfl)) (acons (ev 3 rfl (Or.inl (by kernel_rfl)) (by kernel_rfl) (by kernel_rfl)) (acons (ev 5 rfl (Or.inl (by kernel_rfl)) (by kernel_rfl) (by kernel_rfl)) anil (by kernel_rfl)) (by kernel_rfl)) (by kernel_rfl)) (by kernel_rfl)) (by kernel_rfl) (by kernel_rfl) (by kernel_rfl)) (by kernel_rfl) (.inl rfl))
  (bone
  (bifs (tval (ecall G_is_full_ahead hr_is_full_ahead (by unfold Gl; kernel_rfl) m_is_full_ahead k_is_full_ahead b_is_full_ahead .nil pass0 (acons (ev 0 rfl (Or.inl (by kernel_rfl)) (by kernel_rfl) (by kernel_rfl)) (acons (ev 1 rfl (Or.inl (by kernel_rfl)) (by kernel_rfl) (by kernel_rfl)) (acons (ev 2 rfl (Or.inl (by kernel_rfl)) (by kernel_rfl) (by kernel_rfl)) (acons (ev 6 rfl (Or.inl (by kernel_rfl)) (by kernel_rfl) (by kernel_rfl)) (acons (ev 5 rfl (Or.inl (by kernel_rfl)) (by kernel_rfl) (by kernel_rfl)) anil (by kernel_rfl)) (by kernel_rfl)) (by kernel_rfl)) (by kernel_rfl)) (by kernel_rfl)) (by kernel_rfl) (by kernel_rfl) (by kernel_rfl)) (by intro _; rfl)) (bone
  (bexpr (ebm PySem.F.plainAttrs_list PySem.F.slot_list_append PySem.F.type_list_append mt_append (ev 4 rfl (Or.inl (by kernel_rfl)) (by kernel_rfl) (by kernel_rfl)) (acons (ecall G_grown hr_grown (by unfold Gl; kernel_rfl) m_grown k_grown b_grown .nil pass0 (acons (ev 0 rfl (Or.inl (by kernel_rfl)) (by kernel_rfl) (by kernel_rfl)) (acons (ev 1 rfl (Or.inl (by kernel_rfl)) (by kernel_rfl) (by kernel_rfl)) (acons (ev 2 rfl (Or.inl (by kernel_rfl)) (by kernel_rfl) (by kernel_rfl)) (acons (ev 6 rfl (Or.inl (by kernel_rfl)) (by kernel_rfl) (by kernel_rfl)) anil (by kernel_rfl)) (by kernel_rfl)) (by kernel_rfl)) (by kernel_rfl)) (by kernel_rfl) (by kernel_rfl) (by kernel_rfl)) anil (by kernel_rfl)) (by kernel_rfl) (by kernel_rfl) (by kernel_rfl) (by kernel_rfl) (by kernel_rfl)) (by kernel_rfl))) bnil))) bnil)) (by intro _; rfl))
  (bone
  (bret (ev 4 rfl (Or.inl (by kernel_rfl)) (by kernel_rfl) (by kernel_rfl)))))) ?_
  refine ⟨Nat.zero_le _, fun l hl => ?_⟩
  have s1 := same_new hl (.lst [])
  refine ⟨_, rfl, wa, _, _, _, rfl, rfl, s1.seqT h1, rfl, na, rfl, ⟨_, s1.seqT h2⟩, ?_⟩
  refine for_tup (K := K) (xs := names.map V.str) (fun i σ G => ∃ (x5 x6 : Option V) (us : List V), σ = [some (.ref wa), some (.ref t), some (.str kd.s), some (.ref ra), some (.ref l), x5, x6] ∧ Same H G ∧ G l = some (.lst us) ∧ RwE G us (((names.take i).filter (ledB names (gK ties kd) S)).map (giv names (gK ties kd) S))) ⟨_, _, [], rfl, s1, upd_same, .nil⟩ (fun i σ G _ ⟨_, _, _, _, z, _⟩ => z.seqT h2) ?_ ?_
  · rintro i v σ G hv ⟨x5, x6, us, rfl, sg, el, hus⟩
    obtain ⟨x, hx, rfl⟩ := str_at hv
    have hxn : x ∈ names := List.mem_of_getElem? hx
    have hil : i < names.length := (List.getElem?_eq_some_iff.mp hx).1
    have tk := led_take (g := gK ties kd) (T := S) hx
    have lus := Paired.length hus
    have lus2 : us.length ≤ 14 := by
      have l1 := List.length_filter_le (ledB names (gK ties kd) S) (names.take i)
      rw [lus, List.length_map]
      rw [List.length_take] at l1
      omega
    refine ⟨_, rfl, _, rfl, ra, _, rfl, .inr (sg.seqT hra), rfl, flat_strs _, _, rfl, ?_⟩
    show if (!inV (V.str x) (S.map V.str)) = true then _ else _
    rw [in_strs]
    refine ite2 (fun c => ?_) (fun c => ?_)
    · refine ⟨_, rfl, _, rfl, _, rfl, _, rfl, t, ra, kd, S, x, ties, kvs, rfl, sg _ _ ht, tb, hk, sg.seqT hra, by omega, fun b G1 s1' nb hb => ?_⟩
      have sg1 := sg.trans s1'
      have bl : (behindA (gK ties kd) S x).length ≤ 900 := by
        unfold behindA
        have := List.length_filter_le (fun y => decide (y.cps.toList < x.cps.toList) && gK ties kd x y) S
        rw [List.length_append]
        show _ + 1 ≤ _
        omega
      refine ⟨_, rfl, _, rfl, _, rfl, _, rfl, _, rfl, wa, t, b, kd, behindA (gK ties kd) S x, x, names, ties, kvs, rfl, wat.keep sg1.keepT, by omega, sg1 _ _ ht, tb, hk, SqT.of hb, bl, fun G2 s2' => ⟨_, rfl, ?_⟩⟩
      have sg2 := sg1.trans s2'
      refine ite2 (fun c2 => ?_) (fun c2 => ?_)
      · have led : ledB names (gK ties kd) S x = true := by unfold ledB; rw [c, c2]; rfl
        rw [led, if_pos rfl] at tk
        have val := (ledB_iff hxn).mp led
        obtain ⟨r1, r2⟩ := behind_row (gr_K ties kd) mx hxn
        have bsub : (behindA (gK ties kd) S x).Sublist names := behind_sub wok.ns sub hxn
        refine ⟨_, rfl, .inl ⟨rfl, _, SqL.of (s2' _ _ (s1' _ _ el))⟩, _, rfl, _, rfl, _, rfl, _, rfl, wa, t, b, kd, names, behindA (gK ties kd) S x, ties, kvs, rfl, wat.keep sg2.keepT, wok, h14, sg2 _ _ ht, tb, hk, SqT.of (s2' _ _ hb), bsub, (clq_K wok hk).mp r2, fun r G3 s3' nr hr' => ?_⟩
        have el3 := s3' _ _ (s2' _ _ (s1' _ _ el))
        have sg3 := sg2.trans s3'
        refine ⟨l, us, .ref r, rfl, rfl, el3, small1000 (by omega), ?_⟩
        have nrl : r ≠ l := fun e => by have := s2' _ _ (s1' _ _ el); rw [← e, nr] at this; cases this
        have kt : KeepT G3 (upd G3 l (.lst (us ++ [.ref r]))) := (KB.put (p := l) (H := G3) _).keepT el3
        refine ⟨_, _, us ++ [.ref r], rfl, fun y o e => by rw [upd_ne (ne_of_none e hl)]; exact sg3 y o e, upd_same, ?_⟩
        rw [tk]
        refine RwE.append ((hus.keep (s1'.trans (s2'.trans s3')).keepT).keep kt) (.cons ⟨r, rfl, ?_⟩ .nil)
        rw [upd_ne nrl, hr']
        unfold giv
        rw [fil_K' hk]
      · have led : ledB names (gK ties kd) S x = false := by unfold ledB; rw [Bool.eq_false_iff.mpr c2, Bool.and_false]
        rw [led, if_neg Bool.false_ne_true, List.append_nil] at tk
        exact ⟨_, _, us, rfl, sg2, s2' _ _ (s1' _ _ el), by rw [tk]; exact hus.keep (s1'.trans s2').keepT⟩
    · have led : ledB names (gK ties kd) S x = false := by unfold ledB; rw [Bool.eq_false_iff.mpr c, Bool.false_and]
      rw [led, if_neg Bool.false_ne_true, List.append_nil] at tk
      exact ⟨_, _, us, rfl, sg, el, by rw [tk]; exact hus⟩
  · rintro σ G ⟨x5, x6, us, rfl, sg, el, hus⟩
    rw [List.length_map, List.take_length] at hus
    exact ⟨_, rfl, q l us G sg hl el hus⟩
end
end K20

namespace K20
open PySem L2 Wd Wm Km Bm Gm Hm Fm Zm
/-- what is known of the class -/
structure TxW (K : PySem.W.Frag) (mg : Str → Option Value) (C : Addr) : Prop where
  cl : Cls K C
  nW : NoAttr K C "web"
  nK : NoAttr K C "kind"
  nT : NoAttr K C "table"
  nQ : NoAttr K C "queue"
  nF : NoAttr K C "found"
  nN : NoAttr K C "filled_times"
  m : mg "Walk" = some (.ref C)
abbrev fl2 (x y : V) : List (Str × V) := [("web", x), ("kind", y)]
abbrev fl3 (x y z : V) : List (Str × V) := [("web", x), ("kind", y), ("table", z)]
abbrev fl4 (x y z u : V) : List (Str × V) := [("web", x), ("kind", y), ("table", z), ("queue", u)]
abbrev fl5 (x y z u v : V) : List (Str × V) := [("web", x), ("kind", y), ("table", z), ("queue", u), ("found", v)]
abbrev fl6 (x y z u v o : V) : List (Str × V) := [("web", x), ("kind", y), ("table", z), ("queue", u), ("found", v), ("filled_times", o)]
theorem wf1 (x y : V) : putF "kind" y (putF "web" x []) = fl2 x y := by kernel_rfl
theorem wf2 (x y z : V) : putF "table" z (fl2 x y) = fl3 x y z := by kernel_rfl
theorem wf3 (x y z u : V) : putF "queue" u (fl3 x y z) = fl4 x y z u := by kernel_rfl
theorem wf4 (x y z u v : V) : putF "found" v (fl4 x y z u) = fl5 x y z u v := by kernel_rfl
theorem wf5 (x y z u v o : V) : putF "filled_times" o (fl5 x y z u v) = fl6 x y z u v o := by kernel_rfl
theorem wft (x y z : V) : (fl3 x y z).lookup ("table" : Str) = some z := by kernel_rfl
theorem rk_kV (r : List Str) : (rk r).map kV = r.map V.str := by
  unfold rk
  rw [List.map_map]
  rfl
section
variable {P : Program} {w : World} {K : PySem.W.Frag} {mg : Str → Option Value} {base : Heap}
/-! ### Walk.__init__ -/
def spIni (K : PySem.W.Frag) (C : Addr) : Sp := fun vs H Q _ => ∃ (p dx wa : Addr) (kd : Kd) (names : List Str) (ties : List SS) (D : List (List Str)), vs = [.ref p, .ref wa, .str kd.s] ∧ H p = some (.ins C dx []) ∧ WebAt K H wa names ties ∧ WebOk names ties ∧ names.length ≤ 14 ∧ ties.length ≤ 300 ∧ kd ≠ .C ∧ AllOf names (gK ties kd) D ∧
  ∀ (t qa fo : Addr) (H' : Hp), H t = none → H qa = none → H fo = none → KX [p] H H' → Wlk K C H' p wa t qa fo names ties kd D 0 → Q .non H'
theorem sc_ini : FnScope ["self", "web", "kind", "first"] ["self", "web", "kind"] (defScope s_Walk___init__) := ⟨rfl, rfl, rfl, by decide +kernel, rfl, by decide +kernel, by decide +kernel⟩
theorem ok_ini {f C : Addr} {fd : FuncData} (F : Fun K "__init__" "Walk.__init__" s_Walk___init__ f fd) (T : Tx mg) (TW : TxW K mg C) (oT : Own P w K mg base 1 "tie_table" ["web"] (spTable K)) (oG : Own P w K mg base 2 "grown" ["web", "table", "kind", "row"] (spGrow K)) : FnOk P w K mg base CX0 3 f fd ["self", "web", "kind"] (spIni K C) := by
  have nd := sc_ini.nd
  obtain ⟨f1, fd1, G_tie_table, b_tie_table, k_tie_table, m_tie_table⟩ := oT
  obtain ⟨f2, fd2, G_grown, b_grown, k_grown, m_grown⟩ := oG
  refine F.ok sc_ini (fun vs H Q E h => ?_) (fun cdv A outer s H vs Q E hr h => ?_)
  · obtain ⟨p, dx, wa, kd, names, ties, D, rfl, _⟩ := h
    rfl
  have hr_grown := hr
  have hr_tie_table := hr.mono (j := 1) (by decide)
  obtain ⟨p, dx, wa, kd, names, ties, D, rfl, hp, wat, wok, h14, h300, hk, AO, q⟩ := h
  have mp : p ∈ [p] := List.mem_singleton.mpr rfl
  refine SB.use (bcons
  (bfld (ev 0 rfl (Or.inl (by kernel_rfl)) (by kernel_rfl) (by kernel_rfl)) (ev 1 rfl (Or.inl (by kernel_rfl)) (by kernel_rfl) (by kernel_rfl)) (by kernel_rfl))
  (bcons
  (bfld (ev 0 rfl (Or.inl (by kernel_rfl)) (by kernel_rfl) (by kernel_rfl)) (ev 2 rfl (Or.inl (by kernel_rfl)) (by kernel_rfl) (by kernel_rfl)) (by kernel_rfl))
  (bcons
  (bfld (ev 0 rfl (Or.inl (by kernel_rfl)) (by kernel_rfl) (by kernel_rfl)) (ecall G_tie_table hr_tie_table (by unfold Gl; kernel_rfl) m_tie_table k_tie_table b_tie_table .nil pass0 (acons (ev 1 rfl (Or.inl (by kernel_rfl)) (by kernel_rfl) (by kernel_rfl)) anil (by kernel_rfl)) (by kernel_rfl) (by kernel_rfl) (by kernel_rfl)) (by kernel_rfl))
  (bcons
  (bset (n := 3) nd rfl (Or.inl (by kernel_rfl)) (ecall G_grown hr_grown (by unfold Gl; kernel_rfl) m_grown k_grown b_grown .nil pass0 (acons (ev 1 rfl (Or.inl (by kernel_rfl)) (by kernel_rfl) (by kernel_rfl)) (acons (efld (ev 0 rfl (Or.inl (by kernel_rfl)) (by kernel_rfl) (by kernel_rfl)) (by kernel_rfl)) (acons (ev 2 rfl (Or.inl (by kernel_rfl)) (by kernel_rfl) (by kernel_rfl)) (acons (etup anil) anil (by kernel_rfl)) (by kernel_rfl)) (by kernel_rfl)) (by kernel_rfl)) (by kernel_rfl) (by kernel_rfl) (by kernel_rfl)) (by kernel_rfl) (.inl rfl))
  (bcons
  (bfld (ev 0 rfl (Or.inl (by kernel_rfl)) (by kernel_rfl) (by kernel_rfl)) (elst (acons (ev 3 rfl (Or.inl (by kernel_rfl)) (by kernel_rfl) (by kernel_rfl)) anil (by kernel_rfl))) (by kernel_rfl))
  (bcons
  (bfld (ev 0 rfl (Or.inl (by kernel_rfl)) (by kernel_rfl) (by kernel_rfl)) (edispT hr.units (ev 3 rfl (Or.inl (by kernel_rfl)) (by kernel_rfl) (by kernel_rfl)) ebl) (by kernel_rfl))
  (bone
  (bfld (ev 0 rfl (Or.inl (by kernel_rfl)) (by kernel_rfl) (by kernel_rfl)) eint (by kernel_rfl))))))))) ?_
  -- web, kind
  refine ⟨_, rfl, _, rfl, p, C, dx, _, rfl, hp, TW.cl, TW.nW, (by show 0 < 1000; decide), ?_⟩
  refine ⟨_, rfl, _, rfl, p, C, dx, _, rfl, upd_same, TW.cl, TW.nK, (by show 1 < 1000; decide), ?_⟩
  rw [wf1]
  have k2 : KX [p] H (upd (upd H p (.ins C dx (putF "web" (.ref wa) []))) p (.ins C dx (fl2 (.ref wa) (.str kd.s)))) := (KX.put _ mp).trans (KX.put _ mp)
  have p2 := upd_same (H := upd H p (.ins C dx (putF "web" (.ref wa) []))) (a := p) (o := .ins C dx (fl2 (.ref wa) (.str kd.s)))
  generalize upd (upd H p (.ins C dx (putF "web" (.ref wa) []))) p (.ins C dx (fl2 (.ref wa) (.str kd.s))) = H2 at k2 p2 ⊢
  have kt : ∀ G, KX [p] H G → KeepT H G := fun G k => ⟨(fun b xs e => k _ _ e fun z => by rw [List.mem_singleton.mp z, hp] at e; cases e), (fun b o u e => k _ _ e fun z => by rw [List.mem_singleton.mp z, hp] at e; cases e)⟩
  have pn : ∀ b, H b = none → b ≠ p := fun b hb e => by rw [e, hp] at hb; cases hb
  have fre : ∀ (G : Hp) b, KX [p] H G → G p ≠ none → G b = none → H b = none := fun G b k n e => k.free e fun z => n (by rw [← List.mem_singleton.mp z]; exact e)
  -- table
  refine ⟨_, rfl, wa, names, ties, rfl, wat.keep (kt _ k2), h300, fun t kvs H3 s3 nt ht tb => ?_⟩
  have nt0 := fre _ _ k2 (by rw [p2]; exact fun z => by cases z) nt
  refine ⟨_, rfl, p, C, dx, _, rfl, s3 _ _ p2, TW.cl, TW.nT, (by show 2 < 1000; decide), ?_⟩
  rw [wf2]
  have k4 : KX [p] H (upd H3 p (.ins C dx (fl3 (.ref wa) (.str kd.s) (.ref t)))) := (k2.trans (KX.of s3)).trans (KX.put _ mp)
  have p4 := upd_same (H := H3) (a := p) (o := .ins C dx (fl3 (.ref wa) (.str kd.s) (.ref t)))
  have t4 : (upd H3 p (.ins C dx (fl3 (.ref wa) (.str kd.s) (.ref t)))) t = some (.dT kvs) := by rw [upd_ne (pn t nt0)]; exact ht
  generalize upd H3 p (.ins C dx (fl3 (.ref wa) (.str kd.s) (.ref t))) = H4 at k4 p4 t4 ⊢
  -- first
  refine ⟨_, rfl, _, rfl, p, C, dx, _, _, rfl, p4, TW.cl, TW.nT, wft _ _ _, _, rfl, Nat.zero_le _, fun e0 he0 => ?_⟩
  have s5 := same_new he0 (.tup [])
  refine ⟨wa, t, e0, kd, names, [], ties, kvs, rfl, wat.keep (kt _ (k4.trans (KX.of s5))), wok, h14, s5 _ _ t4, tb, hk, SqT.of upd_same, List.nil_sublist _, (clq_K wok hk).mp (fun a ha => by cases ha), fun fi H6 s6 nfi hfi => ?_⟩
  rw [fil_K' hk] at hfi
  have s46 := s5.trans s6
  have k6 := k4.trans (KX.of s46)
  have p6 := s46 _ _ p4
  have t6 := s46 _ _ t4
  have nfi0 := fre _ _ k4 (by rw [p4]; exact fun z => by cases z) (s5.free nfi)
  -- queue
  refine ⟨_, rfl, (by show 1 ≤ sizeLine; decide), fun qa hqa => ?_⟩
  have nq0 := fre _ _ k6 (by rw [p6]; exact fun z => by cases z) hqa
  have s7 := same_new hqa (.lst [V.ref fi])
  refine ⟨_, rfl, p, C, dx, _, rfl, s7 _ _ p6, TW.cl, TW.nQ, (by show 3 < 1000; decide), ?_⟩
  rw [wf3]
  have k8 := (k6.trans (KX.of (S := [p]) s7)).trans (KX.put (H := upd H6 qa (.lst [V.ref fi])) (.ins C dx (fl4 (.ref wa) (.str kd.s) (.ref t) (.ref qa))) mp)
  have p8 := upd_same (H := upd H6 qa (.lst [V.ref fi])) (a := p) (o := .ins C dx (fl4 (.ref wa) (.str kd.s) (.ref t) (.ref qa)))
  have q8 : (upd (upd H6 qa (.lst [V.ref fi])) p (.ins C dx (fl4 (.ref wa) (.str kd.s) (.ref t) (.ref qa)))) qa = some (.lst [V.ref fi]) := by rw [upd_ne (pn qa nq0), upd_same]
  have t8 : (upd (upd H6 qa (.lst [V.ref fi])) p (.ins C dx (fl4 (.ref wa) (.str kd.s) (.ref t) (.ref qa)))) t = some (.dT kvs) := by rw [upd_ne (pn t nt0)]; exact s7 _ _ t6
  have f8 : (upd (upd H6 qa (.lst [V.ref fi])) p (.ins C dx (fl4 (.ref wa) (.str kd.s) (.ref t) (.ref qa)))) fi = some (.tup ((filG names (gK ties kd) []).map V.str)) := by rw [upd_ne (pn fi nfi0)]; exact s7 _ _ hfi
  generalize upd (upd H6 qa (.lst [V.ref fi])) p (.ins C dx (fl4 (.ref wa) (.str kd.s) (.ref t) (.ref qa))) = H8 at k8 p8 q8 t8 f8 ⊢
  -- found
  refine fun fo hfo => ⟨_, rfl, fi, rk (filG names (gK ties kd) []), rfl, ?_, upd_same, ?_⟩
  · rw [upd_ne (ne_of_none f8 hfo), rk_kV]
    exact f8
  have nf0 := fre _ _ k8 (by rw [p8]; exact fun z => by cases z) hfo
  have po : p ≠ fo := (pn fo nf0).symm
  rw [upd_upd]
  have s9 := same_new hfo (.dT [(rk (filG names (gK ties kd) []), V.bl true)])
  refine ⟨_, rfl, p, C, dx, _, rfl, s9 _ _ p8, TW.cl, TW.nF, (by show 4 < 1000; decide), ?_⟩
  rw [wf4]
  refine ⟨_, rfl, p, C, dx, _, rfl, upd_same, TW.cl, TW.nN, (by show 5 < 1000; decide), ?_⟩
  rw [wf5, upd_upd]
  have at9 : ∀ b o, b ≠ p → H8 b = some o → upd (upd H8 fo (.dT [(rk (filG names (gK ties kd) []), V.bl true)])) p (.ins C dx (fl6 (.ref wa) (.str kd.s) (.ref t) (.ref qa) (.ref fo) (.int 0))) b = some o := fun b o nb e => by
    rw [upd_ne nb]
    exact s9 _ _ e
  have k10 := (k8.trans (KX.of (S := [p]) s9)).trans (KX.put (H := upd H8 fo (.dT [(rk (filG names (gK ties kd) []), V.bl true)])) (.ins C dx (fl6 (.ref wa) (.str kd.s) (.ref t) (.ref qa) (.ref fo) (.int 0))) mp)
  refine q t qa fo _ nt0 nq0 nf0 k10 ⟨⟨dx, upd_same⟩, wat.keep (kt _ k10), ⟨kvs, at9 _ _ (pn t nt0) t8, tb⟩, ⟨[V.ref fi], [filG names (gK ties kd) []], [filG names (gK ties kd) []], [(rk (filG names (gK ties kd) []), V.bl true)], at9 _ _ (pn qa nq0) q8, .cons ⟨fi, rfl, at9 _ _ (pn fi nfi0) f8⟩ .nil, Wk.start AO, ?_, ⟨rfl, by simp⟩, fun r => by simp⟩, ?_⟩
  · rw [upd_ne (pn fo nf0), upd_same]
  · exact fun e => by rw [← e, t8] at hfo; cases hfo
end
end K20

namespace K20
open PySem L2 Wd Wm Km Bm Gm Hm Fm Zm
theorem wl_w (wa t qa fo : Addr) (kd : Kd) (n : Int) : (wflds wa t qa fo kd n).lookup ("web" : Str) = some (.ref wa) := by kernel_rfl
theorem wl_k (wa t qa fo : Addr) (kd : Kd) (n : Int) : (wflds wa t qa fo kd n).lookup ("kind" : Str) = some (.str kd.s) := by kernel_rfl
theorem wl_t (wa t qa fo : Addr) (kd : Kd) (n : Int) : (wflds wa t qa fo kd n).lookup ("table" : Str) = some (.ref t) := by kernel_rfl
theorem wl_q (wa t qa fo : Addr) (kd : Kd) (n : Int) : (wflds wa t qa fo kd n).lookup ("queue" : Str) = some (.ref qa) := by kernel_rfl
theorem wl_f (wa t qa fo : Addr) (kd : Kd) (n : Int) : (wflds wa t qa fo kd n).lookup ("found" : Str) = some (.ref fo) := by kernel_rfl
theorem wl_n (wa t qa fo : Addr) (kd : Kd) (n : Int) : (wflds wa t qa fo kd n).lookup ("filled_times" : Str) = some (.int n) := by kernel_rfl
theorem wl_p (wa t qa fo : Addr) (kd : Kd) (n m : Int) : putF "filled_times" (.int m) (wflds wa t qa fo kd n) = wflds wa t qa fo kd m := by kernel_rfl
theorem wl_6 (wa t qa fo : Addr) (kd : Kd) (n : Int) : (wflds wa t qa fo kd n).length < 1000 := by show 6 < 1000; decide
section
variable {P : Program} {w : World} {K : PySem.W.Frag} {mg : Str → Option Value} {base : Heap}
/-! ### Walk.tell -/
def spTell (K : PySem.W.Frag) (C : Addr) : Sp := fun vs H Q _ => ∃ (p wa t qa fo : Addr) (kd : Kd) (names : List Str) (ties : List SS) (D : List (List Str)) (k : Nat), vs = [.ref p] ∧ Wlk K C H p wa t qa fo names ties kd D k ∧ WebOk names ties ∧ names.length ≤ 14 ∧ kd ≠ .C ∧ AllOf names (gK ties kd) D ∧
  (∀ (S : List Str) (v : V) (H' : Hp), D[k]? = some S → KX [p, qa, fo] H H' → IsRowH H' v S → Wlk K C H' p wa t qa fo names ties kd D (k + 1) → Q v H') ∧ (D.length ≤ k → Q .non H)
theorem sc_tell : FnScope ["self", "row", "comes", "other"] ["self"] (defScope s_Walk_tell) := ⟨rfl, rfl, rfl, by decide +kernel, rfl, by decide +kernel, by decide +kernel⟩
theorem ok_tell {f C : Addr} {fd : FuncData} (F : Fun K "tell" "Walk.tell" s_Walk_tell f fd) (T : Tx mg) (TW : TxW K mg C) (oL : Own P w K mg base 3 "rows_led_to" ["web", "table", "kind", "row"] (spLed K)) : FnOk P w K mg base CX0 4 f fd ["self"] (spTell K C) := by
  have nd := sc_tell.nd
  obtain ⟨f1, fd1, G_rows_led_to, b_rows_led_to, k_rows_led_to, m_rows_led_to⟩ := oL
  refine F.ok sc_tell (fun vs H Q E h => ?_) (fun cdv A outer s H vs Q E hr h => ?_)
  · obtain ⟨p, wa, t, qa, fo, kd, names, ties, D, k, rfl, _⟩ := h
    rfl
  have hr_rows_led_to := hr
  obtain ⟨p, wa, t, qa, fo, kd, names, ties, D, k, rfl, wl, wok, h14, hk, AO, q1, q2⟩ := h
  obtain ⟨⟨dx, ob⟩, wat, ⟨kvs, ht, tb⟩, ⟨us, W, Fs, kw, hq, hus, wk, hf, ky, hF⟩, tf⟩ := id wl
  have few : D.length ≤ 32768 := found_few (g := gK ties kd) (fun r hr => ((AO.mem r).mp hr).1) (fun C => List.nodup_iff_count.mp AO.nodup C) (by omega)
  obtain ⟨lF, lW⟩ := wait_few AO (gr_K ties kd) wk hF ky.2
  have lus := Paired.length hus
  have pq : p ≠ qa := ne_of ob hq (by intro z; cases z)
  have pf : p ≠ fo := ne_of ob hf (by intro z; cases z)
  have qf : qa ≠ fo := ne_of hq hf (by intro z; cases z)
  have tp : t ≠ p := ne_of ht ob (by intro z; cases z)
  have tq : t ≠ qa := ne_of ht hq (by intro z; cases z)
  have kt : ∀ G, KX [p, qa, fo] H G → KeepT H G := fun G kx => by
    have no : ∀ (b : Addr) (o : HO), H b = some o → (∀ C dx fs, o ≠ .ins C dx fs) → (∀ xs, o ≠ .lst xs) → (∀ xs, o ≠ .dT xs) → b ∉ [p, qa, fo] := fun b o e n1 n2 n3 z => by
      rcases List.mem_cons.mp z with z | z
      · rw [z, ob] at e; exact n1 _ _ _ (Option.some.inj e).symm
      · rcases List.mem_cons.mp z with z | z
        · rw [z, hq] at e; exact n2 _ (Option.some.inj e).symm
        · rw [List.mem_singleton.mp z, hf] at e; exact n3 _ (Option.some.inj e).symm
    exact ⟨(fun b xs e => kx _ _ e (no b _ e (fun _ _ _ z => by cases z) (fun _ z => by cases z) (fun _ z => by cases z))), (fun b o u e => kx _ _ e (no b _ e (fun _ _ _ z => by cases z) (fun _ z => by cases z) (fun _ z => by cases z)))⟩
  refine SB.use (bcons
  (bifs (tnot (ttruth (efld (ev 0 rfl (Or.inl (by kernel_rfl)) (by kernel_rfl) (by kernel_rfl)) (by kernel_rfl)) (by intro _; rfl))) (bone
  (bret enon)) bnil)
  (bcons
  (bset (n := 1) nd rfl (Or.inl (by kernel_rfl)) (ecallB (cr_minR rfl hr.units) (by unfold Gl; kernel_rfl) T.min L2.boot_min (acons (efld (ev 0 rfl (Or.inl (by kernel_rfl)) (by kernel_rfl) (by kernel_rfl)) (by kernel_rfl)) anil (by kernel_rfl)) (by decide +kernel) (by kernel_rfl) (by kernel_rfl) (by kernel_rfl)) (by kernel_rfl) (.inl rfl))
  (bcons
  (bexpr (ebm PySem.F.plainAttrs_list PySem.F.slot_list_remove PySem.F.type_list_remove (mt_removeR hr.units) (efld (ev 0 rfl (Or.inl (by kernel_rfl)) (by kernel_rfl) (by kernel_rfl)) (by kernel_rfl)) (acons (ev 1 rfl (Or.inl (by kernel_rfl)) (by kernel_rfl) (by kernel_rfl)) anil (by kernel_rfl)) (by kernel_rfl) (by kernel_rfl) (by kernel_rfl) (by kernel_rfl) (by kernel_rfl)) (by kernel_rfl))
  (bcons
  (bset (n := 2) nd rfl (Or.inl (by kernel_rfl)) (ecall G_rows_led_to hr_rows_led_to (by unfold Gl; kernel_rfl) m_rows_led_to k_rows_led_to b_rows_led_to .nil pass0 (acons (efld (ev 0 rfl (Or.inl (by kernel_rfl)) (by kernel_rfl) (by kernel_rfl)) (by kernel_rfl)) (acons (efld (ev 0 rfl (Or.inl (by kernel_rfl)) (by kernel_rfl) (by kernel_rfl)) (by kernel_rfl)) (acons (efld (ev 0 rfl (Or.inl (by kernel_rfl)) (by kernel_rfl) (by kernel_rfl)) (by kernel_rfl)) (acons (ev 1 rfl (Or.inl (by kernel_rfl)) (by kernel_rfl) (by kernel_rfl)) anil (by kernel_rfl)) (by kernel_rfl)) (by kernel_rfl)) (by kernel_rfl)) (by kernel_rfl) (by kernel_rfl) (by kernel_rfl)) (by kernel_rfl) (.inl rfl))
  (bcons
  (bfldaug (ev 0 rfl (Or.inl (by kernel_rfl)) (by kernel_rfl) (by kernel_rfl)) (ecallB call_len_seq (by unfold Gl; kernel_rfl) T.len L2.boot_len (acons (ev 2 rfl (Or.inl (by kernel_rfl)) (by kernel_rfl) (by kernel_rfl)) anil (by kernel_rfl)) (by decide +kernel) (by kernel_rfl) (by kernel_rfl) (by kernel_rfl)) in_add)
  (bcons
  (bfor PassesOwn.never rfl (ilist (ev 2 rfl (Or.inl (by kernel_rfl)) (by kernel_rfl) (by kernel_rfl))) (gname (n := 3) nd rfl (Or.inl (by kernel_rfl)) (.inl rfl)) (bone
  (bifs (tdnotin hr.units (ev 3 rfl (Or.inl (by kernel_rfl)) (by kernel_rfl) (by kernel_rfl)) (efld (ev 0 rfl (Or.inl (by kernel_rfl)) (by kernel_rfl) (by kernel_rfl)) (by kernel_rfl)) (by kernel_rfl)) (bcons
  (bdput hr.units (efld (ev 0 rfl (Or.inl (by kernel_rfl)) (by kernel_rfl) (by kernel_rfl)) (by kernel_rfl)) (ev 3 rfl (Or.inl (by kernel_rfl)) (by kernel_rfl) (by kernel_rfl)) ebl (by kernel_rfl))
  (bone
  (bexpr (ebm PySem.F.plainAttrs_list PySem.F.slot_list_append PySem.F.type_list_append mt_append (efld (ev 0 rfl (Or.inl (by kernel_rfl)) (by kernel_rfl) (by kernel_rfl)) (by kernel_rfl)) (acons (ev 3 rfl (Or.inl (by kernel_rfl)) (by kernel_rfl) (by kernel_rfl)) anil (by kernel_rfl)) (by kernel_rfl) (by kernel_rfl) (by kernel_rfl) (by kernel_rfl) (by kernel_rfl)) (by kernel_rfl)))) bnil)) (by intro _; rfl))
  (bone
  (bret (ev 1 rfl (Or.inl (by kernel_rfl)) (by kernel_rfl) (by kernel_rfl)))))))))) ?_
  refine ⟨_, rfl, p, C, dx, _, _, rfl, ob, TW.cl, TW.nQ, wl_q _ _ _ _ _ _, _, .inl ⟨us, SqL.of hq, rfl⟩, ?_⟩
  refine ite2 (fun c => ?_) (fun c => ?_)
  · have e : us = [] := by
      cases us with
      | nil => rfl
      | cons a r => exact absurd c (by simp)
    have eW : W = [] := by
      rw [e] at lus
      exact List.length_eq_zero_iff.mp lus.symm
    exact q2 ((wk.empty_iff AO (gr_K ties kd) wok.ns).mp eW)
  have posW : 0 < W.length := by
    rw [← lus]
    cases us with
    | nil => exact absurd rfl c
    | cons a r => exact Nat.succ_pos _
  have hkl : k < D.length := by
    by_cases z : D.length ≤ k
    · rw [(wk.end AO (gr_K ties kd) z)] at posW
      exact absurd posW (Nat.lt_irrefl _)
    · omega
  obtain ⟨S, hS⟩ : ∃ S, D[k]? = some S := ⟨D[k], List.getElem?_eq_getElem hkl⟩
  obtain ⟨mS, leS⟩ := wk.next AO (gr_K ties kd) wok.ns hS
  obtain ⟨sub, mx⟩ := (AO.mem S).mp (List.mem_of_getElem? hS)
  -- the first one
  refine ⟨_, rfl, p, C, dx, _, _, rfl, ob, TW.cl, TW.nQ, wl_q _ _ _ _ _ _, qa, us, W, rfl, SqL.of hq, hus.rws, posW, fun j v r hj hr' hrow hmin => ?_⟩
  have er : r = S := (leS r (List.mem_of_getElem? hr')).elim id fun z => by rw [hmin S mS] at z; cases z
  subst er
  obtain ⟨a0, rfl, ha0⟩ := Paired.get hus hj hr'
  have first : ∀ m, m < j → W[m]? ≠ some r := fun m hm e => by
    have jl : j < W.length := (List.getElem?_eq_some_iff.mp hr').1
    have := (List.getElem?_inj (by omega : m < W.length) wk.nd).mp (e.trans hr'.symm)
    omega
  -- out
  refine ⟨_, rfl, p, C, dx, _, _, rfl, ob, TW.cl, TW.nQ, wl_q _ _ _ _ _ _, .inl ⟨rfl, _, SqL.of hq⟩, _, rfl, qa, us, W, .ref a0, r, j, rfl, rfl, hq, hus.rws, hrow, hr', first, ?_⟩
  have k1 : KX [p, qa, fo] H (upd H qa (.lst (us.eraseIdx j))) := KX.put _ (by simp)
  have ob1 := (upd_ne (H := H) (o := .lst (us.eraseIdx j)) pq).trans ob
  have ht1 := (upd_ne (H := H) (o := .lst (us.eraseIdx j)) tq).trans ht
  have hf1 := (upd_ne (H := H) (o := .lst (us.eraseIdx j)) qf.symm).trans hf
  have hq1 := upd_same (H := H) (a := qa) (o := .lst (us.eraseIdx j))
  have hus1 : RwE (upd H qa (.lst (us.eraseIdx j))) (us.eraseIdx j) (W.eraseIdx j) := (hus.keep (kt _ k1)).erase j
  have ha1 := (kt _ k1).1 _ _ ha0
  have wat1 := wat.keep (kt _ k1)
  generalize upd H qa (.lst (us.eraseIdx j)) = H1 at k1 ob1 ht1 hf1 hq1 hus1 ha1 wat1 ⊢
  -- what it leads to
  refine ⟨_, rfl, p, C, dx, _, _, rfl, ob1, TW.cl, TW.nW, wl_w _ _ _ _ _ _, _, rfl, p, C, dx, _, _, rfl, ob1, TW.cl, TW.nT, wl_t _ _ _ _ _ _, _, rfl, p, C, dx, _, _, rfl, ob1, TW.cl, TW.nK, wl_k _ _ _ _ _ _, _, rfl, wa, t, a0, kd, names, r, ties, kvs, rfl, wat1, wok, h14, ht1, tb, hk, SqT.of ha1, sub, mx, fun l vs H2 s2 nl hl hvs => ?_⟩
  have lvs := Paired.length hvs
  have l14 := led_len (names := names) (g := gK ties kd) (T := r)
  have ob2 := s2 _ _ ob1
  -- how many
  refine ⟨_, rfl, p, C, dx, _, _, rfl, ob2, TW.cl, TW.nN, wl_n _ _ _ _ _ _, _, rfl, l, _, rfl, .inl (SqL.of hl), _, _, rfl, rfl, dx, _, ob2, wl_6 _ _ _ _ _ _, ?_⟩
  rw [wl_p, lvs, show ((fils names (gK ties kd) D k : Nat) : Int) + ((ledL names (gK ties kd) r).length : Int) = ((fils names (gK ties kd) D (k + 1) : Nat) : Int) from by rw [fils_step hS]; omega]
  have k3 := (k1.trans (KX.of (S := [p, qa, fo]) s2)).trans (KX.put (H := H2) (p := p) (.ins C dx (wflds wa t qa fo kd (fils names (gK ties kd) D (k + 1) : Nat))) (by simp))
  have at3 : ∀ b o, b ≠ p → H2 b = some o → upd H2 p (.ins C dx (wflds wa t qa fo kd (fils names (gK ties kd) D (k + 1) : Nat))) b = some o := fun b o nb e => by rw [upd_ne nb]; exact e
  have ob3 := upd_same (H := H2) (a := p) (o := .ins C dx (wflds wa t qa fo kd (fils names (gK ties kd) D (k + 1) : Nat)))
  have kt23 : KeepT H2 (upd H2 p (.ins C dx (wflds wa t qa fo kd (fils names (gK ties kd) D (k + 1) : Nat)))) := ⟨fun b xs e => at3 _ _ (ne_of e ob2 (by intro z; cases z)) e, fun b o u e => at3 _ _ (ne_of e ob2 (by intro z; cases z)) e⟩
  have hf3 := at3 _ _ pf.symm (s2 _ _ hf1)
  have hq3 := at3 _ _ pq.symm (s2 _ _ hq1)
  have nlp : l ≠ p := fun e => by rw [e, ob1] at nl; cases nl
  have nlq : l ≠ qa := fun e => by rw [e, hq1] at nl; cases nl
  have hl3 := at3 _ _ nlp hl
  have hus3 := (hus1.keep s2.keepT).keep kt23
  have hvs3 := hvs.keep kt23
  generalize upd H2 p (.ins C dx (wflds wa t qa fo kd (fils names (gK ties kd) D (k + 1) : Nat))) = H3 at k3 ob3 hf3 hq3 hl3 hus3 hvs3 ⊢
  have kt3 : ∀ G, KX [qa, fo] H3 G → KeepT H3 G := fun G kx => by
    have no : ∀ (b : Addr) (o : HO), H3 b = some o → (∀ xs, o ≠ .lst xs) → (∀ xs, o ≠ .dT xs) → b ∉ [qa, fo] := fun b o e n2 n3 z => by
      rcases List.mem_cons.mp z with z | z
      · rw [z, hq3] at e; exact n2 _ (Option.some.inj e).symm
      · rw [List.mem_singleton.mp z, hf3] at e; exact n3 _ (Option.some.inj e).symm
    exact ⟨(fun b xs e => kx _ _ e (no b _ e (fun _ z => by cases z) (fun _ z => by cases z))), (fun b o u e => kx _ _ e (no b _ e (fun _ z => by cases z) (fun _ z => by cases z)))⟩
  have lf : l ≠ fo := ne_of hl3 hf3 (by intro z; cases z)
  have lin : l ∉ [qa, fo] := by simp [nlq, lf]
  have pin : p ∉ [qa, fo] := by simp [pq, pf]
  have l0 : (us.eraseIdx j).length ≤ us.length := List.length_eraseIdx_le _ _
  refine ⟨_, rfl, l, rfl, ⟨_, SqL.of hl3⟩, ?_⟩
  refine for_list (K := K) (a := l) (xs := vs) (fun i σ G => ∃ (x3 : Option V) (us' : List V) (kw' : List (List Key × V)) (F' N : List (List Str)), σ = [some (.ref p), some (.ref a0), some (.ref l), x3] ∧ KX [qa, fo] H3 G ∧ G qa = some (.lst us') ∧ us'.length ≤ us.length + i ∧ RwE G us' (W.eraseIdx j ++ N) ∧ N.Nodup ∧ (∀ r', r' ∈ N ↔ r' ∈ (ledL names (gK ties kd) r).take i ∧ r' ∉ Fs) ∧ G fo = some (.dT kw') ∧ Keys kw' F' ∧ F'.length ≤ Fs.length + i ∧ ∀ r', r' ∈ F' ↔ r' ∈ Fs ∨ r' ∈ (ledL names (gK ties kd) r).take i)
    ⟨_, _, _, Fs, [], rfl, KX.refl _ _, hq3, l0, by rw [List.append_nil]; exact hus3, List.nodup_nil, fun r' => by simp, hf3, ky, Nat.le_refl _, fun r' => by simp⟩ (fun i σ G _ ⟨_, _, _, _, _, _, z, _⟩ => SqL.of (z _ _ hl3 lin)) ?_ ?_
  · rintro i u σ G hv ⟨x3, us', kw', F', N, rfl, kx, hqG, lu, hu', ndN, hN, hfG, kyG, lF', hF'⟩
    have hi : i < vs.length := (List.getElem?_eq_some_iff.mp hv).1
    obtain ⟨c, hc⟩ : ∃ c, (ledL names (gK ties kd) r)[i]? = some c := ⟨_, List.getElem?_eq_getElem (by omega)⟩
    obtain ⟨b, rfl, hb⟩ := Paired.get hvs3 hv hc
    have tk : (ledL names (gK ties kd) r).take (i + 1) = (ledL names (gK ties kd) r).take i ++ [c] := by rw [List.take_succ, hc]; rfl
    have hbG := (kt3 _ kx).1 _ _ hb
    have obG := kx _ _ ob3 pin
    have hbk : G b = some (.tup ((rk c).map kV)) := by rw [rk_kV]; exact hbG
    refine ⟨_, rfl, _, rfl, p, C, dx, _, _, rfl, obG, TW.cl, TW.nF, wl_f _ _ _ _ _ _, fo, _, rfl, DGet.t (k := rk c) hfG hbk, _, rfl, ?_⟩
    rw [kyG.val]
    refine ite2 (fun z => ?_) (fun z => ?_)
    · have nc : c ∉ F' := by simpa using z
      refine ⟨_, rfl, p, C, dx, _, _, rfl, obG, TW.cl, TW.nF, wl_f _ _ _ _ _ _, _, rfl, fo, _, rfl, DPut.t (k := rk c) hfG hbk (by rw [kyG.len, sizeLine_eq]; omega), ?_⟩
      have kx1 : KX [qa, fo] G (upd G fo (.dT (putK kw' (rk c) (.bl true)))) := KX.put _ (by simp)
      have hq' : (upd G fo (.dT (putK kw' (rk c) (.bl true)))) qa = some (.lst us') := by rw [upd_ne qf]; exact hqG
      refine ⟨_, rfl, p, C, dx, _, _, rfl, kx1 _ _ obG pin, TW.cl, TW.nQ, wl_q _ _ _ _ _ _, .inl ⟨rfl, _, SqL.of hq'⟩, _, rfl, qa, us', .ref b, rfl, rfl, hq', (by rw [sizeLine_eq]; omega), ?_⟩
      have kx2 : KX [qa, fo] G (upd (upd G fo (.dT (putK kw' (rk c) (.bl true)))) qa (.lst (us' ++ [.ref b]))) := kx1.trans (KX.put _ (by simp))
      have ktG : KeepT G (upd (upd G fo (.dT (putK kw' (rk c) (.bl true)))) qa (.lst (us' ++ [.ref b]))) := by
        refine ⟨fun d xs e => ?_, fun d o u e => ?_⟩
        · rw [upd_ne (ne_of e hqG (by intro z; cases z)), upd_ne (ne_of e hfG (by intro z; cases z))]; exact e
        · rw [upd_ne (ne_of e hqG (by intro z; cases z)), upd_ne (ne_of e hfG (by intro z; cases z))]; exact e
      have mF : ∀ r', r' ∈ putR F' c ↔ r' ∈ Fs ∨ r' ∈ (ledL names (gK ties kd) r).take (i + 1) := fun r' => by
        rw [mem_putR, hF', tk, List.mem_append, List.mem_singleton]
        exact or_assoc
      have ncF : c ∉ Fs := fun z => nc ((hF' c).mpr (.inl z))
      have ncT : c ∉ (ledL names (gK ties kd) r).take i := fun z => nc ((hF' c).mpr (.inr z))
      refine ⟨_, us' ++ [.ref b], _, putR F' c, N ++ [c], rfl, kx.trans kx2, upd_same, by rw [List.length_append]; show _ + 1 ≤ _; omega, ?_, ?_, fun r' => ?_, by rw [upd_ne qf.symm, upd_same], kyG.put c _, ?_, mF⟩
      · rw [← List.append_assoc]
        exact RwE.append (hu'.keep ktG) (.cons ⟨b, rfl, ktG.1 _ _ hbG⟩ .nil)
      · refine List.nodup_append.mpr ⟨ndN, by simp, fun x hx y hy e => ?_⟩
        rw [List.mem_singleton.mp hy] at e
        rw [e] at hx
        exact ncT ((hN c).mp hx).1
      · rw [List.mem_append, hN, tk, List.mem_append, List.mem_singleton]
        constructor
        · rintro (⟨z1, z2⟩ | e)
          · exact ⟨.inl z1, z2⟩
          · rw [e]; exact ⟨.inr rfl, ncF⟩
        · rintro ⟨z1 | e, z2⟩
          · exact .inl ⟨z1, z2⟩
          · exact .inr e
      · unfold putR
        rw [if_neg nc, List.length_append]
        show _ + 1 ≤ _
        omega
    · have nc : c ∈ F' := by simpa using z
      refine ⟨_, us', kw', F', N, rfl, kx, hqG, by omega, hu', ndN, fun r' => ?_, hfG, kyG, by omega, fun r' => ?_⟩
      · rw [hN, tk, List.mem_append, List.mem_singleton]
        constructor
        · rintro ⟨z1, z2⟩
          exact ⟨.inl z1, z2⟩
        · rintro ⟨z1 | e, z2⟩
          · exact ⟨z1, z2⟩
          · rw [e] at z2 ⊢
            exact ⟨((hF' c).mp nc).resolve_left z2, z2⟩
      · rw [hF', tk, List.mem_append, List.mem_singleton]
        constructor
        · rintro (z1 | z1)
          · exact .inl z1
          · exact .inr (.inl z1)
        · rintro (z1 | z1 | e)
          · exact .inl z1
          · exact .inr z1
          · rw [e]; exact (hF' c).mp nc
  · rintro σ G ⟨x3, us', kw', F', N, rfl, kx, hqG, lu, hu', ndN, hN, hfG, kyG, lF', hF'⟩
    rw [lvs, List.take_length] at hN hF'
    have kxG : KX [p, qa, fo] H G := fun b o e n => kx _ _ (k3 _ _ e n) fun z => n (List.mem_cons_of_mem _ z)
    refine ⟨_, rfl, q1 r (.ref a0) G hS kxG ⟨a0, rfl, (kt _ kxG).1 _ _ ha0⟩ ⟨⟨dx, kx _ _ ob3 pin⟩, wat.keep (kt _ kxG), ⟨kvs, kxG _ _ ht (by simp [tp, tq, tf]), tb⟩, ⟨us', W.eraseIdx j ++ N, F', kw', hqG, hu', wk.tell hF hS hr' ndN hN, hfG, kyG, found_tell wk.nd hF hS hr' hN hF'⟩, tf⟩⟩
end
end K20

namespace K20
open PySem L2 Wd Wm Km Bm Gm Hm Fm Zm
section
variable {K : PySem.W.Frag} {C : Addr} {H G : Hp} {p wa t qa fo : Addr} {names : List Str} {ties : List SS} {kd : Kd} {D : List (List Str)} {k : Nat}
theorem wl_tell (wa t qa fo : Addr) (kd : Kd) (n : Int) : (wflds wa t qa fo kd n).lookup ("tell" : Str) = none := by kernel_rfl
/-- a telling keeps tuples -/
theorem Wlk.kt (wl : Wlk K C H p wa t qa fo names ties kd D k) (kx : KX [p, qa, fo] H G) : KeepT H G := by
  obtain ⟨⟨dx, ob⟩, _, _, ⟨us, W, Fs, kw, hq, _, _, hf, _⟩, _⟩ := wl
  have no : ∀ (b : Addr) (o : HO), H b = some o → (∀ C dx fs, o ≠ .ins C dx fs) → (∀ xs, o ≠ .lst xs) → (∀ xs, o ≠ .dT xs) → b ∉ [p, qa, fo] := fun b o e n1 n2 n3 z => by
    rcases List.mem_cons.mp z with z | z
    · rw [z, ob] at e; exact n1 _ _ _ (Option.some.inj e).symm
    · rcases List.mem_cons.mp z with z | z
      · rw [z, hq] at e; exact n2 _ (Option.some.inj e).symm
      · rw [List.mem_singleton.mp z, hf] at e; exact n3 _ (Option.some.inj e).symm
  exact ⟨(fun b xs e => kx _ _ e (no b _ e (fun _ _ _ z => by cases z) (fun _ z => by cases z) (fun _ z => by cases z))), (fun b o u e => kx _ _ e (no b _ e (fun _ _ _ z => by cases z) (fun _ z => by cases z) (fun _ z => by cases z)))⟩
/-- its places hold something -/
theorem Wlk.at (wl : Wlk K C H p wa t qa fo names ties kd D k) : ∀ b ∈ [p, t, qa, fo], H b ≠ none := by
  obtain ⟨⟨dx, ob⟩, _, ⟨kvs, ht, _⟩, ⟨us, W, Fs, kw, hq, _, _, hf, _⟩, _⟩ := wl
  intro b hb e
  simp only [List.mem_cons, List.not_mem_nil, or_false] at hb
  rcases hb with rfl | rfl | rfl | rfl
  · rw [ob] at e; cases e
  · rw [ht] at e; cases e
  · rw [hq] at e; cases e
  · rw [hf] at e; cases e
theorem Wlk.ins (wl : Wlk K C H p wa t qa fo names ties kd D k) : ∃ dx, H p = some (.ins C dx (wflds wa t qa fo kd (fils names (gK ties kd) D k : Nat))) := wl.ob
end
end K20

namespace K20
open PySem L2 Wd Wm Km Bm Gm Hm Fm Zm
section
variable {P : Program} {w : World} {K : PySem.W.Frag} {mg : Str → Option Value} {base : Heap}
/-- the numbers of a walk: fillings, rows that wait, told rows -/
def spNm (K : PySem.W.Frag) (C : Addr) (what : List Str → List SS → Kd → List (List Str) → Nat → Int → Prop) : Sp := fun vs H Q _ => ∃ (p wa t qa fo : Addr) (kd : Kd) (names : List Str) (ties : List SS) (D : List (List Str)) (k : Nat), vs = [.ref p] ∧ Wlk K C H p wa t qa fo names ties kd D k ∧ names.length ≤ 14 ∧ AllOf names (gK ties kd) D ∧ k ≤ D.length ∧ ∀ n, what names ties kd D k n → Q (.int n) H
def nFil (names : List Str) (ties : List SS) (kd : Kd) (D : List (List Str)) (k : Nat) (n : Int) : Prop := n = (fils names (gK ties kd) D k : Nat)
def nWai (names : List Str) (ties : List SS) (kd : Kd) (D : List (List Str)) (k : Nat) (n : Int) : Prop := ∃ W, Wk names (gK ties kd) D k W ∧ n = (W.length : Nat)
def nTol (names : List Str) (ties : List SS) (kd : Kd) (D : List (List Str)) (k : Nat) (n : Int) : Prop := n = (k : Nat)
theorem sc_fillings : FnScope ["self"] ["self"] (defScope s_Walk_fillings) := ⟨rfl, rfl, rfl, by decide +kernel, rfl, by decide +kernel, by decide +kernel⟩
theorem ok_fillings {f C : Addr} {fd : FuncData} (F : Fun K "fillings" "Walk.fillings" s_Walk_fillings f fd) (TW : TxW K mg C) : FnOk P w K mg base CX0 1 f fd ["self"] (spNm K C nFil) := by
  have nd := sc_fillings.nd
  refine F.ok sc_fillings (fun vs H Q E h => ?_) (fun cdv A outer s H vs Q E hr h => ?_)
  · obtain ⟨p, wa, t, qa, fo, kd, names, ties, D, k, rfl, _⟩ := h
    rfl
  obtain ⟨p, wa, t, qa, fo, kd, names, ties, D, k, rfl, wl, h14, AO, hk, q⟩ := h
  obtain ⟨dx, ob⟩ := wl.ob
  refine SB.use (bone
  (bret (efld (ev 0 rfl (Or.inl (by kernel_rfl)) (by kernel_rfl) (by kernel_rfl)) (by kernel_rfl)))) ?_
  exact ⟨_, rfl, p, C, dx, _, _, rfl, ob, TW.cl, TW.nN, wl_n _ _ _ _ _ _, q _ rfl⟩
theorem sc_waiting : FnScope ["self"] ["self"] (defScope s_Walk_waiting) := ⟨rfl, rfl, rfl, by decide +kernel, rfl, by decide +kernel, by decide +kernel⟩
theorem ok_waiting {f C : Addr} {fd : FuncData} (F : Fun K "waiting" "Walk.waiting" s_Walk_waiting f fd) (T : Tx mg) (TW : TxW K mg C) : FnOk P w K mg base CX0 1 f fd ["self"] (spNm K C nWai) := by
  have nd := sc_waiting.nd
  refine F.ok sc_waiting (fun vs H Q E h => ?_) (fun cdv A outer s H vs Q E hr h => ?_)
  · obtain ⟨p, wa, t, qa, fo, kd, names, ties, D, k, rfl, _⟩ := h
    rfl
  obtain ⟨p, wa, t, qa, fo, kd, names, ties, D, k, rfl, wl, h14, AO, hk, q⟩ := h
  obtain ⟨⟨dx, ob⟩, _, _, ⟨us, W, Fs, kw, hq, hus, wk, hf, ky, hF⟩, _⟩ := wl
  refine SB.use (bone
  (bret (ecallB call_len_seq (by unfold Gl; kernel_rfl) T.len L2.boot_len (acons (efld (ev 0 rfl (Or.inl (by kernel_rfl)) (by kernel_rfl) (by kernel_rfl)) (by kernel_rfl)) anil (by kernel_rfl)) (by decide +kernel) (by kernel_rfl) (by kernel_rfl) (by kernel_rfl)))) ?_
  refine ⟨_, rfl, p, C, dx, _, _, rfl, ob, TW.cl, TW.nQ, wl_q _ _ _ _ _ _, qa, _, rfl, .inl (SqL.of hq), q _ ⟨W, wk, ?_⟩⟩
  rw [Paired.length hus]
theorem sc_told : FnScope ["self"] ["self"] (defScope s_Walk_told) := ⟨rfl, rfl, rfl, by decide +kernel, rfl, by decide +kernel, by decide +kernel⟩
theorem ok_told {f C : Addr} {fd : FuncData} (F : Fun K "told" "Walk.told" s_Walk_told f fd) (T : Tx mg) (TW : TxW K mg C) : FnOk P w K mg base CX0 1 f fd ["self"] (spNm K C nTol) := by
  have nd := sc_told.nd
  refine F.ok sc_told (fun vs H Q E h => ?_) (fun cdv A outer s H vs Q E hr h => ?_)
  · obtain ⟨p, wa, t, qa, fo, kd, names, ties, D, k, rfl, _⟩ := h
    rfl
  obtain ⟨p, wa, t, qa, fo, kd, names, ties, D, k, rfl, wl, h14, AO, hk, q⟩ := h
  obtain ⟨⟨dx, ob⟩, _, _, ⟨us, W, Fs, kw, hq, hus, wk, hf, ky, hF⟩, _⟩ := wl
  refine SB.use (bone
  (bret (eop op_sub (ecallB call_lenT (by unfold Gl; kernel_rfl) T.len L2.boot_len (acons (efld (ev 0 rfl (Or.inl (by kernel_rfl)) (by kernel_rfl) (by kernel_rfl)) (by kernel_rfl)) anil (by kernel_rfl)) (by decide +kernel) (by kernel_rfl) (by kernel_rfl) (by kernel_rfl)) (ecallB call_len_seq (by unfold Gl; kernel_rfl) T.len L2.boot_len (acons (efld (ev 0 rfl (Or.inl (by kernel_rfl)) (by kernel_rfl) (by kernel_rfl)) (by kernel_rfl)) anil (by kernel_rfl)) (by decide +kernel) (by kernel_rfl) (by kernel_rfl) (by kernel_rfl))))) ?_
  refine ⟨_, rfl, p, C, dx, _, _, rfl, ob, TW.cl, TW.nF, wl_f _ _ _ _ _ _, fo, kw, rfl, hf, _, rfl, p, C, dx, _, _, rfl, ob, TW.cl, TW.nQ, wl_q _ _ _ _ _ _, qa, _, rfl, .inl (SqL.of hq), _, _, rfl, rfl, q _ ?_⟩
  have l1 : Fs.length = W.length + k := told_len AO wk hF ky.2 hk
  have l2 := Paired.length hus
  show (kw.length : Int) - (us.length : Int) = (k : Int)
  rw [ky.len, l2, l1]
  omega
end
end K20

namespace K20
open PySem L2 Wd Wm Tm Km Bm Gm Hm Fm Ym Am Zm
section
variable {P : Program} {w : World} {K : PySem.W.Frag} {mg : Str → Option Value} {base : Heap}
/-- what a telling told: a row, or none -/
def TV (H : Hp) (v : V) : Option (List Str) → Prop
  | none => v = .non
  | some r => IsRowH H v r
theorem TV.keep {H H' : Hp} {v : V} {o : Option (List Str)} (h : TV H v o) (k : KeepT H H') : TV H' v o := by
  cases o with
  | none => exact h
  | some r => exact IsRowH.keep h k
theorem TV.nx {K : PySem.W.Frag} {H : Hp} {v : V} {o : Option (List Str)} (h : TV H v o) : NxV K H v o := by
  cases o with
  | none => exact h
  | some r => exact IsRowH.t h
theorem TV.none_iff {H : Hp} {v : V} {o : Option (List Str)} (h : TV H v o) : decide (v = V.non) = o.isNone := by
  cases o with
  | none => rw [show v = V.non from h]; rfl
  | some r =>
    obtain ⟨a, rfl, _⟩ := h
    exact decide_eq_false (fun z => by cases z)
/-- a telling, row or none, as one -/
def stp (D : List (List Str)) (k : Nat) : Nat := min (k + 1) D.length
theorem tell_both {C : Addr} {vs : List V} {H : Hp} {Q : VK} {E : XK} {p wa t qa fo : Addr} {kd : Kd} {names : List Str} {ties : List SS} {D : List (List Str)} {k : Nat} (ev : vs = [.ref p]) (wl : Wlk K C H p wa t qa fo names ties kd D k) (wok : WebOk names ties) (h14 : names.length ≤ 14) (hk : kd ≠ .C) (AO : AllOf names (gK ties kd) D) (hkD : k ≤ D.length)
    (q : ∀ (v : V) (H' : Hp), KX [p, qa, fo] H H' → TV H' v D[k]? → Wlk K C H' p wa t qa fo names ties kd D (stp D k) → Q v H') : spTell K C vs H Q E := by
  refine ⟨p, wa, t, qa, fo, kd, names, ties, D, k, ev, wl, wok, h14, hk, AO, fun S v H' hS kx row wl' => ?_, fun hle => ?_⟩
  · have hl := (List.getElem?_eq_some_iff.mp hS).1
    refine q v H' kx (by rw [hS]; exact row) ?_
    rw [show stp D k = k + 1 from by unfold stp; omega]
    exact wl'
  · refine q .non H (KX.refl _ _) (by rw [List.getElem?_eq_none_iff.mpr hle]; rfl) ?_
    rw [show stp D k = k from by unfold stp; omega]
    exact wl
def intsD (ns : List Int) : PyData := .list (ns.map PyData.int)
theorem dpAll_ints {H : Hp} : ∀ ns : List Int, DpAll K H (ns.map V.int) (ns.map PyData.int)
  | [] => .nil
  | _ :: r => .cons (.int _) (dpAll_ints r)
theorem eqvAll_ints : ∀ ns : List Int, PyData.eqvAll (ns.map PyData.int) (ns.map PyData.int) = true
  | [] => by simp [PyData.eqvAll]
  | x :: r => by
    have := eqvAll_ints r
    simp [PyData.eqvAll, PyData.eqv, this]
theorem eqv_ints (ns : List Int) : PyData.eqv (intsD ns) (intsD ns) = true := by
  unfold intsD
  rw [PyData.eqv]
  exact eqvAll_ints ns
theorem layAll_ints : ∀ ns : List Int, PyData.canLayAll0 (ns.map PyData.int) = true
  | [] => rfl
  | x :: r => by
    have := layAll_ints r
    simp [PyData.canLayAll0, PyData.canLay0, this]
theorem dep_ints : ∀ ns : List Int, PyData.depthAll (ns.map PyData.int) = 0
  | [] => by simp [PyData.depthAll]
  | x :: r => by
    have := dep_ints r
    simp [PyData.depthAll, PyData.depth, this]
theorem four {P : Addr → Prop} {a b c d : Addr} (h1 : P a) (h2 : P b) (h3 : P c) (h4 : P d) : ∀ x ∈ [a, b, c, d], P x := by
  intro x hx
  simp only [List.mem_cons, List.not_mem_nil, or_false] at hx
  rcases hx with rfl | rfl | rfl | rfl <;> assumption
theorem three {a b c d x : Addr} (h : x ∈ [a, c, d]) : x ∈ [a, b, c, d] := by
  simp only [List.mem_cons, List.not_mem_nil, or_false] at h ⊢
  rcases h with h | h | h
  · exact .inl h
  · exact .inr (.inr (.inl h))
  · exact .inr (.inr (.inr h))
end
end K20

namespace K20
open PySem L2 Wd Wm Tm Km Bm Gm Hm Fm Ym Am Zm
section
variable {P : Program} {w : World} {K : PySem.W.Frag} {mg : Str → Option Value} {base : Heap}
theorem paired_two {α β : Type} {R : α → β → Prop} : ∀ {xs xs' : List α} {ys ys' : List β}, Paired R xs ys → Paired R xs' ys' → Paired R (xs ++ xs') (ys ++ ys')
  | _, _, _, _, .nil, h => h
  | _, _, _, _, .cons h t, h' => .cons h (paired_two t h')
/-! ### _law_told -/
def spToldW (K : PySem.W.Frag) : Sp := fun vs H Q _ => ∃ (wa : Addr) (kd : Kd) (names : List Str) (ties : List SS) (D : List (List Str)), vs = [.ref wa, .str kd.s] ∧ WebAt K H wa names ties ∧ WebOk names ties ∧ names.length ≤ 14 ∧ kd ≠ .C ∧ AllOf names (gK ties kd) D ∧
  ∀ (r : Addr) (us : List V) (H' : Hp), Same H H' → H r = none → H' r = some (.lst us) → RwE H' us D → Q (.ref r) H'
theorem sc_toldw : FnScope ["web", "kind", "walk", "found", "row"] ["web", "kind"] (defScope s_law_told) := ⟨rfl, rfl, rfl, by decide +kernel, rfl, by decide +kernel, by decide +kernel⟩
theorem ok_toldw {f fI fT C : Addr} {fd fdI fdT : FuncData} (F : Fun K "_law_told" "_law_told" s_law_told f fd) (T : Tx mg) (TW : TxW K mg C)
    (K_Walk : Mk K C fI) (G_Walk : FnOk P w K mg base CX0 3 fI fdI ["self", "web", "kind"] (spIni K C)) (b_Walk : Binds K fdI ["self", "web", "kind"] []) (e_Walk_tell : Meth K C "tell" fT) (G_Walk_tell : FnOk P w K mg base CX0 4 fT fdT ["self"] (spTell K C)) (b_Walk_tell : Binds K fdT ["self"] []) : FnOk P w K mg base CX0 5 f fd ["web", "kind"] (spToldW K) := by
  have nd := sc_toldw.nd
  have m_Walk := TW.m
  have c_Walk := TW.cl
  refine F.ok sc_toldw (fun vs H Q E h => ?_) (fun cdv A outer s H vs Q E hr h => ?_)
  · obtain ⟨wa, kd, names, ties, D, rfl, _⟩ := h
    rfl
  have hr_Walk := hr.mono (j := 4) (by decide)
  have hr_Walk_tell := hr_Walk
  obtain ⟨wa, kd, names, ties, D, rfl, wat, wok, h14, hk, AO, q⟩ := h
  have h300 : ties.length ≤ 300 := Nat.le_trans (ties_le wok h14) (by decide)
  have hall := (allK_of wok hk).mpr AO
  have few := hall.few (by omega)
  have posD : 0 < D.length := List.length_pos_iff.mpr (hall.ne wok)
  refine SB.use (bcons
  (bset (n := 2) nd rfl (Or.inl (by kernel_rfl)) (emake K_Walk G_Walk hr_Walk (by unfold Gl; kernel_rfl) m_Walk b_Walk .nil pass0 (acons (ev 0 rfl (Or.inl (by kernel_rfl)) (by kernel_rfl) (by kernel_rfl)) (acons (ev 1 rfl (Or.inl (by kernel_rfl)) (by kernel_rfl) (by kernel_rfl)) anil (by kernel_rfl)) (by kernel_rfl)) (by kernel_rfl) (by kernel_rfl) (by kernel_rfl)) (by kernel_rfl) (.inl rfl))
  (bcons
  (bset (n := 3) nd rfl (Or.inl (by kernel_rfl)) (elst anil) (by kernel_rfl) (.inl rfl))
  (bcons
  (bset (n := 4) nd rfl (Or.inl (by kernel_rfl)) (emeth0 (ev 2 rfl (Or.inl (by kernel_rfl)) (by kernel_rfl) (by kernel_rfl)) c_Walk e_Walk_tell G_Walk_tell hr_Walk_tell b_Walk_tell .nil pass0 _ rfl) (by kernel_rfl) (.inl rfl))
  (bcons
  (bwhile PassesOwn.never (tcmp op_notN (ev 4 rfl (Or.inl (by kernel_rfl)) (by kernel_rfl) (by kernel_rfl)) enon (nomark _)) (bcons
  (bexpr (ebm PySem.F.plainAttrs_list PySem.F.slot_list_append PySem.F.type_list_append mt_append (ev 3 rfl (Or.inl (by kernel_rfl)) (by kernel_rfl) (by kernel_rfl)) (acons (ev 4 rfl (Or.inl (by kernel_rfl)) (by kernel_rfl) (by kernel_rfl)) anil (by kernel_rfl)) (by kernel_rfl) (by kernel_rfl) (by kernel_rfl) (by kernel_rfl) (by kernel_rfl)) (by kernel_rfl))
  (bone
  (bset (n := 4) nd rfl (Or.inl (by kernel_rfl)) (emeth0 (ev 2 rfl (Or.inl (by kernel_rfl)) (by kernel_rfl) (by kernel_rfl)) c_Walk e_Walk_tell G_Walk_tell hr_Walk_tell b_Walk_tell .nil pass0 _ rfl) (by kernel_rfl) (.inl rfl)))))
  (bone
  (bret (ev 3 rfl (Or.inl (by kernel_rfl)) (by kernel_rfl) (by kernel_rfl)))))))) ?_
  refine ⟨_, rfl, _, rfl, fun x dx nx ndx nex => ⟨x, dx, wa, kd, names, ties, D, rfl, upd_same, wat.keep (made_same nx ndx).keepT, wok, h14, h300, hk, AO, fun t qa fo H2 nt nq nf kx wl => ⟨rfl, ?_⟩⟩⟩
  have s2 : Same H H2 := KX.same (made_same nx ndx) (fun b hb => by rw [List.mem_singleton.mp hb]; exact nx) kx
  have nS : ∀ b ∈ [x, qa, fo], H b = none := by
    intro b hb
    simp only [List.mem_cons, List.not_mem_nil, or_false] at hb
    rcases hb with rfl | rfl | rfl
    · exact nx
    · exact (made_same nx ndx).free nq
    · exact (made_same nx ndx).free nf
  -- found
  refine ⟨Nat.zero_le _, fun l hl => ?_⟩
  have s3 := same_new hl (.lst [])
  have l3 := at_new hl (.lst [])
  have s13 := s2.trans s3
  have wl3 := wl.same s3
  have nlw : ∀ b ∈ [x, t, qa, fo], b ≠ l := fun b hb e => wl.at b hb (by rw [e]; exact hl)
  have nl1 := s2.free hl
  have lS : l ∉ [x, qa, fo] := fun z => by
    simp only [List.mem_cons, List.not_mem_nil, or_false] at z
    rcases z with z | z | z
    · exact nlw x (by simp) z.symm
    · exact nlw qa (by simp) z.symm
    · exact nlw fo (by simp) z.symm
  generalize upd H2 l (.lst []) = H3 at s3 l3 s13 wl3 ⊢
  obtain ⟨dx3, ob3⟩ := wl3.ins
  refine ⟨_, rfl, x, dx3, _, rfl, ob3, wl_tell _ _ _ _ _ _, tell_both (E := E0) rfl wl3 wok h14 hk AO (Nat.zero_le _) fun v0 H4 kx4 tv4 wl4 => ?_⟩
  have s14 : Same H H4 := KX.same s13 nS kx4
  have l4 := kx4 _ _ l3 lS
  refine ⟨fun m σ G => ∃ (k : Nat) (v : V) (vs : List V), m = D.length - k ∧ k ≤ D.length ∧ σ = [some (.ref wa), some (.str kd.s), some (.ref x), some (.ref l), some v] ∧ Same H G ∧ Wlk K C G x wa t qa fo names ties kd D (stp D k) ∧ G l = some (.lst vs) ∧ RwE G vs (D.take k) ∧ TV G v D[k]?, ⟨_, 0, v0, [], rfl, Nat.zero_le _, rfl, s14, wl4, l4, .nil, tv4⟩, ?_⟩
  rintro m σ G ⟨k, v, vs, rfl, hkD, rfl, sG, wlG, lG, hvs, tvG⟩
  have lvs := Paired.length hvs
  rw [List.length_take] at lvs
  refine ⟨_, rfl, rfl, _, rfl, ?_⟩
  rw [tvG.none_iff]
  have stl : ∀ j, stp D j ≤ D.length := fun j => by unfold stp; omega
  cases eo : D[k]? with
  | none =>
    have hkl : D.length ≤ k := List.getElem?_eq_none_iff.mp eo
    have ek : k = D.length := by omega
    rw [ek, List.take_length] at hvs
    refine iteF ?_
    exact ⟨_, rfl, q l vs G sG nl1 lG hvs⟩
  | some S =>
    rw [eo] at tvG
    obtain ⟨ra, rfl, hra⟩ := tvG
    have hkl : k < D.length := (List.getElem?_eq_some_iff.mp eo).1
    have es : stp D k = k + 1 := by unfold stp; omega
    have tk : D.take (k + 1) = D.take k ++ [S] := by rw [List.take_succ, eo]; rfl
    refine iteT ⟨fun σ' G' => ∃ (v' : V) (vs' : List V), σ' = [some (.ref wa), some (.str kd.s), some (.ref x), some (.ref l), some v'] ∧ Same H G' ∧ Wlk K C G' x wa t qa fo names ties kd D (stp D (k + 1)) ∧ G' l = some (.lst vs') ∧ RwE G' vs' (D.take (k + 1)) ∧ TV G' v' D[k + 1]?, fun σ' G' ⟨v', vs', h1, h2, h3, h4, h5, h6⟩ => ⟨D.length - (k + 1), by omega, k + 1, v', vs', rfl, by omega, h1, h2, h3, h4, h5, h6⟩, ?_⟩
    refine ⟨_, rfl, .inl ⟨rfl, _, SqL.of lG⟩, _, rfl, l, vs, .ref ra, rfl, rfl, lG, (by rw [sizeLine_eq]; omega), ?_⟩
    have kt1 : KeepT G (upd G l (.lst (vs ++ [.ref ra]))) := keepT_upd lG _
    have sG1 := same_w sG nl1 (.lst (vs ++ [.ref ra]))
    have wl1 := wlG.keep kt1 (fun b hb o eb => by rw [upd_ne (nlw b hb)]; exact eb)
    have l1 := upd_same (H := G) (a := l) (o := .lst (vs ++ [.ref ra]))
    have hra1 := kt1.1 _ _ hra
    have hvs1 : RwE (upd G l (.lst (vs ++ [.ref ra]))) (vs ++ [.ref ra]) (D.take (k + 1)) := by
      rw [tk]
      exact RwE.append (hvs.keep kt1) (.cons ⟨ra, rfl, hra1⟩ .nil)
    generalize upd G l (.lst (vs ++ [.ref ra])) = G1 at kt1 sG1 wl1 l1 hra1 hvs1 ⊢
    obtain ⟨dx1, ob1⟩ := wl1.ins
    refine ⟨_, rfl, x, dx1, _, rfl, ob1, wl_tell _ _ _ _ _ _, tell_both (E := E0) rfl wl1 wok h14 hk AO (stl k) fun v2 G2 kx2 tv2 wl2 => ?_⟩
    rw [es] at tv2 wl2
    have kt2 := wl1.kt kx2
    exact ⟨v2, _, rfl, KX.same sG1 nS kx2, wl2, kx2 _ _ l1 lS, hvs1.keep kt2, tv2⟩
/-! ### _law_one_more -/
def spMore (K : PySem.W.Frag) : Sp := fun vs H Q _ => ∃ (wa : Addr) (kd : Kd) (names : List Str) (ties : List SS), vs = [.ref wa, .str kd.s] ∧ WebAt K H wa names ties ∧ WebOk names ties ∧ names.length ≤ 13 ∧ kd ≠ .C ∧ z8 ∉ names ∧ ∀ H', Same H H' → Q (.bl true) H'
theorem sc_more : FnScope ["web", "kind", "names", "ties", "more", "all_tied", "name", "none_tied", "told", "wider", "row", "beside", "found"] ["web", "kind"] (defScope s_law_one_more) := ⟨rfl, rfl, rfl, by decide +kernel, rfl, by decide +kernel, by decide +kernel⟩
def rws2D (L M : List (List Str)) : PyData := .list [rowsD L, rowsD M]
theorem eqv_2 (L M : List (List Str)) : PyData.eqv (rws2D L M) (rws2D L M) = true := by
  unfold rws2D
  rw [PyData.eqv]
  simp [PyData.eqvAll, eqv_rows]
theorem shaped_2 {L M : List (List Str)} (hL : ∀ r ∈ L, ∀ x ∈ r, Wd.Lt x) (hM : ∀ r ∈ M, ∀ x ∈ r, Wd.Lt x) : SeqAt.shaped (rws2D L M) = true := by
  unfold SeqAt.shaped
  have d1 := dep_rows L
  have d2 := dep_rows M
  have e1 : (rws2D L M).canLay0 = true := by simp only [rws2D, rowsD, PyData.canLay0, PyData.canLayAll0, layAll_rows hL, layAll_rows hM, Bool.and_true]
  have e2 : (rws2D L M).depth ≤ 64 := by
    simp only [rws2D, rowsD, PyData.depth, PyData.depthAll]
    omega
  rw [e1, decide_eq_true e2]
  rfl
theorem ok_more {f : Addr} {fd : FuncData} (F : Fun K "_law_one_more" "_law_one_more" s_law_one_more f fd) (T : Tx mg) (oT : Own P w K mg base 5 "_law_told" ["web", "kind"] (spToldW K)) : FnOk P w K mg base CX0 6 f fd ["web", "kind"] (spMore K) := by
  have nd := sc_more.nd
  obtain ⟨f1, fd1, G_law_told, b_law_told, k_law_told, m_law_told⟩ := oT
  refine F.ok sc_more (fun vs H Q E h => ?_) (fun cdv A outer s H vs Q E hr h => ?_)
  · obtain ⟨wa, kd, names, ties, rfl, _⟩ := h
    rfl
  have hr_law_told := hr
  obtain ⟨wa, kd, names, ties, rfl, wat, wok, h13, hk, hz, q⟩ := h
  have h14 : names.length ≤ 14 := by omega
  have lt98 := ties_le wok h14
  obtain ⟨na, ta, tv, h1, h2, h3, h4⟩ := id wat.at_
  have ltv := Paired.length h4
  have hlt : ∀ a ∈ names, sLt a z8 := fun a ha => z8_lt (wok.nw a ha).1 fun e => by subst e; exact hz ha
  refine SB.use (bcons
  (basg (ev 0 rfl (Or.inl (by kernel_rfl)) (by kernel_rfl) (by kernel_rfl)) (gtup (n := 2) rfl (gscons (gname (n := 2) nd rfl (Or.inl (by kernel_rfl)) (.inl rfl)) (gscons (gname (n := 3) nd rfl (Or.inl (by kernel_rfl)) (.inl rfl)) gsnil (by kernel_rfl)) (by kernel_rfl)) (by kernel_rfl) (by kernel_rfl)) (by kernel_rfl) (by kernel_rfl) (by kernel_rfl))
  (bcons
  (bset (n := 4) nd rfl (Or.inr (by kernel_rfl)) estr (by kernel_rfl) (.inl rfl))
  (bcons
  (bset (n := 5) nd rfl (Or.inl (by kernel_rfl)) (etup (acons (eop op_catA (ev 2 rfl (Or.inl (by kernel_rfl)) (by kernel_rfl) (by kernel_rfl)) (etup (acons (ev 4 rfl (Or.inr (Or.inl (by kernel_rfl))) (by kernel_rfl) (by kernel_rfl)) anil (by kernel_rfl)))) (acons (ecallT call_tuple_of (by unfold Gl; kernel_rfl) T.tuple L2.boot_tuple (acons (ecallB cr_sortedPT (by unfold Gl; kernel_rfl) T.sorted L2.boot_sorted (acons (eop op_catA (ev 3 rfl (Or.inl (by kernel_rfl)) (by kernel_rfl) (by kernel_rfl)) (ecallT call_tuple_of (by unfold Gl; kernel_rfl) T.tuple L2.boot_tuple (acons (elc (own := [("name", 6)]) (g := gName 6) (by rfl) nd (itup (ev 2 rfl (Or.inl (by kernel_rfl)) (by kernel_rfl) (by kernel_rfl))) (blkOk_by (own := [("name", 6)]) (N := ["web", "kind", "names", "ties", "more", "all_tied", "name", "none_tied", "told", "wider", "row", "beside", "found"]) (sc := defScope s_law_one_more) (by decide +kernel)) (fun _ _ _ _ _ => (gname (n := 6) nd rfl (Or.inl (by kernel_rfl)) (.inr (by kernel_rfl)))) (fun _ _ _ _ _ => unil) (fun _ _ _ _ _ => (etup (acons (ev 6 rfl (Or.inl (by kernel_rfl)) (by kernel_rfl) (by kernel_rfl)) (acons (ev 4 rfl (Or.inr (Or.inl (by kernel_rfl))) (by kernel_rfl) (by kernel_rfl)) anil (by kernel_rfl)) (by kernel_rfl)))) (by intro _; rfl)) anil (by kernel_rfl)) (by decide +kernel) (by kernel_rfl) (by kernel_rfl) (by kernel_rfl))) anil (by kernel_rfl)) (by decide +kernel) (by kernel_rfl) (by kernel_rfl) (by kernel_rfl)) anil (by kernel_rfl)) (by decide +kernel) (by kernel_rfl) (by kernel_rfl) (by kernel_rfl)) anil (by kernel_rfl)) (by kernel_rfl))) (by kernel_rfl) (.inl rfl))
  (bcons
  (bset (n := 7) nd rfl (Or.inl (by kernel_rfl)) (etup (acons (eop op_catA (ev 2 rfl (Or.inl (by kernel_rfl)) (by kernel_rfl) (by kernel_rfl)) (etup (acons (ev 4 rfl (Or.inr (Or.inl (by kernel_rfl))) (by kernel_rfl) (by kernel_rfl)) anil (by kernel_rfl)))) (acons (ev 3 rfl (Or.inl (by kernel_rfl)) (by kernel_rfl) (by kernel_rfl)) anil (by kernel_rfl)) (by kernel_rfl))) (by kernel_rfl) (.inl rfl))
  (bcons
  (bset (n := 8) nd rfl (Or.inl (by kernel_rfl)) (ecall G_law_told hr_law_told (by unfold Gl; kernel_rfl) m_law_told k_law_told b_law_told .nil pass0 (acons (ev 0 rfl (Or.inl (by kernel_rfl)) (by kernel_rfl) (by kernel_rfl)) (acons (ev 1 rfl (Or.inl (by kernel_rfl)) (by kernel_rfl) (by kernel_rfl)) anil (by kernel_rfl)) (by kernel_rfl)) (by kernel_rfl) (by kernel_rfl) (by kernel_rfl)) (by kernel_rfl) (.inl rfl))
  (bcons
  (bsetLc (n := 9) (own := [("row", 10)]) (g := gName 10) (by rfl) nd rfl rfl (sw_true rfl rfl rfl (by decide +kernel)) (ilist (ev 8 rfl (Or.inl (by kernel_rfl)) (by kernel_rfl) (by kernel_rfl))) (blkOk_by (own := [("row", 10)]) (N := ["web", "kind", "names", "ties", "more", "all_tied", "name", "none_tied", "told", "wider", "row", "beside", "found"]) (sc := defScope s_law_one_more) (by decide +kernel)) (fun _ _ _ _ _ => (gname (n := 10) nd rfl (Or.inl (by kernel_rfl)) (.inr (by kernel_rfl)))) (fun _ _ _ _ _ => unil) (fun _ _ _ _ _ => (eop (op_catAK (K := K) rfl) (ev 10 rfl (Or.inl (by kernel_rfl)) (by kernel_rfl) (by kernel_rfl)) (etup (acons (ev 4 rfl (Or.inr (Or.inl (by kernel_rfl))) (by kernel_rfl) (by kernel_rfl)) anil (by kernel_rfl))))) (by intro _; rfl))
  (bcons
  (bset (n := 11) nd rfl (Or.inl (by kernel_rfl)) (eop op_cat (eop op_rep (ev 8 rfl (Or.inl (by kernel_rfl)) (by kernel_rfl) (by kernel_rfl)) (ecallT call_int1 (by unfold Gl; kernel_rfl) T.int L2.boot_int (acons (ecmp (op_neD hr.units) (ev 2 rfl (Or.inl (by kernel_rfl)) (by kernel_rfl) (by kernel_rfl)) (etup anil) (nomark _)) anil (by kernel_rfl)) (by decide +kernel) (by kernel_rfl) (by kernel_rfl) (by kernel_rfl))) (elst (acons (etup (acons (ev 4 rfl (Or.inr (Or.inl (by kernel_rfl))) (by kernel_rfl) (by kernel_rfl)) anil (by kernel_rfl))) anil (by kernel_rfl)))) (by kernel_rfl) (.inl rfl))
  (bcons
  (bset (n := 12) nd rfl (Or.inl (by kernel_rfl)) (elst (acons (ecall G_law_told hr_law_told (by unfold Gl; kernel_rfl) m_law_told k_law_told b_law_told .nil pass0 (acons (ev 5 rfl (Or.inl (by kernel_rfl)) (by kernel_rfl) (by kernel_rfl)) (acons (ev 1 rfl (Or.inl (by kernel_rfl)) (by kernel_rfl) (by kernel_rfl)) anil (by kernel_rfl)) (by kernel_rfl)) (by kernel_rfl) (by kernel_rfl) (by kernel_rfl)) (acons (ecall G_law_told hr_law_told (by unfold Gl; kernel_rfl) m_law_told k_law_told b_law_told .nil pass0 (acons (ev 7 rfl (Or.inl (by kernel_rfl)) (by kernel_rfl) (by kernel_rfl)) (acons (ev 1 rfl (Or.inl (by kernel_rfl)) (by kernel_rfl) (by kernel_rfl)) anil (by kernel_rfl)) (by kernel_rfl)) (by kernel_rfl) (by kernel_rfl) (by kernel_rfl)) anil (by kernel_rfl)) (by kernel_rfl))) (by kernel_rfl) (.inl rfl))
  (bone
  (bret (ecmp (op_eqD hr.units) (ev 12 rfl (Or.inl (by kernel_rfl)) (by kernel_rfl) (by kernel_rfl)) (eix ix_list (elst (acons (elst (acons (ev 9 rfl (Or.inl (by kernel_rfl)) (by kernel_rfl) (by kernel_rfl)) (acons (ev 11 rfl (Or.inl (by kernel_rfl)) (by kernel_rfl) (by kernel_rfl)) anil (by kernel_rfl)) (by kernel_rfl))) (acons (elst (acons (ev 11 rfl (Or.inl (by kernel_rfl)) (by kernel_rfl) (by kernel_rfl)) (acons (ev 9 rfl (Or.inl (by kernel_rfl)) (by kernel_rfl) (by kernel_rfl)) anil (by kernel_rfl)) (by kernel_rfl))) anil (by kernel_rfl)) (by kernel_rfl))) (ecallT call_int1 (by unfold Gl; kernel_rfl) T.int L2.boot_int (acons (ecmp op_eq (ev 1 rfl (Or.inl (by kernel_rfl)) (by kernel_rfl) (by kernel_rfl)) estr (nomark _)) anil (by kernel_rfl)) (by decide +kernel) (by kernel_rfl) (by kernel_rfl) (by kernel_rfl)) (fun _ _ => rfl)) (nomark _)))))))))))) ?_
  -- names, ties
  refine ⟨_, rfl, wa, _, rfl, h1, rfl, _, _, rfl, _, _, rfl, rfl, ?_⟩
  have e1z : names.map V.str ++ [V.str z8] = (names ++ [z8]).map V.str := by rw [List.map_append]; rfl
  have ln1 : (names.map V.str).length + [V.str z8].length ≤ sizeLine := by rw [List.length_map, sizeLine_eq]; show names.length + 1 ≤ _; omega
  -- tied to all
  refine ⟨_, rfl, _, rfl, (by show 1 ≤ sizeLine; decide), fun t1 ht1 => ?_⟩
  have s1 := same_new ht1 (.tup [V.str z8])
  refine ⟨na, t1, _, [V.str z8], rfl, rfl, s1.seqT h2, SqT.of upd_same, ln1, fun n1 G1 g1 hn1 => ?_⟩
  have k1 := s1.trans g1
  rw [e1z] at hn1
  refine ⟨_, rfl, _, rfl, na, rfl, ⟨_, k1.seqT h2⟩, fun D hD => ?_⟩
  refine lc_tup (xs := names.map V.str) (fun i G => Pp K G1 D ((names.take i).map fun a => (a, z8)) G) (Pp.start hD) (fun i G _ p => (k1.trans p.s).seqT h2) ?_ ?_
  · intro i v G4 hv p4
    obtain ⟨x, hx, rfl⟩ := str_at hv
    have hi : i < names.length := (List.getElem?_eq_some_iff.mp hx).1
    have tk : names.take (i + 1) = names.take i ++ [x] := by rw [List.take_succ, hx]; rfl
    refine ⟨rfl, tyes ⟨_, rfl, _, rfl, (by show 2 ≤ sizeLine; decide), fun t ht => ?_⟩⟩
    have p5 := p4.new ht (.tup [.str x, .str z8])
    obtain ⟨acc, hacc, hpr⟩ := id p5.v
    have hlen := Paired.length hpr
    rw [List.length_map, List.length_take] at hlen
    refine ⟨acc, hacc, (by rw [hlen]; exact small1000 (by omega)), ?_⟩
    rw [tk, List.map_append]
    exact p5.add hD hacc ⟨t, rfl, SqT.of upd_same⟩
  intro G2 p2
  rw [List.length_map, List.take_length] at p2
  obtain ⟨us, hus, hpr⟩ := id p2.v
  have lus := Paired.length hpr
  rw [List.length_map] at lus
  refine ⟨D, _, rfl, .inl ⟨SqL.of hus, fun tp htp => ?_⟩⟩
  have t3 := same_new htp (.tup us)
  have k3 := (k1.trans p2.s).trans t3
  refine ⟨ta, tp, _, _, rfl, rfl, k3.seqT h3, SqT.of upd_same, (by rw [sizeLine_eq]; omega), fun tc G4 g4 htc => ?_⟩
  have k4 := k3.trans g4
  refine ⟨tc, tv ++ us, ties ++ names.map fun a => (a, z8), rfl, htc, paired_two (Prs.same h4 k4) (hpr.same (t3.trans g4)), fun xs' T' sp hxs pm st hsp => ⟨sp, _, rfl, .inl ⟨SqL.of upd_same, fun tt htt => ⟨(by show 2 ≤ sizeLine; decide), fun aw haw => ?_⟩⟩⟩⟩
  have t5 := (same_new hsp (.lst xs')).trans (same_new htt (.tup xs'))
  have t6 := same_new haw (.tup [V.ref n1, V.ref tt])
  have k6 := (k4.trans t5).trans t6
  have wokA := all_ok wok hlt z8_ok pm st
  have watA : WebAt K (upd (upd (upd G4 sp (.lst xs')) tt (.tup xs')) aw (.tup [V.ref n1, V.ref tt])) aw (names ++ [z8]) T' := ⟨n1, tt, xs', SqT.of upd_same, ((p2.s.trans t3).trans (g4.trans (t5.trans t6))).seqT hn1, SqT.of (t6 _ _ upd_same), Prs.same hxs (t5.trans t6)⟩
  generalize upd (upd (upd G4 sp (.lst xs')) tt (.tup xs')) aw (.tup [V.ref n1, V.ref tt]) = G6 at k6 watA ⊢
  -- tied to none
  refine ⟨_, rfl, _, rfl, (by show 1 ≤ sizeLine; decide), fun t2 ht2 => ?_⟩
  have s7 := same_new ht2 (.tup [V.str z8])
  refine ⟨na, t2, _, [V.str z8], rfl, rfl, (k6.trans s7).seqT h2, SqT.of upd_same, ln1, fun n2 G7 g7 hn2 => ?_⟩
  rw [e1z] at hn2
  refine ⟨_, rfl, (by show 2 ≤ sizeLine; decide), fun nw hnw => ?_⟩
  have t8 := same_new hnw (.tup [V.ref n2, V.ref ta])
  have g78 := (s7.trans g7).trans t8
  have k8 := k6.trans g78
  have wokN := none_ok wok hlt z8_ok
  have watN : WebAt K (upd G7 nw (.tup [V.ref n2, V.ref ta])) nw (names ++ [z8]) ties := ⟨n2, ta, tv, SqT.of upd_same, t8.seqT hn2, k8.seqT h3, Prs.same h4 k8⟩
  have watA8 := watA.keep g78.keepT
  generalize upd G7 nw (.tup [V.ref n2, V.ref ta]) = G8 at k8 watN watA8 ⊢
  have hN14 : (names ++ [z8]).length ≤ 14 := by rw [List.length_append]; show names.length + 1 ≤ 14; omega
  obtain ⟨Dr, AO⟩ := all_ex names (gK ties kd)
  have hallD := (allK_of wok hk).mpr AO
  have few := hallD.few (by omega)
  -- told
  refine ⟨_, rfl, _, rfl, wa, kd, names, ties, Dr, rfl, wat.keep k8.keepT, wok, h14, hk, AO, fun tl ut G9 g9 ntl htl hut => ?_⟩
  have k9 := k8.trans g9
  have lut := Paired.length hut
  -- wider
  refine ⟨_, rfl, tl, rfl, ⟨_, SqL.of htl⟩, fun W hW => ?_⟩
  refine lc_list (xs := ut) (fun j G => Same G9 G ∧ ∃ ws, G W = some (.lst ws) ∧ Rws K G ws ((Dr.take j).map fun r => r ++ [z8])) ⟨same_new hW _, [], upd_same, .nil⟩ (fun j G _ p => SqL.of (p.1 _ _ htl)) ?_ ?_
  · rintro j u G hu ⟨g10, ws, eW, hws⟩
    have hjl := (List.getElem?_eq_some_iff.mp hu).1
    obtain ⟨b, hb⟩ : ∃ b, Dr[j]? = some b := ⟨_, List.getElem?_eq_getElem (by omega)⟩
    obtain ⟨rb, rfl, hrb⟩ := Paired.get hut hu hb
    have sb := ((hallD.mem b).mp (List.mem_of_getElem? hb)).1.length_le
    have tk : (Dr.take (j + 1)).map (fun r => r ++ [z8]) = (Dr.take j).map (fun r => r ++ [z8]) ++ [b ++ [z8]] := by rw [List.take_succ, hb, List.map_append]; rfl
    have lws := Paired.length hws
    rw [List.length_map, List.length_take] at lws
    refine ⟨rfl, tyes ⟨_, rfl, _, rfl, (by show 1 ≤ sizeLine; decide), fun t ht => ?_⟩⟩
    have t9 := same_new ht (.tup [V.str z8])
    refine ⟨rb, t, _, [V.str z8], rfl, rfl, SqT.of ((g10.trans t9) _ _ hrb), SqT.of upd_same, (by rw [List.length_map, sizeLine_eq]; show b.length + 1 ≤ _; omega), fun rc G' g' hrc => ?_⟩
    have hrc' : SqT K G' rc ((b ++ [z8]).map V.str) := by rw [List.map_append]; exact hrc
    have t10 := t9.trans g'
    have eW' := t10 _ _ eW
    have kD := keepT_upd eW' (.lst (ws ++ [V.ref rc]))
    refine ⟨ws, eW', (by rw [sizeLine_eq]; omega), same_w (g10.trans t10) hW _, ws ++ [V.ref rc], upd_same, ?_⟩
    rw [tk]
    exact paired_two ((Rws.same hws t10).keep kD) (.cons ⟨rc, rfl, kD.seqT hrc'⟩ .nil)
  rintro G10 ⟨g10, ws, eW, hws⟩
  rw [lut, List.take_length] at hws
  have k10 := k9.trans g10
  have lws := Paired.length hws
  rw [List.length_map] at lws
  -- beside
  refine ⟨_, rfl, _, rfl, Nat.zero_le _, fun ep hep => ?_⟩
  have t11 := same_new hep (.tup [])
  refine ⟨_, rowD [], dp_strs ((k10.trans t11).seqT h2), .tup (SqT.of upd_same) .nil, shaped_row (fun x hx => (wok.nw x hx).1.lt), rfl, .inr ⟨_, rfl, ?_⟩⟩
  obtain ⟨kk, ek, kk0, kk1, bu, ebu, hbu⟩ : ∃ kk : Int, (if (!PyData.eqv (.tuple (names.map PyData.str)) (rowD [])) = true then 1 else 0) = kk ∧ 0 ≤ kk ∧ kk ≤ 1 ∧ ∃ bu : List V, (List.replicate kk.toNat ut).flatten = bu ∧ RwE G9 bu (if names = [] then [] else Dr) := by
    rw [show PyData.eqv (.tuple (names.map PyData.str)) (rowD []) = decide (names = []) from eqv_strs names []]
    by_cases c : names = []
    · exact ⟨0, by rw [decide_eq_true c]; rfl, by decide, by decide, [], rfl, by rw [if_pos c]; exact .nil⟩
    · exact ⟨1, by rw [decide_eq_false c]; rfl, by decide, by decide, ut, by simp, by rw [if_neg c]; exact hut⟩
  have lbu : bu.length ≤ 32768 := by
    rw [Paired.length hbu]
    split
    · exact Nat.zero_le _
    · exact few
  have htl11 := (g10.trans t11) _ _ htl
  refine ⟨tl, kk, ut, rfl, congrArg V.int ek, htl11, by omega, by omega, (by
    have : kk.toNat ≤ 1 := by omega
    have := Nat.mul_le_mul_left ut.length this
    rw [sizeLine_eq]
    omega), fun rp hrp => ?_⟩
  rw [ebu]
  have t12 := same_new hrp (.lst bu)
  refine ⟨_, rfl, (by show 1 ≤ sizeLine; decide), fun mt hmt => ⟨(by show 1 ≤ sizeLine; decide), fun ml hml => ?_⟩⟩
  have t13 := (same_new hmt (.tup [V.str z8])).trans (same_new hml (.lst [V.ref mt]))
  refine ⟨rp, ml, bu, [V.ref mt], rfl, rfl, t13 _ _ upd_same, upd_same, (by rw [sizeLine_eq]; show bu.length + 1 ≤ _; omega), fun be hbe => ?_⟩
  have t14 := same_new hbe (.lst (bu ++ [V.ref mt]))
  have g14 := (t11.trans t12).trans (t13.trans t14)
  have ebe := at_new hbe (.lst (bu ++ [V.ref mt]))
  have emt : (upd (upd (upd (upd (upd G10 ep (.tup [])) rp (.lst bu)) mt (.tup [V.str z8])) ml (.lst [V.ref mt])) be (.lst (bu ++ [V.ref mt]))) mt = some (.tup [V.str z8]) := t14 _ _ (same_new hml (.lst [V.ref mt]) _ _ upd_same)
  generalize upd (upd (upd (upd (upd G10 ep (.tup [])) rp (.lst bu)) mt (.tup [V.str z8])) ml (.lst [V.ref mt])) be (.lst (bu ++ [V.ref mt])) = G14 at g14 ebe emt ⊢
  have k14 := k10.trans g14
  have eW14 := g14 _ _ eW
  have hws14 := Rws.same hws g14
  have hbs14 : Rws K G14 (bu ++ [V.ref mt]) ((if names = [] then [] else Dr) ++ [[z8]]) := paired_two ((hbu.keep (g10.trans g14).keepT).rws) (.cons ⟨mt, rfl, SqT.of emt⟩ .nil)
  have g814 := g9.trans (g10.trans g14)
  -- both told
  obtain ⟨DA, AOA⟩ := all_ex (names ++ [z8]) (gK T' kd)
  obtain ⟨DN, AON⟩ := all_ex (names ++ [z8]) (gK ties kd)
  refine ⟨_, rfl, _, rfl, aw, kd, names ++ [z8], T', DA, rfl, watA8.keep g814.keepT, wokA, hN14, hk, AOA, fun ra ua G15 g15 nra hra hua => ?_⟩
  refine ⟨_, rfl, _, rfl, nw, kd, names ++ [z8], ties, DN, rfl, watN.keep (g814.trans g15).keepT, wokN, hN14, hk, AON, fun rn un G16 g16 nrn hrn hun => ?_⟩
  refine ⟨(by show 2 ≤ sizeLine; decide), fun fo hfo => ?_⟩
  have t17 := same_new hfo (.lst [V.ref ra, V.ref rn])
  have efo := at_new hfo (.lst [V.ref ra, V.ref rn])
  have hra17 := (g16.trans t17) _ _ hra
  have hrn17 := t17 _ _ hrn
  have hua17 : Rws K _ ua DA := (hua.keep (g16.trans t17).keepT).rws
  have hun17 : Rws K _ un DN := (hun.keep t17.keepT).rws
  have g17 := (g15.trans g16).trans t17
  generalize upd G16 fo (.lst [V.ref ra, V.ref rn]) = G17 at efo hra17 hrn17 hua17 hun17 g17 ⊢
  have eW17 := g17 _ _ eW14
  have hws17 := Rws.same hws14 g17
  have ebe17 := g17 _ _ ebe
  have hbs17 := Rws.same hbs14 g17
  have k17 := k14.trans g17
  refine ⟨_, rfl, _, rfl, _, rfl, (by show 2 ≤ sizeLine; decide), fun l1 hl1 => ?_⟩
  have t18 := same_new hl1 (.lst [V.ref W, V.ref be])
  refine ⟨_, rfl, _, rfl, (by show 2 ≤ sizeLine; decide), fun l2 hl2 => ?_⟩
  have t19 := same_new hl2 (.lst [V.ref be, V.ref W])
  refine ⟨(by show 2 ≤ sizeLine; decide), fun ll hll => ?_⟩
  have t20 := same_new hll (.lst [V.ref l1, V.ref l2])
  have g20 := (t18.trans t19).trans t20
  have el1 : (upd (upd (upd G17 l1 (.lst [V.ref W, V.ref be])) l2 (.lst [V.ref be, V.ref W])) ll (.lst [V.ref l1, V.ref l2])) l1 = some (.lst [V.ref W, V.ref be]) := (t19.trans t20) _ _ upd_same
  have el2 : (upd (upd (upd G17 l1 (.lst [V.ref W, V.ref be])) l2 (.lst [V.ref be, V.ref W])) ll (.lst [V.ref l1, V.ref l2])) l2 = some (.lst [V.ref be, V.ref W]) := t20 _ _ upd_same
  have ell := at_new hll (.lst [V.ref l1, V.ref l2])
  generalize upd (upd (upd G17 l1 (.lst [V.ref W, V.ref be])) l2 (.lst [V.ref be, V.ref W])) ll (.lst [V.ref l1, V.ref l2]) = G20 at g20 el1 el2 ell ⊢
  have hA : Dp K G20 (.ref ra) (rowsD DA) := .lst (SqL.of (g20 _ _ hra17)) (dpAll_rows (Rws.same hua17 g20))
  have hN : Dp K G20 (.ref rn) (rowsD DN) := .lst (SqL.of (g20 _ _ hrn17)) (dpAll_rows (Rws.same hun17 g20))
  have hWd : Dp K G20 (.ref W) (rowsD (Dr.map fun r => r ++ [z8])) := .lst (SqL.of (g20 _ _ eW17)) (dpAll_rows (Rws.same hws17 g20))
  have hBe : Dp K G20 (.ref be) (rowsD ((if names = [] then [] else Dr) ++ [[z8]])) := .lst (SqL.of (g20 _ _ ebe17)) (dpAll_rows (Rws.same hbs17 g20))
  have hF : Dp K G20 (.ref fo) (rws2D DA DN) := .lst (SqL.of (g20 _ _ efo)) (.cons hA (.cons hN .nil))
  have ltA := ((allK_of wokA hk).mpr AOA).lt wokA
  have ltN := ((allK_of wokN hk).mpr AON).lt wokN
  have sh := shaped_2 ltA ltN
  cases kd with
  | C => exact absurd rfl hk
  | T =>
    have e1 : DA = Dr.map fun r => r ++ [z8] := AOA.uniq (all_T wok hlt pm AO)
    have e2 : DN = (if names = [] then [] else Dr) ++ [[z8]] := AON.uniq (none_T wok hlt AO)
    have hL : Dp K G20 (.ref l1) (rws2D DA DN) := by rw [e1, e2]; exact .lst (SqL.of el1) (.cons hWd (.cons hBe .nil))
    refine ⟨_, rfl, rfl, .inr ⟨_, rfl, ll, _, _, .ref l1, rfl, rfl, SqL.of ell, (show atI [V.ref l1, V.ref l2] (if decide (V.str Kd.T.s = V.str "apart") = true then 1 else 0) = some (.ref l1) from by rw [show decide (V.str Kd.T.s = V.str "apart") = false from by decide +kernel]; rfl), _, _, hF, hL, sh, sh, ?_⟩⟩
    rw [eqv_2]
    exact q _ (k17.trans g20)
  | A =>
    have e1 : DN = Dr.map fun r => r ++ [z8] := AON.uniq (none_A wok hlt AO)
    have e2 : DA = (if names = [] then [] else Dr) ++ [[z8]] := AOA.uniq (all_A wok hlt pm AO)
    have hL : Dp K G20 (.ref l2) (rws2D DA DN) := by rw [e1, e2]; exact .lst (SqL.of el2) (.cons hBe (.cons hWd .nil))
    refine ⟨_, rfl, rfl, .inr ⟨_, rfl, ll, _, _, .ref l2, rfl, rfl, SqL.of ell, (show atI [V.ref l1, V.ref l2] (if decide (V.str Kd.A.s = V.str "apart") = true then 1 else 0) = some (.ref l2) from by rw [show decide (V.str Kd.A.s = V.str "apart") = true from by decide +kernel]; rfl), _, _, hF, hL, sh, sh, ?_⟩⟩
    rw [eqv_2]
    exact q _ (k17.trans g20)
end
end K20

namespace K20
open PySem L2 Wd Wm Tm Km Bm Gm Hm Fm Fn Ym Am Zm
section
variable {P : Program} {w : World} {K : PySem.W.Frag} {mg : Str → Option Value} {base : Heap}
/-! ### _law_renamed -/
def tl3 (k : Nat) : Str := if k % 3 = 0 then "qq" else if k % 3 = 1 then "k" else "zzzzzzz"
def nmI (k : Nat) : Str := (⟨#[97 + k]⟩ : Str) ++ tl3 k
def newN (n : Nat) : List Str := (List.range n).map nmI
theorem nm_all : ((List.range 26).all fun k => nmB (nmI k)) = true := by decide +kernel
theorem nmI_ok {k : Nat} (h : k < 26) : Word (nmI k) ∧ nmI k ∉ own16 := nm_ok (List.all_eq_true.mp nm_all k (List.mem_range.mpr h))
theorem nmI_list (k : Nat) : (nmI k).cps.toList = (97 + k) :: (tl3 k).cps.toList := by
  show ((#[97 + k] : Array Nat) ++ (tl3 k).cps).toList = _
  rw [Array.toList_append]
  rfl
theorem nmI_lt {i j : Nat} (h : i < j) : sLt (nmI i) (nmI j) := by
  show (nmI i).cps.toList < (nmI j).cps.toList
  rw [nmI_list, nmI_list, List.cons_lt_cons_iff]
  exact .inl (by omega)
theorem newN_len (n : Nat) : (newN n).length = n := by unfold newN; rw [List.length_map, List.length_range]
theorem newN_at {n i : Nat} (h : i < n) : (newN n)[i]? = some (nmI i) := by
  unfold newN
  rw [List.getElem?_map, List.getElem?_range h]
  rfl
theorem newN_srt (n : Nat) : (newN n).Pairwise sLt := by
  unfold newN
  exact List.pairwise_map.mpr (List.Pairwise.imp (fun {a b} h => nmI_lt h) List.pairwise_lt_range)
noncomputable def rho (names : List Str) : Str → Str := renOf names (newN names.length)
theorem rho_ren {names : List Str} (h : names.Pairwise sLt) : Ren (rho names) names := ren_mono h (newN_srt _) (newN_len _).symm
theorem rho_at {names : List Str} (nd : names.Nodup) {i : Nat} {x : Str} (h : names[i]? = some x) : rho names x = nmI i := ren_at nd h (newN_at (List.getElem?_eq_some_iff.mp h).1)
theorem rho_ok {names : List Str} (nd : names.Nodup) (h26 : names.length ≤ 26) : ∀ x ∈ names, Word (rho names x) ∧ rho names x ∉ own16 := fun x hx => by
  obtain ⟨i, hi⟩ := List.getElem?_of_mem hx
  rw [rho_at nd hi]
  exact nmI_ok (by have := (List.getElem?_eq_some_iff.mp hi).1; omega)
theorem tl3_at (i : Nat) : atI [V.str "qq", V.str "k", V.str "zzzzzzz"] ((i : Int) % 3) = some (.str (tl3 i)) := by
  have : i % 3 = 0 ∨ i % 3 = 1 ∨ i % 3 = 2 := by omega
  rcases this with e | e | e
  · rw [show ((i : Int) % 3) = ((0 : Nat) : Int) from by omega]
    unfold tl3
    rw [if_pos e]
    rfl
  · rw [show ((i : Int) % 3) = ((1 : Nat) : Int) from by omega]
    unfold tl3
    rw [if_neg (by omega), if_pos e]
    rfl
  · rw [show ((i : Int) % 3) = ((2 : Nat) : Int) from by omega]
    unfold tl3
    rw [if_neg (by omega), if_neg (by omega)]
    rfl
theorem tl3_len (i : Nat) : (tl3 i).length ≤ 7 := by
  unfold tl3
  split
  · decide +kernel
  · split <;> decide +kernel
def spRen (K : PySem.W.Frag) : Sp := fun vs H Q _ => ∃ (wa : Addr) (names : List Str) (ties : List SS), vs = [.ref wa] ∧ WebAt K H wa names ties ∧ WebOk names ties ∧ names.length ≤ 14 ∧
  ∀ (r d ra : Addr) (kvs : List (Key × V)) (H' : Hp), Same H H' → H' r = some (.lst [.ref d, .ref ra]) → H' d = some (.dK kvs) → (∀ x ∈ names, valV kvs (.inr x) = some (.str (rho names x))) → WebAt K H' ra (names.map (rho names)) (renT (rho names) ties) → Q (.ref r) H'
theorem sc_ren : FnScope ["web", "letters", "called", "k", "name", "ties", "one", "other"] ["web"] (defScope s_law_renamed) := ⟨rfl, rfl, rfl, by decide +kernel, rfl, by decide +kernel, by decide +kernel⟩
theorem ok_ren {f : Addr} {fd : FuncData} (F : Fun K "_law_renamed" "_law_renamed" s_law_renamed f fd) (T : Tx mg) : FnOk P w K mg base CX0 1 f fd ["web"] (spRen K) := by
  have nd := sc_ren.nd
  refine F.ok sc_ren (fun vs H Q E h => ?_) (fun cdv A outer s H vs Q E hr h => ?_)
  · obtain ⟨wa, names, ties, rfl, _⟩ := h
    rfl
  obtain ⟨wa, names, ties, rfl, wat, wok, h14, q⟩ := h
  obtain ⟨na, ta, tv, h1, h2, h3, h4⟩ := id wat.at_
  have ltv := Paired.length h4
  have lt98 := ties_le wok h14
  have ndn := ndp wok
  refine SB.use (bcons
  (bset (n := 1) nd rfl (Or.inl (by kernel_rfl)) estr (by kernel_rfl) (.inl rfl))
  (bcons
  (bset (n := 2) nd rfl (Or.inr (by kernel_rfl)) ednewK (by kernel_rfl) (.inl rfl))
  (bcons
  (bfor PassesOwn.never rfl (ienumT (by unfold Gl; kernel_rfl) T.enumerate (acons (eix ix_tup (ev 0 rfl (Or.inl (by kernel_rfl)) (by kernel_rfl) (by kernel_rfl)) eint (fun _ _ => rfl)) anil (by kernel_rfl)) (by kernel_rfl)) (gtup (n := 2) rfl (gscons (gname (n := 3) nd rfl (Or.inl (by kernel_rfl)) (.inl rfl)) (gscons (gname (n := 4) nd rfl (Or.inl (by kernel_rfl)) (.inl rfl)) gsnil (by kernel_rfl)) (by kernel_rfl)) (by kernel_rfl) (by kernel_rfl)) (bone
  (bdput hr.units (ev 2 rfl (Or.inr (Or.inl (by kernel_rfl))) (by kernel_rfl) (by kernel_rfl)) (ev 4 rfl (Or.inl (by kernel_rfl)) (by kernel_rfl) (by kernel_rfl)) (eop op_add_str (eix ix_str (ev 1 rfl (Or.inl (by kernel_rfl)) (by kernel_rfl) (by kernel_rfl)) (ev 3 rfl (Or.inl (by kernel_rfl)) (by kernel_rfl) (by kernel_rfl)) (fun _ _ => rfl)) (eix ix_list (elst (acons estr (acons estr (acons estr anil (by kernel_rfl)) (by kernel_rfl)) (by kernel_rfl))) (eop op_mod (ev 3 rfl (Or.inl (by kernel_rfl)) (by kernel_rfl) (by kernel_rfl)) eint) (fun _ _ => rfl))) (by kernel_rfl))) (by intro _; rfl))
  (bcons
  (bsetLc (n := 5) (own := [("one", 6), ("other", 7)]) (g := gTup K 2 (gCons (gName 6) (gCons (gName 7) gNil))) (by rfl) nd rfl rfl (sw_true rfl rfl rfl (by decide +kernel)) (itup (eix ix_tup (ev 0 rfl (Or.inl (by kernel_rfl)) (by kernel_rfl) (by kernel_rfl)) eint (fun _ _ => rfl))) (blkOk_by (own := [("one", 6), ("other", 7)]) (N := ["web", "letters", "called", "k", "name", "ties", "one", "other"]) (sc := defScope s_law_renamed) (by decide +kernel)) (fun _ _ _ _ _ => (gtup (n := 2) rfl (gscons (gname (n := 6) nd rfl (Or.inl (by kernel_rfl)) (.inr (by kernel_rfl))) (gscons (gname (n := 7) nd rfl (Or.inl (by kernel_rfl)) (.inr (by kernel_rfl))) gsnil (by kernel_rfl)) (by kernel_rfl)) (by kernel_rfl) (by kernel_rfl))) (fun _ _ _ _ _ => unil) (fun _ _ _ _ _ => (etup (acons (edget hr.units (ev 2 rfl (Or.inr (Or.inl (by kernel_rfl))) (by kernel_rfl) (by kernel_rfl)) (ev 6 rfl (Or.inl (by kernel_rfl)) (by kernel_rfl) (by kernel_rfl)) (fun _ _ => rfl)) (acons (edget hr.units (ev 2 rfl (Or.inr (Or.inl (by kernel_rfl))) (by kernel_rfl) (by kernel_rfl)) (ev 7 rfl (Or.inl (by kernel_rfl)) (by kernel_rfl) (by kernel_rfl)) (fun _ _ => rfl)) anil (by kernel_rfl)) (by kernel_rfl)))) (by intro _; rfl))
  (bone
  (bret (elst (acons (ev 2 rfl (Or.inr (Or.inl (by kernel_rfl))) (by kernel_rfl) (by kernel_rfl)) (acons (etup (acons (ecallT call_tuple_of (by unfold Gl; kernel_rfl) T.tuple L2.boot_tuple (acons (elc (own := [("name", 4)]) (g := gName 4) (by rfl) nd (itup (eix ix_tup (ev 0 rfl (Or.inl (by kernel_rfl)) (by kernel_rfl) (by kernel_rfl)) eint (fun _ _ => rfl))) (blkOk_by (own := [("name", 4)]) (N := ["web", "letters", "called", "k", "name", "ties", "one", "other"]) (sc := defScope s_law_renamed) (by decide +kernel)) (fun _ _ _ _ _ => (gname (n := 4) nd rfl (Or.inl (by kernel_rfl)) (.inr (by kernel_rfl)))) (fun _ _ _ _ _ => unil) (fun _ _ _ _ _ => (edget hr.units (ev 2 rfl (Or.inr (Or.inl (by kernel_rfl))) (by kernel_rfl) (by kernel_rfl)) (ev 4 rfl (Or.inl (by kernel_rfl)) (by kernel_rfl) (by kernel_rfl)) (fun _ _ => rfl))) (by intro _; rfl)) anil (by kernel_rfl)) (by decide +kernel) (by kernel_rfl) (by kernel_rfl) (by kernel_rfl)) (acons (ecallT call_tuple_of (by unfold Gl; kernel_rfl) T.tuple L2.boot_tuple (acons (ev 5 rfl (Or.inl (by kernel_rfl)) (by kernel_rfl) (by kernel_rfl)) anil (by kernel_rfl)) (by decide +kernel) (by kernel_rfl) (by kernel_rfl) (by kernel_rfl)) anil (by kernel_rfl)) (by kernel_rfl))) anil (by kernel_rfl)) (by kernel_rfl))))))))) ?_
  refine fun d hd => ?_
  have s1 := same_new hd (.dK [])
  have ed := at_new hd (.dK [])
  generalize upd H d (.dK []) = H1 at s1 ed ⊢
  refine ⟨_, rfl, wa, _, _, _, rfl, rfl, s1.seqT h1, rfl, na, _, rfl, s1.seqT h2, ?_⟩
  refine for_enumT (xs := names.map V.str) (fun i σ G => ∃ (kvs : List (Key × V)) (x3 x4 x5 x6 x7 : Option V), σ = [some (.ref wa), some (.str lett), some (.ref d), x3, x4, x5, x6, x7] ∧ Same H G ∧ G d = some (.dK kvs) ∧ kvs.length ≤ i ∧ ∀ x ∈ names.take i, valV kvs (.inr x) = some (.str (rho names x))) ⟨[], _, _, _, _, _, rfl, s1, ed, Nat.le_refl _, fun x hx => by rw [List.take_zero] at hx; cases hx⟩ (fun i σ G _ ⟨_, _, _, _, _, _, _, z, _⟩ => z.seqT h2) ?_ ?_
  · rintro i v σ G hv ⟨kvs, x3, x4, x5, x6, x7, rfl, sG, edG, lk, hval⟩ t ht
    obtain ⟨x, hx, rfl⟩ := str_at hv
    have hil := (List.getElem?_eq_some_iff.mp hx).1
    refine ⟨t, _, rfl, SqT.of upd_same, rfl, _, _, rfl, _, _, rfl, rfl, ?_⟩
    have t2 := same_new ht (.tup [.int (i : Nat), .str x])
    have sG2 := sG.trans t2
    have ed2 := t2 _ _ edG
    generalize upd G t (.tup [.int (i : Nat), .str x]) = G2 at sG2 ed2 ⊢
    refine ⟨_, rfl, _, rfl, _, _, _, rfl, rfl, lett_len, lett_at (r := (i : Int)) (by omega) (by omega), (by show 3 ≤ sizeLine; decide), fun tl htl => ?_⟩
    have t3 := same_new htl (.lst [V.str "qq", V.str "k", V.str "zzzzzzz"])
    refine ⟨_, rfl, _, _, rfl, rfl, (by show (0 : Int) < 3; decide), tl, _, _, _, rfl, rfl, SqL.of upd_same, tl3_at i, ?_⟩
    have sG3 := sG2.trans t3
    have ed3 := t3 _ _ ed2
    generalize upd G2 tl (.lst [V.str "qq", V.str "k", V.str "zzzzzzz"]) = G3 at sG3 ed3 ⊢
    have l7 := tl3_len i
    refine ⟨_, _, rfl, rfl, (by rw [sign_len, sizeLine_eq]; omega), _, rfl, _, rfl, d, _, rfl, DPut.k (k := Sum.inr x) ed3 (Nat.lt_of_le_of_lt (Nat.le_trans lk (Nat.le_of_lt (Nat.lt_of_lt_of_le hil h14))) (by decide)), ?_⟩
    have er : rho names x = nmI i := rho_at ndn hx
    have e97 : (⟨#[97 + (i : Int).toNat]⟩ : Str) ++ tl3 i = nmI i := by rw [Int.toNat_natCast]; rfl
    rw [e97]
    refine ⟨_, _, _, _, _, _, rfl, same_w sG3 hd _, upd_same, Nat.le_trans (length_putK _ _ _) (by omega), fun y hy => ?_⟩
    rw [valV_put]
    by_cases e : (Sum.inr y : Key) = Sum.inr x
    · rw [if_pos e, Sum.inr.inj e, er]
    · rw [if_neg e]
      rw [List.take_succ, hx] at hy
      rcases List.mem_append.mp hy with z | z
      · exact hval y z
      · exact absurd (by rw [List.mem_singleton.mp z]) e
  rintro σ G ⟨kvs, x3, x4, x5, x6, x7, rfl, sG, edG, lk, hval⟩
  rw [List.length_map, List.take_length] at hval
  have dg : ∀ (G' : Hp) (x : Str), Same G G' → x ∈ names → DGet G' d (.str x) (some (.str (rho names x))) := fun G' x k hx => by rw [← hval x hx]; exact DGet.k (k := Sum.inr x) (k _ _ edG)
  -- ties
  refine ⟨_, rfl, wa, _, _, _, rfl, rfl, sG.seqT h1, rfl, ta, rfl, ⟨_, sG.seqT h3⟩, fun D hD => ?_⟩
  refine lc_tup (xs := tv) (fun i G2 => Pp K G D (renT (rho names) (ties.take i)) G2) (Pp.start hD) (fun i G2 _ p => (sG.trans p.s).seqT h3) ?_ ?_
  · intro i v G4 hv p4
    have hi : i < tv.length := (List.getElem?_eq_some_iff.mp hv).1
    obtain ⟨p, hp⟩ : ∃ p, ties[i]? = some p := ⟨ties[i]'(by omega), List.getElem?_eq_getElem (by omega)⟩
    obtain ⟨u, rfl, hu⟩ := Paired.get h4 hv hp
    have tk : renT (rho names) (ties.take (i + 1)) = renT (rho names) (ties.take i) ++ [(rho names p.1, rho names p.2)] := by
      unfold renT
      rw [List.take_succ, hp, List.map_append]
      rfl
    obtain ⟨i1, i2, _⟩ := wok.ti p (List.mem_of_getElem? hp)
    refine ⟨u, _, rfl, (sG.trans p4.s).seqT hu, rfl, _, _, rfl, _, _, rfl, rfl, rfl, tyes ?_⟩
    refine ⟨_, rfl, _, rfl, d, _, rfl, dg _ _ p4.s i1, _, rfl, _, rfl, d, _, rfl, dg _ _ p4.s i2, (by show 2 ≤ sizeLine; decide), fun t ht => ?_⟩
    have p5 := p4.new ht (.tup [.str (rho names p.1), .str (rho names p.2)])
    obtain ⟨acc, hacc, hpr⟩ := id p5.v
    have hlen := Paired.length hpr
    unfold renT at hlen
    rw [List.length_map, List.length_take] at hlen
    refine ⟨acc, hacc, (by rw [hlen]; exact small1000 (by omega)), ?_⟩
    rw [tk]
    exact p5.add hD hacc ⟨t, rfl, SqT.of upd_same⟩
  intro G2 p2
  rw [ltv, List.take_length] at p2
  obtain ⟨us, hus, hpr⟩ := id p2.v
  have k2 := sG.trans p2.s
  -- names
  refine ⟨_, rfl, _, rfl, wa, _, _, _, rfl, rfl, k2.seqT h1, rfl, na, rfl, ⟨_, k2.seqT h2⟩, fun D2 hD2 => ?_⟩
  refine lc_tup (xs := names.map V.str) (fun i G3 => Sp1 G2 D2 ((names.take i).map (rho names)) G3) (Sp1.start hD2) (fun i G3 _ p => (k2.trans p.s).seqT h2) ?_ ?_
  · intro i v G3 hv p3
    obtain ⟨x, hx, rfl⟩ := str_at hv
    have hi : i < names.length := (List.getElem?_eq_some_iff.mp hx).1
    have tk : (names.take (i + 1)).map (rho names) = (names.take i).map (rho names) ++ [rho names x] := by rw [List.take_succ, hx, List.map_append]; rfl
    refine ⟨rfl, tyes ⟨_, rfl, _, rfl, d, _, rfl, dg _ _ (p2.s.trans p3.s) (List.mem_of_getElem? hx), _, p3.v, (by rw [List.length_map, List.length_map, List.length_take]; exact small1000 (by omega)), ?_⟩⟩
    rw [tk]
    exact p3.add hD2 _
  intro G3 p3
  rw [List.length_map, List.take_length] at p3
  refine ⟨D2, _, rfl, .inl ⟨SqL.of p3.v, fun nt hnt => ?_⟩⟩
  have t4 := same_new hnt (.tup ((names.map (rho names)).map V.str))
  have us4 := (p3.s.trans t4) _ _ hus
  refine ⟨_, rfl, D, _, rfl, .inl ⟨SqL.of us4, fun tt htt => ⟨(by show 2 ≤ sizeLine; decide), fun ra hra => ⟨(by show 2 ≤ sizeLine; decide), fun r hr' => ?_⟩⟩⟩⟩
  have t5 := same_new htt (.tup us)
  have t6 := same_new hra (.tup [V.ref nt, V.ref tt])
  have t7 := same_new hr' (.lst [V.ref d, V.ref ra])
  have g47 := (t5.trans t6).trans t7
  have g2 := (p3.s.trans t4).trans g47
  exact q r d ra kvs _ (k2.trans g2) upd_same ((p2.s.trans g2) _ _ edG) hval ⟨nt, tt, us, SqT.of (t7 _ _ upd_same), SqT.of (g47 _ _ upd_same), SqT.of ((t6.trans t7) _ _ upd_same), hpr.same g2⟩
end
end K20

namespace K20
open PySem L2 Wd Wm Tm Km Bm Gm Hm Fm Fn Ym Am Zm
section
variable {P : Program} {w : World} {K : PySem.W.Frag} {mg : Str → Option Value} {base : Heap}
/-! ### three walks -/
structure WR where
  (x wa t qa fo : Addr)
  (names : List Str)
  (ties : List SS)
  (kd : Kd)
  (D : List (List Str))
def WR.pl (r : WR) : List Addr := [r.x, r.t, r.qa, r.fo]
structure WR.Sta (r : WR) : Prop where
  wok : WebOk r.names r.ties
  h14 : r.names.length ≤ 14
  hk : r.kd ≠ .C
  AO : AllOf r.names (gK r.ties r.kd) r.D
def WR.at_ (K : PySem.W.Frag) (C : Addr) (G : Hp) (r : WR) (k : Nat) : Prop := Wlk K C G r.x r.wa r.t r.qa r.fo r.names r.ties r.kd r.D k
structure EnvW (B : Hp) (rs : List WR) : Prop where
  sta : ∀ r ∈ rs, r.Sta
  new : ∀ r ∈ rs, ∀ b ∈ r.pl, B b = none
  apt : ∀ (i j : Nat) (r r' : WR), rs[i]? = some r → rs[j]? = some r' → i ≠ j → ∀ b ∈ r.pl, b ∉ r'.pl
structure AllW (K : PySem.W.Frag) (C : Addr) (B : Hp) (rs : List WR) (G : Hp) (f : Nat → Nat) : Prop where
  s : Same B G
  w : ∀ (i : Nat) (r : WR), rs[i]? = some r → r.at_ K C G (f i)
theorem three_in {a b c d x : Addr} (h : x ∈ [a, c, d]) : x ∈ [a, b, c, d] := by
  simp only [List.mem_cons, List.not_mem_nil, or_false] at h ⊢
  rcases h with h | h | h
  · exact .inl h
  · exact .inr (.inr (.inl h))
  · exact .inr (.inr (.inr h))
theorem AllW.step {C : Addr} {B G G' : Hp} {rs : List WR} {f : Nat → Nat} {i k : Nat} {r : WR} (h : AllW K C B rs G f) (ev : EnvW B rs) (hr : rs[i]? = some r) (kx : KX [r.x, r.qa, r.fo] G G') (kt : KeepT G G') (w1 : r.at_ K C G' k) : AllW K C B rs G' (fun j => if j = i then k else f j) := by
  refine ⟨KX.same h.s (fun q hq => ev.new r (List.mem_of_getElem? hr) q (three_in hq)) kx, fun j r' hj => ?_⟩
  by_cases e : j = i
  · subst e
    rw [hr] at hj
    cases hj
    rw [if_pos rfl]
    exact w1
  · rw [if_neg e]
    exact Wlk.keep (h.w j r' hj) kt fun b hb o z => kx b o z fun m => ev.apt j i r' r hj hr e b hb (three_in m)
theorem AllW.put {C : Addr} {B G : Hp} {rs : List WR} {f : Nat → Nat} {l : Addr} {xs : List V} (h : AllW K C B rs G f) (ne : ∀ r ∈ rs, ∀ b ∈ r.pl, b ≠ l) (nl : B l = none) (e : G l = some (.lst xs)) (o : HO) : AllW K C B rs (upd G l o) f :=
  ⟨same_w h.s nl o, fun j r hj => Wlk.keep (h.w j r hj) (keepT_upd e o) fun b hb o' z => by rw [upd_ne (ne r (List.mem_of_getElem? hj) b hb)]; exact z⟩
theorem AllW.same {C : Addr} {B G G' : Hp} {rs : List WR} {f : Nat → Nat} (h : AllW K C B rs G f) (s : Same G G') : AllW K C B rs G' f := ⟨h.s.trans s, fun j r hj => Wlk.same (h.w j r hj) s⟩
theorem AllW.ne {C : Addr} {B G : Hp} {rs : List WR} {f : Nat → Nat} (h : AllW K C B rs G f) {l : Addr} (hl : G l = none) : ∀ r ∈ rs, ∀ b ∈ r.pl, b ≠ l := fun r hr b hb e => by
  obtain ⟨i, hi⟩ := List.getElem?_of_mem hr
  exact Wlk.at (h.w i r hi) b hb (by rw [e]; exact hl)
theorem AllW.congr {C : Addr} {B G : Hp} {rs : List WR} {f g : Nat → Nat} (h : AllW K C B rs G f) (e : ∀ i, i < rs.length → f i = g i) : AllW K C B rs G g := ⟨h.s, fun j r hj => by rw [← e j (List.getElem?_eq_some_iff.mp hj).1]; exact h.w j r hj⟩
/-- a new walk beside others -/
def nxD : Option (List Str) → PyData
  | none => .none
  | some r => rowD r
theorem nx_dp {H : Hp} {v : V} {o : Option (List Str)} (h : TV H v o) : Dp K H v (nxD o) := by
  cases o with
  | none => cases h; exact .non
  | some r =>
    obtain ⟨a, rfl, ha⟩ := h
    exact dp_strs (SqT.of ha)
theorem nx_sh {o : Option (List Str)} (h : ∀ r, o = some r → ∀ x ∈ r, Wd.Lt x) : SeqAt.shaped (nxD o) = true := by
  cases o with
  | none => decide +kernel
  | some r => exact shaped_row (h r rfl)
theorem nx_eq (o : Option (List Str)) : PyData.eqv (nxD o) (nxD o) = true := by
  cases o with
  | none => simp [nxD, PyData.eqv]
  | some r =>
    show PyData.eqv (rowD r) (rowD r) = true
    rw [show PyData.eqv (rowD r) (rowD r) = decide (r = r) from eqv_strs r r]
    exact decide_eq_true rfl
/-! ### numbers -/
def IsInts (H : Hp) (v : V) (ns : List Int) : Prop := ∃ l, v = .ref l ∧ H l = some (.lst (ns.map V.int))
theorem IsInts.same {H H' : Hp} {v : V} {ns : List Int} (h : IsInts H v ns) (s : Same H H') : IsInts H' v ns := by
  obtain ⟨l, e, h⟩ := h
  exact ⟨l, e, s _ _ h⟩
theorem ints_dp {H : Hp} {v : V} {ns : List Int} (h : IsInts H v ns) : Dp K H v (intsD ns) := by
  obtain ⟨l, rfl, h⟩ := h
  exact .lst (SqL.of h) (dpAll_ints ns)
def threeD (ns : List Int) : PyData := .list [intsD ns, intsD ns, intsD ns]
theorem eqv_three (ns : List Int) : PyData.eqv (threeD ns) (threeD ns) = true := by
  unfold threeD
  rw [PyData.eqv]
  simp [PyData.eqvAll, eqv_ints]
theorem shaped_three (ns : List Int) : SeqAt.shaped (threeD ns) = true := by
  unfold SeqAt.shaped
  have d := dep_ints ns
  have e1 : (threeD ns).canLay0 = true := by simp only [threeD, intsD, PyData.canLay0, PyData.canLayAll0, layAll_ints, Bool.and_true]
  have e2 : (threeD ns).depth ≤ 64 := by
    simp only [threeD, intsD, PyData.depth, PyData.depthAll]
    omega
  simp [e1, e2]
/-- the other kind -/
def oth : Kd → Kd
  | .T => .A
  | _ => .T
theorem oth_ne (kd : Kd) : oth kd ≠ .C := by cases kd <;> (intro z; cases z)
theorem oth_at {kd : Kd} (hk : kd ≠ .C) : atI [V.str "tied", V.str "apart"] (if decide (V.str kd.s = V.str "tied") = true then 1 else 0) = some (.str (oth kd).s) := by
  cases kd with
  | T => rw [show decide (V.str Kd.T.s = V.str "tied") = true from by decide +kernel]; rfl
  | A => rw [show decide (V.str Kd.A.s = V.str "tied") = false from by decide +kernel]; rfl
  | C => exact absurd rfl hk
theorem rg_over {names : List Str} {ties : List SS} {kd : Kd} (wok : WebOk names ties) (hk : kd ≠ .C) : Rg id names (gK ties kd) (gK (over names ties) (oth kd)) := by
  refine ⟨⟨fun x _ y _ h => h⟩, fun a ha b hb => ?_⟩
  show gK (over names ties) (oth kd) a b = gK ties kd a b
  by_cases e : a = b
  · subst e
    unfold gK
    simp
  · have key : Tie (over names ties) a b ↔ ¬ Tie ties a b := tie_over wok ha hb e
    rw [Bool.eq_iff_iff, gK_iff e, gK_iff e, key]
    cases kd with
    | T => exact ⟨fun h => ⟨fun _ => rfl, fun _ => Classical.byContradiction fun n => by have := h.mp n; cases this⟩, fun h => ⟨fun n => absurd (h.mpr rfl) n, fun z => by cases z⟩⟩
    | A => exact ⟨fun h => ⟨fun t => absurd t (h.mpr rfl), fun z => by cases z⟩, fun h => ⟨fun _ => rfl, fun _ t => by have := h.mp t; cases this⟩⟩
    | C => exact absurd rfl hk
theorem rg_rho {names : List Str} {ties : List SS} {kd : Kd} (wok : WebOk names ties) : Rg (rho names) names (gK ties kd) (gK (renT (rho names) ties) kd) := by
  have hr := rho_ren wok.ns
  refine ⟨hr, fun a ha b hb => ?_⟩
  unfold gK
  rw [decide_eq_decide.mpr (ren_tie hr wok ha hb), decide_eq_decide.mpr (show rho names a = rho names b ↔ a = b from ⟨hr.inj ha hb, fun e => by rw [e]⟩)]
end
end K20

namespace K20
open PySem L2 Wd Wm Tm Km Bm Gm Hm Fm Fn Ym Am Zm
section
variable {P : Program} {w : World} {K : PySem.W.Frag} {mg : Str → Option Value} {base : Heap}
theorem wl_fillings (wa t qa fo : Addr) (kd : Kd) (n : Int) : (wflds wa t qa fo kd n).lookup ("fillings" : Str) = none := by kernel_rfl
theorem wl_waiting (wa t qa fo : Addr) (kd : Kd) (n : Int) : (wflds wa t qa fo kd n).lookup ("waiting" : Str) = none := by kernel_rfl
theorem wl_told (wa t qa fo : Addr) (kd : Kd) (n : Int) : (wflds wa t qa fo kd n).lookup ("told" : Str) = none := by kernel_rfl
theorem apt3 {r0 r1 r2 : WR} (h01 : ∀ b ∈ r0.pl, b ∉ r1.pl) (h02 : ∀ b ∈ r0.pl, b ∉ r2.pl) (h12 : ∀ b ∈ r1.pl, b ∉ r2.pl) : ∀ (i j : Nat) (r r' : WR), [r0, r1, r2][i]? = some r → [r0, r1, r2][j]? = some r' → i ≠ j → ∀ b ∈ r.pl, b ∉ r'.pl := by
  intro i j r r' hi hj ne
  have li : i < 3 := (List.getElem?_eq_some_iff.mp hi).1
  have lj : j < 3 := (List.getElem?_eq_some_iff.mp hj).1
  have ci : i = 0 ∨ i = 1 ∨ i = 2 := by omega
  have cj : j = 0 ∨ j = 1 ∨ j = 2 := by omega
  rcases ci with rfl | rfl | rfl <;> rcases cj with rfl | rfl | rfl <;> cases hi <;> cases hj
  · exact absurd rfl ne
  · exact h01
  · exact h02
  · exact fun b hb z => h01 b z hb
  · exact absurd rfl ne
  · exact h12
  · exact fun b hb z => h02 b z hb
  · exact fun b hb z => h12 b z hb
  · exact absurd rfl ne
theorem all3 {α : Type} {Q : α → Prop} {a b c : α} (h0 : Q a) (h1 : Q b) (h2 : Q c) : ∀ r ∈ [a, b, c], Q r := by
  intro r hr
  simp only [List.mem_cons, List.not_mem_nil, or_false] at hr
  rcases hr with rfl | rfl | rfl <;> assumption
theorem at3 {Q : Nat → WR → Prop} {a b c : WR} (h0 : Q 0 a) (h1 : Q 1 b) (h2 : Q 2 c) : ∀ (i : Nat) (r : WR), [a, b, c][i]? = some r → Q i r := by
  intro i r hi
  have li : i < 3 := (List.getElem?_eq_some_iff.mp hi).1
  have ci : i = 0 ∨ i = 1 ∨ i = 2 := by omega
  rcases ci with rfl | rfl | rfl <;> cases hi <;> assumption
/-! ### _law_three_alike -/
def spAlike (K : PySem.W.Frag) : Sp := fun vs H Q _ => ∃ (wa : Addr) (kd : Kd) (names : List Str) (ties : List SS), vs = [.ref wa, .str kd.s] ∧ WebAt K H wa names ties ∧ WebOk names ties ∧ names.length ≤ 14 ∧ kd ≠ .C ∧ ∀ H', Same H H' → Q (.bl true) H'
theorem sc_alike : FnScope ["web", "kind", "other", "called", "renamed", "walks", "row", "over", "named", "walk", "counts", "due", "name"] ["web", "kind"] (defScope s_law_three_alike) := ⟨rfl, rfl, rfl, by decide +kernel, rfl, by decide +kernel, by decide +kernel⟩
theorem ok_alike {f fI fT f5 f6 f7 C : Addr} {fd fdI fdT fd5 fd6 fd7 : FuncData} (F : Fun K "_law_three_alike" "_law_three_alike" s_law_three_alike f fd) (T : Tx mg) (TW : TxW K mg C) (oR : Own P w K mg base 1 "_law_renamed" ["web"] (spRen K)) (oO : Own P w K mg base 2 "turned_over" ["web"] (spTurn K))
    (K_Walk : Mk K C fI) (G_Walk : FnOk P w K mg base CX0 3 fI fdI ["self", "web", "kind"] (spIni K C)) (b_Walk : Binds K fdI ["self", "web", "kind"] []) (e_Walk_tell : Meth K C "tell" fT) (G_Walk_tell : FnOk P w K mg base CX0 4 fT fdT ["self"] (spTell K C)) (b_Walk_tell : Binds K fdT ["self"] [])
    (e_Walk_fillings : Meth K C "fillings" f5) (G_Walk_fillings : FnOk P w K mg base CX0 1 f5 fd5 ["self"] (spNm K C nFil)) (b_Walk_fillings : Binds K fd5 ["self"] []) (e_Walk_waiting : Meth K C "waiting" f6) (G_Walk_waiting : FnOk P w K mg base CX0 1 f6 fd6 ["self"] (spNm K C nWai)) (b_Walk_waiting : Binds K fd6 ["self"] [])
    (e_Walk_told : Meth K C "told" f7) (G_Walk_told : FnOk P w K mg base CX0 1 f7 fd7 ["self"] (spNm K C nTol)) (b_Walk_told : Binds K fd7 ["self"] []) : FnOk P w K mg base CX0 5 f fd ["web", "kind"] (spAlike K) := by
  have nd := sc_alike.nd
  have m_Walk := TW.m
  have c_Walk := TW.cl
  obtain ⟨f1, fd1, G_law_renamed, b_law_renamed, k_law_renamed, m_law_renamed⟩ := oR
  obtain ⟨f2, fd2, G_turned_over, b_turned_over, k_turned_over, m_turned_over⟩ := oO
  refine F.ok sc_alike (fun vs H Q E h => ?_) (fun cdv A outer s H vs Q E hr h => ?_)
  · obtain ⟨wa, kd, names, ties, rfl, _⟩ := h
    rfl
  have hr_law_renamed := hr.mono (j := 1) (by decide)
  have hr_turned_over := hr.mono (j := 2) (by decide)
  have hr_Walk := hr.mono (j := 4) (by decide)
  have hr_Walk_tell := hr_Walk
  have hr_Walk_fillings := hr_law_renamed
  have hr_Walk_waiting := hr_law_renamed
  have hr_Walk_told := hr_law_renamed
  obtain ⟨wa, kd, names, ties, rfl, wat, wok, h14, hk, q⟩ := h
  have h300 : ties.length ≤ 300 := Nat.le_trans (ties_le wok h14) (by decide)
  have wokO := over_ok wok
  have h300O : (over names ties).length ≤ 300 := Nat.le_trans (ties_le wokO h14) (by decide)
  have ndn := ndp wok
  have wokR := ren_ok (rho_ren wok.ns) wok (rho_ok ndn (by omega))
  have h14R : (names.map (rho names)).length ≤ 14 := by rw [List.length_map]; exact h14
  have h300R : (renT (rho names) ties).length ≤ 300 := Nat.le_trans (ties_le wokR h14R) (by decide)
  obtain ⟨D, AO⟩ := all_ex names (gK ties kd)
  have hall := (allK_of wok hk).mpr AO
  have few := hall.few (by omega)
  have rgO := rg_over wok hk
  have rgR := rg_rho (kd := kd) wok
  have AOO : AllOf names (gK (over names ties) (oth kd)) D := by
    have := rgO.all AO
    rw [List.map_id, show (List.map id : List Str → List Str) = id from funext fun l => List.map_id l, List.map_id] at this
    exact this
  have AOR := rgR.all AO
  refine SB.use (bcons
  (bset (n := 2) nd rfl (Or.inl (by kernel_rfl)) (eix ix_list (elst (acons estr (acons estr anil (by kernel_rfl)) (by kernel_rfl))) (ecallT call_int1 (by unfold Gl; kernel_rfl) T.int L2.boot_int (acons (ecmp op_eq (ev 1 rfl (Or.inl (by kernel_rfl)) (by kernel_rfl) (by kernel_rfl)) estr (nomark _)) anil (by kernel_rfl)) (by decide +kernel) (by kernel_rfl) (by kernel_rfl) (by kernel_rfl)) (fun _ _ => rfl)) (by kernel_rfl) (.inl rfl))
  (bcons
  (basg (ecall G_law_renamed hr_law_renamed (by unfold Gl; kernel_rfl) m_law_renamed k_law_renamed b_law_renamed .nil pass0 (acons (ev 0 rfl (Or.inl (by kernel_rfl)) (by kernel_rfl) (by kernel_rfl)) anil (by kernel_rfl)) (by kernel_rfl) (by kernel_rfl) (by kernel_rfl)) (gtupL (n := 2) rfl (gscons (gname (n := 3) nd rfl (Or.inr (by kernel_rfl)) (.inl rfl)) (gscons (gname (n := 4) nd rfl (Or.inl (by kernel_rfl)) (.inl rfl)) gsnil (by kernel_rfl)) (by kernel_rfl)) (by kernel_rfl) (by kernel_rfl)) (by kernel_rfl) (by kernel_rfl) (by kernel_rfl))
  (bcons
  (bset (n := 5) nd rfl (Or.inl (by kernel_rfl)) (elst (acons (emake K_Walk G_Walk hr_Walk (by unfold Gl; kernel_rfl) m_Walk b_Walk .nil pass0 (acons (ev 0 rfl (Or.inl (by kernel_rfl)) (by kernel_rfl) (by kernel_rfl)) (acons (ev 1 rfl (Or.inl (by kernel_rfl)) (by kernel_rfl) (by kernel_rfl)) anil (by kernel_rfl)) (by kernel_rfl)) (by kernel_rfl) (by kernel_rfl) (by kernel_rfl)) (acons (emake K_Walk G_Walk hr_Walk (by unfold Gl; kernel_rfl) m_Walk b_Walk .nil pass0 (acons (ecall G_turned_over hr_turned_over (by unfold Gl; kernel_rfl) m_turned_over k_turned_over b_turned_over .nil pass0 (acons (ev 0 rfl (Or.inl (by kernel_rfl)) (by kernel_rfl) (by kernel_rfl)) anil (by kernel_rfl)) (by kernel_rfl) (by kernel_rfl) (by kernel_rfl)) (acons (ev 2 rfl (Or.inl (by kernel_rfl)) (by kernel_rfl) (by kernel_rfl)) anil (by kernel_rfl)) (by kernel_rfl)) (by kernel_rfl) (by kernel_rfl) (by kernel_rfl)) (acons (emake K_Walk G_Walk hr_Walk (by unfold Gl; kernel_rfl) m_Walk b_Walk .nil pass0 (acons (ev 4 rfl (Or.inl (by kernel_rfl)) (by kernel_rfl) (by kernel_rfl)) (acons (ev 1 rfl (Or.inl (by kernel_rfl)) (by kernel_rfl) (by kernel_rfl)) anil (by kernel_rfl)) (by kernel_rfl)) (by kernel_rfl) (by kernel_rfl) (by kernel_rfl)) anil (by kernel_rfl)) (by kernel_rfl)) (by kernel_rfl))) (by kernel_rfl) (.inl rfl))
  (bcons
  (bset (n := 6) nd rfl (Or.inl (by kernel_rfl)) (etup anil) (by kernel_rfl) (.inl rfl))
  (bcons
  (bwhile PassesOwn.never (tcmp op_notN (ev 6 rfl (Or.inl (by kernel_rfl)) (by kernel_rfl) (by kernel_rfl)) enon (nomark _)) (bcons
  (basg (elc (own := [("walk", 9)]) (g := gName 9) (by rfl) nd (ilist (ev 5 rfl (Or.inl (by kernel_rfl)) (by kernel_rfl) (by kernel_rfl))) (blkOk_by (own := [("walk", 9)]) (N := ["web", "kind", "other", "called", "renamed", "walks", "row", "over", "named", "walk", "counts", "due", "name"]) (sc := defScope s_law_three_alike) (by decide +kernel)) (fun _ _ _ _ _ => (gname (n := 9) nd rfl (Or.inl (by kernel_rfl)) (.inr (by kernel_rfl)))) (fun _ _ _ _ _ => unil) (fun _ _ _ _ _ => (emeth0 (ev 9 rfl (Or.inl (by kernel_rfl)) (by kernel_rfl) (by kernel_rfl)) c_Walk e_Walk_tell G_Walk_tell hr_Walk_tell b_Walk_tell .nil pass0 _ rfl)) (by intro _; rfl)) (gtupL (n := 3) rfl (gscons (gname (n := 6) nd rfl (Or.inl (by kernel_rfl)) (.inl rfl)) (gscons (gname (n := 7) nd rfl (Or.inl (by kernel_rfl)) (.inl rfl)) (gscons (gname (n := 8) nd rfl (Or.inl (by kernel_rfl)) (.inl rfl)) gsnil (by kernel_rfl)) (by kernel_rfl)) (by kernel_rfl)) (by kernel_rfl) (by kernel_rfl)) (by kernel_rfl) (by kernel_rfl) (by kernel_rfl))
  (bcons
  (bsetLc (n := 10) (own := [("walk", 9)]) (g := gName 9) (by rfl) nd rfl rfl (sw_true rfl rfl rfl (by decide +kernel)) (ilist (ev 5 rfl (Or.inl (by kernel_rfl)) (by kernel_rfl) (by kernel_rfl))) (blkOk_by (own := [("walk", 9)]) (N := ["web", "kind", "other", "called", "renamed", "walks", "row", "over", "named", "walk", "counts", "due", "name"]) (sc := defScope s_law_three_alike) (by decide +kernel)) (fun _ _ _ _ _ => (gname (n := 9) nd rfl (Or.inl (by kernel_rfl)) (.inr (by kernel_rfl)))) (fun _ _ _ _ _ => unil) (fun _ _ _ _ _ => (elst (acons (emeth0 (ev 9 rfl (Or.inl (by kernel_rfl)) (by kernel_rfl) (by kernel_rfl)) c_Walk e_Walk_fillings G_Walk_fillings hr_Walk_fillings b_Walk_fillings .nil pass0 _ rfl) (acons (emeth0 (ev 9 rfl (Or.inl (by kernel_rfl)) (by kernel_rfl) (by kernel_rfl)) c_Walk e_Walk_waiting G_Walk_waiting hr_Walk_waiting b_Walk_waiting .nil pass0 _ rfl) (acons (emeth0 (ev 9 rfl (Or.inl (by kernel_rfl)) (by kernel_rfl) (by kernel_rfl)) c_Walk e_Walk_told G_Walk_told hr_Walk_told b_Walk_told .nil pass0 _ rfl) anil (by kernel_rfl)) (by kernel_rfl)) (by kernel_rfl)))) (by intro _; rfl))
  (bcons
  (bifs (tw (wor (tcmp (op_neD hr.units) (ev 7 rfl (Or.inl (by kernel_rfl)) (by kernel_rfl) (by kernel_rfl)) (ev 6 rfl (Or.inl (by kernel_rfl)) (by kernel_rfl) (by kernel_rfl)) (nomark _)) (wor1 (tcmp (op_neD hr.units) (ev 10 rfl (Or.inl (by kernel_rfl)) (by kernel_rfl) (by kernel_rfl)) (eop op_rep (elst (acons (eix ix_list (ev 10 rfl (Or.inl (by kernel_rfl)) (by kernel_rfl) (by kernel_rfl)) eint (fun _ _ => rfl)) anil (by kernel_rfl))) eint) (nomark _))))) (bone
  (bret ebl)) bnil)
  (bcons
  (bset (n := 11) nd rfl (Or.inl (by kernel_rfl)) enon (by kernel_rfl) (.inl rfl))
  (bcons
  (bifs (tcmp op_notN (ev 6 rfl (Or.inl (by kernel_rfl)) (by kernel_rfl) (by kernel_rfl)) enon (nomark _)) (bone
  (bset (n := 11) nd rfl (Or.inl (by kernel_rfl)) (ecallT call_tuple_of (by unfold Gl; kernel_rfl) T.tuple L2.boot_tuple (acons (elc (own := [("name", 12)]) (g := gName 12) (by rfl) nd (itup (ev 6 rfl (Or.inl (by kernel_rfl)) (by kernel_rfl) (by kernel_rfl))) (blkOk_by (own := [("name", 12)]) (N := ["web", "kind", "other", "called", "renamed", "walks", "row", "over", "named", "walk", "counts", "due", "name"]) (sc := defScope s_law_three_alike) (by decide +kernel)) (fun _ _ _ _ _ => (gname (n := 12) nd rfl (Or.inl (by kernel_rfl)) (.inr (by kernel_rfl)))) (fun _ _ _ _ _ => unil) (fun _ _ _ _ _ => (edget hr.units (ev 3 rfl (Or.inr (Or.inl (by kernel_rfl))) (by kernel_rfl) (by kernel_rfl)) (ev 12 rfl (Or.inl (by kernel_rfl)) (by kernel_rfl) (by kernel_rfl)) (fun _ _ => rfl))) (by intro _; rfl)) anil (by kernel_rfl)) (by decide +kernel) (by kernel_rfl) (by kernel_rfl) (by kernel_rfl)) (by kernel_rfl) (.inl rfl))) bnil)
  (bone
  (bifs (tcmp (op_neD hr.units) (ev 8 rfl (Or.inl (by kernel_rfl)) (by kernel_rfl) (by kernel_rfl)) (ev 11 rfl (Or.inl (by kernel_rfl)) (by kernel_rfl) (by kernel_rfl)) (nomark _)) (bone
  (bret ebl)) bnil))))))))
  (bone
  (bret ebl))))))) ?_
  refine ⟨(by show 2 ≤ sizeLine; decide), fun kl hkl => ⟨_, rfl, rfl, .inr ⟨_, rfl, kl, _, _, _, rfl, rfl, SqL.of upd_same, oth_at hk, ?_⟩⟩⟩
  have s1 := same_new hkl (.lst [V.str "tied", V.str "apart"])
  refine ⟨_, rfl, wa, names, ties, rfl, wat.keep s1.keepT, wok, h14, fun rr d ra kvs H2 s2 err ed hval watR => ⟨rr, _, rfl, SqL.of err, rfl, _, _, rfl, _, _, rfl, rfl, ?_⟩⟩
  have s12 := s1.trans s2
  -- the three walks
  refine ⟨_, rfl, _, rfl, fun x0 dx0 nx0 ndx0 nex0 => ⟨x0, dx0, wa, kd, names, ties, D, rfl, upd_same, (wat.keep s12.keepT).keep (made_same nx0 ndx0).keepT, wok, h14, h300, hk, AO, fun t0 qa0 fo0 H3 nt0 nq0 nf0 kx0 wl0 => ⟨rfl, ?_⟩⟩⟩
  have s3 : Same H2 H3 := KX.same (made_same nx0 ndx0) (fun b hb => by rw [List.mem_singleton.mp hb]; exact nx0) kx0
  refine ⟨_, rfl, wa, names, ties, rfl, wat.keep (s12.trans s3).keepT, h14, fun ov H4 s4 wov => ?_⟩
  refine ⟨_, rfl, fun x1 dx1 nx1 ndx1 nex1 => ⟨x1, dx1, ov, oth kd, names, over names ties, D, rfl, upd_same, wov.keep (made_same nx1 ndx1).keepT, wokO, h14, h300O, oth_ne kd, AOO, fun t1 qa1 fo1 H5 nt1 nq1 nf1 kx1 wl1 => ⟨rfl, ?_⟩⟩⟩
  have s5 : Same H4 H5 := KX.same (made_same nx1 ndx1) (fun b hb => by rw [List.mem_singleton.mp hb]; exact nx1) kx1
  have s35 := s4.trans s5
  have s25 := s3.trans s35
  refine ⟨_, rfl, _, rfl, fun x2 dx2 nx2 ndx2 nex2 => ⟨x2, dx2, ra, kd, names.map (rho names), renT (rho names) ties, D.map (List.map (rho names)), rfl, upd_same, (watR.keep s25.keepT).keep (made_same nx2 ndx2).keepT, wokR, h14R, h300R, hk, AOR, fun t2 qa2 fo2 H6 nt2 nq2 nf2 kx2 wl2 => ⟨rfl, ?_⟩⟩⟩
  have s6 : Same H5 H6 := KX.same (made_same nx2 ndx2) (fun b hb => by rw [List.mem_singleton.mp hb]; exact nx2) kx2
  obtain ⟨r0, er0⟩ : ∃ r : WR, r = ⟨x0, wa, t0, qa0, fo0, names, ties, kd, D⟩ := ⟨_, rfl⟩
  obtain ⟨r1, er1⟩ : ∃ r : WR, r = ⟨x1, ov, t1, qa1, fo1, names, over names ties, oth kd, D⟩ := ⟨_, rfl⟩
  obtain ⟨r2, er2⟩ : ∃ r : WR, r = ⟨x2, ra, t2, qa2, fo2, names.map (rho names), renT (rho names) ties, kd, D.map (List.map (rho names))⟩ := ⟨_, rfl⟩
  have n0 : ∀ b ∈ r0.pl, H2 b = none := by
    rw [er0]
    exact four nx0 ((made_same nx0 ndx0).free nt0) ((made_same nx0 ndx0).free nq0) ((made_same nx0 ndx0).free nf0)
  have n1 : ∀ b ∈ r1.pl, H4 b = none := by
    rw [er1]
    exact four nx1 ((made_same nx1 ndx1).free nt1) ((made_same nx1 ndx1).free nq1) ((made_same nx1 ndx1).free nf1)
  have n2 : ∀ b ∈ r2.pl, H5 b = none := by
    rw [er2]
    exact four nx2 ((made_same nx2 ndx2).free nt2) ((made_same nx2 ndx2).free nq2) ((made_same nx2 ndx2).free nf2)
  have w0 : r0.at_ K C H3 0 := by rw [er0]; exact wl0
  have w1 : r1.at_ K C H5 0 := by rw [er1]; exact wl1
  have w2 : r2.at_ K C H6 0 := by rw [er2]; exact wl2
  have env : EnvW H2 [r0, r1, r2] := by
    refine ⟨all3 (by rw [er0]; exact ⟨wok, h14, hk, AO⟩) (by rw [er1]; exact ⟨wokO, h14, oth_ne kd, AOO⟩) (by rw [er2]; exact ⟨wokR, h14R, hk, AOR⟩), all3 n0 (fun b hb => (s3.trans s4).free (n1 b hb)) (fun b hb => s25.free (n2 b hb)), apt3 (fun b hb z => ?_) (fun b hb z => ?_) (fun b hb z => ?_)⟩
    · exact Wlk.at (Wlk.same w0 s4) b hb (n1 b z)
    · exact Wlk.at (Wlk.same w0 s35) b hb (n2 b z)
    · exact Wlk.at w1 b hb (n2 b z)
  have aw6 : AllW K C H2 [r0, r1, r2] H6 (fun _ => 0) := ⟨s25.trans s6, at3 (Wlk.same w0 (s35.trans s6)) (Wlk.same w1 s6) w2⟩
  have dlen : ∀ r ∈ [r0, r1, r2], r.D.length = D.length := all3 (by rw [er0]) (by rw [er1]) (by rw [er2]; exact List.length_map ..)
  have refs : [V.ref x0, V.ref x1, V.ref x2] = [r0, r1, r2].map fun r => V.ref r.x := by rw [er0, er1, er2]; rfl
  have tells : ∀ k : Nat, [D[k]?, D[k]?, (D[k]?).map (List.map (rho names))] = [r0, r1, r2].map fun r => r.D[k]? := fun k => by
    rw [er0, er1, er2]
    show _ = [D[k]?, D[k]?, (D.map (List.map (rho names)))[k]?]
    rw [List.getElem?_map]
  have num : ∀ r ∈ [r0, r1, r2], ∀ (k : Nat) (W0 W : List (List Str)), k ≤ D.length → Wk names (gK ties kd) D k W0 → Wk r.names (gK r.ties r.kd) r.D k W → fils r.names (gK r.ties r.kd) r.D k = fils names (gK ties kd) D k ∧ W.length = W0.length := by
    have sD : ∀ S ∈ D, ∀ y ∈ S, y ∈ names := fun S hS y hy => ((AO.mem S).mp hS).1.subset hy
    refine all3 (fun k W0 W _ h0 h => ?_) (fun k W0 W _ h0 h => ?_) (fun k W0 W _ h0 h => ?_)
    · rw [er0] at h ⊢
      exact ⟨rfl, (h.perm h0).length_eq⟩
    · rw [er1] at h ⊢
      have e1 := rgO.fils sD k
      have e2 := rgO.wk AO (gr_K ties kd) h0
      rw [List.map_id, show (List.map id : List Str → List Str) = id from funext fun l => List.map_id l, List.map_id] at e1 e2
      rw [List.map_id] at e2
      exact ⟨e1, (h.perm e2).length_eq⟩
    · rw [er2] at h ⊢
      have e2 := rgR.wk AO (gr_K ties kd) h0
      exact ⟨rgR.fils sD k, by rw [(h.perm e2).length_eq, List.length_map]⟩
  refine ⟨(by show 3 ≤ sizeLine; decide), fun wk hwk => ?_⟩
  rw [refs]
  have s7 := same_new hwk (.lst ([r0, r1, r2].map fun r => V.ref r.x))
  have ewk := at_new hwk (.lst ([r0, r1, r2].map fun r => V.ref r.x))
  have aw7 := aw6.same s7
  have nwk : ∀ r ∈ [r0, r1, r2], ∀ b ∈ r.pl, b ≠ wk := aw6.ne hwk
  generalize upd H6 wk (.lst ([r0, r1, r2].map fun r => V.ref r.x)) = H7 at s7 ewk aw7 ⊢
  clear refs
  generalize ers : [r0, r1, r2] = rs at *
  have rl : rs.length = 3 := by rw [← ers]; rfl
  have hr0 : rs[0]? = some r0 := by rw [← ers]; rfl
  refine ⟨Nat.zero_le _, fun ep hep => ?_⟩
  have s8 := same_new hep (.tup [])
  have ewk8 := s8 _ _ ewk
  have aw8 := aw7.same s8
  generalize upd H7 ep (.tup []) = H8 at ewk8 aw8 ⊢
  have nwkB : H2 wk = none := by
    have := (s25.trans s6).free hwk
    exact this
  refine ⟨fun m σ G => ∃ (k : Nat) (v : V) (x7 x8 x9 x10 x11 x12 : Option V), m = D.length + 1 - k ∧ k ≤ D.length + 1 ∧ σ = [some (.ref wa), some (.str kd.s), some (.str (oth kd).s), some (.ref d), some (.ref ra), some (.ref wk), some v, x7, x8, x9, x10, x11, x12] ∧ AllW K C H2 rs G (fun _ => min k D.length) ∧ G wk = some (.lst (rs.map fun r => V.ref r.x)) ∧ decide (v = V.non) = decide (D.length < k), ⟨_, 0, .ref ep, _, _, _, _, _, _, rfl, Nat.zero_le _, rfl, aw8, ewk8, by rw [decide_eq_false (by intro z; cases z), decide_eq_false (by omega)]⟩, ?_⟩
  rintro m σ G ⟨k, v, x7, x8, x9, x10, x11, x12, rfl, hkD, rfl, aw, ew, hdec⟩
  refine ⟨_, rfl, rfl, _, rfl, ?_⟩
  rw [hdec]
  by_cases c : D.length < k
  · rw [decide_eq_true c]
    exact iteF (q G (s12.trans aw.s))
  rw [decide_eq_false c]
  have hk1 : k ≤ D.length := by omega
  have ek : min k D.length = k := by omega
  rw [ek] at aw
  have es : ∀ r ∈ rs, stp r.D k = min (k + 1) D.length := fun r hr => by unfold stp; rw [dlen r hr]
  have k'l : min (k + 1) D.length ≤ D.length := Nat.min_le_right _ _
  refine iteT ⟨fun σ' G' => ∃ (v' : V) (x7 x8 x9 x10 x11 x12 : Option V), σ' = [some (.ref wa), some (.str kd.s), some (.str (oth kd).s), some (.ref d), some (.ref ra), some (.ref wk), some v', x7, x8, x9, x10, x11, x12] ∧ AllW K C H2 rs G' (fun _ => min (k + 1) D.length) ∧ G' wk = some (.lst (rs.map fun r => V.ref r.x)) ∧ decide (v' = V.non) = decide (D.length < k + 1), fun σ' G' ⟨v', y7, y8, y9, y10, y11, y12, h1, h2, h3, h4⟩ => ⟨D.length + 1 - (k + 1), by omega, k + 1, v', y7, y8, y9, y10, y11, y12, rfl, by omega, h1, h2, h3, h4⟩, ?_⟩
  -- each tells
  refine ⟨_, rfl, wk, rfl, ⟨_, SqL.of ew⟩, fun L hL => ?_⟩
  have nL : ∀ r ∈ rs, ∀ b ∈ r.pl, b ≠ L := aw.ne hL
  have nLB := aw.s.free hL
  have nLw : wk ≠ L := ne_of_none ew hL
  refine lc_list (xs := rs.map fun r => V.ref r.x) (fun j G' => ∃ vs, AllW K C H2 rs G' (fun i => if i < j then min (k + 1) D.length else k) ∧ G' wk = some (.lst (rs.map fun r => V.ref r.x)) ∧ G' L = some (.lst vs) ∧ Paired (TV G') vs ((rs.take j).map fun r => r.D[k]?)) ⟨[], (aw.same (same_new hL (.lst []))).congr (fun i _ => by rw [if_neg (Nat.not_lt_zero _)]), same_new hL (.lst []) _ _ ew, upd_same, .nil⟩ (fun j G' _ ⟨_, _, z, _⟩ => SqL.of z) ?_ ?_
  · rintro j u G' hu ⟨vs, aw', ew', eL, hvs⟩
    rw [List.getElem?_map] at hu
    obtain ⟨r, hr, rfl⟩ := Option.map_eq_some_iff.mp hu
    have hrm := List.mem_of_getElem? hr
    have hjl := (List.getElem?_eq_some_iff.mp hr).1
    have st := env.sta r hrm
    have wl : r.at_ K C G' k := by
      have := aw'.w j r hr
      rw [if_neg (Nat.lt_irrefl _)] at this
      exact this
    obtain ⟨dx, ob⟩ := Wlk.ins wl
    have lvs := Paired.length hvs
    rw [List.length_map, List.length_take] at lvs
    refine ⟨rfl, tyes ⟨_, rfl, r.x, dx, _, rfl, ob, wl_tell _ _ _ _ _ _, tell_both (E := E0) rfl wl st.wok st.h14 st.hk st.AO (by rw [dlen r hrm]; exact hk1) fun v' G'' kx tv wl' => ?_⟩⟩
    have kt := Wlk.kt wl kx
    have aw'' := aw'.step env hr kx kt wl'
    have eL'' := kx _ _ eL fun z => nL r hrm L (three_in z) rfl
    have ew'' := kx _ _ ew' fun z => nwk r hrm wk (three_in z) rfl
    have kL := keepT_upd eL'' (.lst (vs ++ [v']))
    refine ⟨vs, eL'', (by rw [sizeLine_eq]; omega), vs ++ [v'], (aw''.put nL nLB eL'' _).congr (fun i hi => ?_), by rw [upd_ne nLw]; exact ew'', upd_same, ?_⟩
    · by_cases e1 : i = j
      · rw [if_pos e1, if_pos (by omega), es r hrm]
      · rw [if_neg e1]
        by_cases e2 : i < j
        · rw [if_pos e2, if_pos (by omega)]
        · rw [if_neg e2, if_neg (by omega)]
    · have tk : (rs.take (j + 1)).map (fun r => r.D[k]?) = (rs.take j).map (fun r => r.D[k]?) ++ [r.D[k]?] := by rw [List.take_succ, hr, List.map_append]; rfl
      rw [tk]
      exact paired_two (Paired.mapP (Paired.mapP hvs fun _ _ z => TV.keep z kt) fun _ _ z => TV.keep z kL) (.cons (TV.keep tv kL) .nil)
  rintro G1 ⟨vs, aw1, ew1, eL, hvs⟩
  rw [List.length_map, rl] at aw1
  rw [List.length_map, List.take_length, ← tells k] at hvs
  have aw1' := aw1.congr (g := fun _ => min (k + 1) D.length) fun i hi => by rw [if_pos (by omega)]
  clear aw1
  obtain ⟨v0, v1, v2, rfl, tv0, tv1, tv2⟩ : ∃ v0 v1 v2, vs = [v0, v1, v2] ∧ TV G1 v0 D[k]? ∧ TV G1 v1 D[k]? ∧ TV G1 v2 ((D[k]?).map (List.map (rho names))) := by
    cases hvs with
    | cons a b =>
      cases b with
      | cons b c =>
        cases c with
        | cons c d =>
          cases d
          exact ⟨_, _, _, rfl, a, b, c⟩
  refine ⟨L, _, rfl, SqL.of eL, rfl, _, _, rfl, _, _, rfl, _, _, rfl, rfl, ?_⟩
  obtain ⟨_, W0, _, _, _, _, hW0, _⟩ := Wlk.q (aw1'.w 0 r0 hr0)
  rw [er0] at hW0
  have hW0' : Wk names (gK ties kd) D (min (k + 1) D.length) W0 := hW0
  -- numbers
  refine ⟨_, rfl, wk, rfl, ⟨_, SqL.of ew1⟩, fun Cn hCn => ?_⟩
  refine lc_list (xs := rs.map fun r => V.ref r.x) (fun j G' => Same G1 G' ∧ ∃ cs, G' Cn = some (.lst cs) ∧ Paired (fun v ns => IsInts G' v ns ∧ v ≠ V.ref Cn) cs (List.replicate j [((fils names (gK ties kd) D (min (k + 1) D.length) : Nat) : Int), ((W0.length : Nat) : Int), ((min (k + 1) D.length : Nat) : Int)])) ⟨same_new hCn _, [], upd_same, .nil⟩ (fun j G' _ p => SqL.of (p.1 _ _ ew1)) ?_ ?_
  · rintro j u G' hu ⟨g1, cs, eC, hcs⟩
    rw [List.getElem?_map] at hu
    obtain ⟨r, hr, rfl⟩ := Option.map_eq_some_iff.mp hu
    have hrm := List.mem_of_getElem? hr
    have hjl := (List.getElem?_eq_some_iff.mp hr).1
    have st := env.sta r hrm
    have wl : r.at_ K C G' (min (k + 1) D.length) := Wlk.same (aw1'.w j r hr) g1
    obtain ⟨dx, ob⟩ := Wlk.ins wl
    have kr : min (k + 1) D.length ≤ r.D.length := by rw [dlen r hrm]; exact k'l
    have lcs := Paired.length hcs
    rw [List.length_replicate] at lcs
    refine ⟨rfl, tyes ⟨_, rfl, r.x, dx, _, rfl, ob, wl_fillings _ _ _ _ _ _, r.x, r.wa, r.t, r.qa, r.fo, r.kd, r.names, r.ties, r.D, _, rfl, wl, st.h14, st.AO, kr, fun a1 ha1 => ?_⟩⟩
    refine ⟨_, rfl, r.x, dx, _, rfl, ob, wl_waiting _ _ _ _ _ _, r.x, r.wa, r.t, r.qa, r.fo, r.kd, r.names, r.ties, r.D, _, rfl, wl, st.h14, st.AO, kr, fun a2 ha2 => ?_⟩
    refine ⟨_, rfl, r.x, dx, _, rfl, ob, wl_told _ _ _ _ _ _, r.x, r.wa, r.t, r.qa, r.fo, r.kd, r.names, r.ties, r.D, _, rfl, wl, st.h14, st.AO, kr, fun a3 ha3 => ?_⟩
    obtain ⟨W, hW, rfl⟩ := ha2
    obtain ⟨m1, m2⟩ := num r hrm _ W0 W k'l hW0' hW
    rw [show a1 = _ from ha1, show a3 = _ from ha3, m1, m2]
    refine ⟨(by show 3 ≤ sizeLine; decide), fun l hl => ?_⟩
    have t2 := same_new hl (.lst [V.int ((fils names (gK ties kd) D (min (k + 1) D.length) : Nat) : Int), V.int ((W0.length : Nat) : Int), V.int ((min (k + 1) D.length : Nat) : Int)])
    have eC2 := t2 _ _ eC
    have nlC : l ≠ Cn := fun e => by rw [e, eC] at hl; cases hl
    refine ⟨cs, eC2, (by rw [sizeLine_eq]; omega), same_w (g1.trans t2) hCn _, cs ++ [V.ref l], upd_same, ?_⟩
    rw [List.replicate_succ']
    have keep : ∀ {v : V} {ns : List Int}, IsInts (upd G' l (.lst [V.int ((fils names (gK ties kd) D (min (k + 1) D.length) : Nat) : Int), V.int ((W0.length : Nat) : Int), V.int ((min (k + 1) D.length : Nat) : Int)])) v ns → v ≠ .ref Cn → IsInts (upd (upd G' l (.lst [V.int ((fils names (gK ties kd) D (min (k + 1) D.length) : Nat) : Int), V.int ((W0.length : Nat) : Int), V.int ((min (k + 1) D.length : Nat) : Int)])) Cn (.lst (cs ++ [V.ref l]))) v ns := fun {v ns} h ne => by
      obtain ⟨a, rfl, ha⟩ := h
      exact ⟨a, rfl, by rw [upd_ne fun z => ne (by rw [z])]; exact ha⟩
    refine paired_two (Paired.mapP hcs fun _ _ z => ⟨keep (z.1.same t2) z.2, z.2⟩) (.cons ⟨keep ⟨l, rfl, upd_same⟩ (fun z => nlC (by injection z)), fun z => nlC (by injection z)⟩ .nil)
  rintro G2 ⟨g2, cs, eC, hcs⟩
  rw [List.length_map, rl] at hcs
  obtain ⟨c0, c1, c2, rfl, hc0, hc1, hc2⟩ : ∃ c0 c1 c2, cs = [c0, c1, c2] ∧ IsInts G2 c0 [((fils names (gK ties kd) D (min (k + 1) D.length) : Nat) : Int), ((W0.length : Nat) : Int), ((min (k + 1) D.length : Nat) : Int)] ∧ IsInts G2 c1 [((fils names (gK ties kd) D (min (k + 1) D.length) : Nat) : Int), ((W0.length : Nat) : Int), ((min (k + 1) D.length : Nat) : Int)] ∧ IsInts G2 c2 [((fils names (gK ties kd) D (min (k + 1) D.length) : Nat) : Int), ((W0.length : Nat) : Int), ((min (k + 1) D.length : Nat) : Int)] := by
    cases hcs with
    | cons a b =>
      cases b with
      | cons b c =>
        cases c with
        | cons c d =>
          cases d
          exact ⟨_, _, _, rfl, a.1, b.1, c.1⟩
  generalize [((fils names (gK ties kd) D (min (k + 1) D.length) : Nat) : Int), ((W0.length : Nat) : Int), ((min (k + 1) D.length : Nat) : Int)] = n3 at hc0 hc1 hc2
  have aw2 := aw1'.same g2
  have ew2 := g2 _ _ ew1
  have tw0 := tv0.keep g2.keepT
  have tw1 := tv1.keep g2.keepT
  have tw2 := tv2.keep g2.keepT
  have ltD : ∀ r, D[k]? = some r → ∀ x ∈ r, Wd.Lt x := fun r hr => hall.lt wok r (List.mem_of_getElem? hr)
  -- over is the same
  refine ⟨_, rfl, _, rfl, _, _, nx_dp tw1, nx_dp tw0, nx_sh ltD, nx_sh ltD, _, rfl, ?_⟩
  rw [nx_eq]
  refine iteF ?_
  -- numbers are the same
  refine ⟨_, rfl, _, rfl, Cn, _, _, _, rfl, rfl, SqL.of eC, (show atI [c0, c1, c2] ((0 : Nat) : Int) = some c0 from atI_nat rfl), (by show 1 ≤ sizeLine; decide), fun l1 hl1 => ?_⟩
  have t3 := same_new hl1 (.lst [c0])
  refine ⟨l1, 3, [c0], rfl, rfl, upd_same, by decide, by decide, (by show 1 * 3 ≤ sizeLine; decide), fun rp hrp => ?_⟩
  have t4 := same_new hrp (.lst (List.replicate (3 : Int).toNat [c0]).flatten)
  have erp : (upd (upd G2 l1 (.lst [c0])) rp (.lst (List.replicate (3 : Int).toNat [c0]).flatten)) rp = some (.lst [c0, c0, c0]) := upd_same
  have g4 := t3.trans t4
  generalize upd (upd G2 l1 (.lst [c0])) rp (.lst (List.replicate (3 : Int).toNat [c0]).flatten) = G4 at erp g4 ⊢
  have i0 := ints_dp (K := K) (hc0.same g4)
  have i1 := ints_dp (K := K) (hc1.same g4)
  have i2 := ints_dp (K := K) (hc2.same g4)
  refine ⟨threeD n3, threeD n3, .lst (SqL.of (g4 _ _ eC)) (.cons i0 (.cons i1 (.cons i2 .nil))), .lst (SqL.of erp) (.cons i0 (.cons i0 (.cons i0 .nil))), shaped_three n3, shaped_three n3, _, rfl, ?_⟩
  rw [eqv_three]
  refine iteF ?_
  have aw4 := aw2.same g4
  have ew4 := g4 _ _ ew2
  have tx0 := tw0.keep g4.keepT
  have tx2 := tw2.keep g4.keepT
  have edG := aw4.s _ _ ed
  -- by other names
  refine ⟨_, rfl, rfl, _, rfl, ?_⟩
  rw [tx0.none_iff]
  have fin : ∀ (G' : Hp) (y9 y10 y11 y12 : Option V), Same G4 G' → ∃ (v' : V) (x7 x8 x9 x10 x11 x12 : Option V), [some (V.ref wa), some (V.str kd.s), some (V.str (oth kd).s), some (V.ref d), some (V.ref ra), some (V.ref wk), some v0, some v1, some v2, y9, y10, y11, y12] = [some (.ref wa), some (.str kd.s), some (.str (oth kd).s), some (.ref d), some (.ref ra), some (.ref wk), some v', x7, x8, x9, x10, x11, x12] ∧ AllW K C H2 rs G' (fun _ => min (k + 1) D.length) ∧ G' wk = some (.lst (rs.map fun r => V.ref r.x)) ∧ decide (v' = V.non) = decide (D.length < k + 1) := fun G' y9 y10 y11 y12 g => by
    refine ⟨v0, _, _, _, _, _, _, rfl, aw4.same g, g _ _ ew4, ?_⟩
    rw [tx0.none_iff]
    cases eo : D[k]? with
    | none =>
      have := List.getElem?_eq_none_iff.mp eo
      exact (decide_eq_true (by omega)).symm
    | some S =>
      have := (List.getElem?_eq_some_iff.mp eo).1
      exact (decide_eq_false (by omega)).symm
  cases eo : D[k]? with
  | none =>
    rw [eo] at tx2
    refine iteF ?_
    refine ⟨_, rfl, _, rfl, _, _, nx_dp tx2, .non, (show SeqAt.shaped PyData.none = true from by decide +kernel), (by decide +kernel), _, rfl, ?_⟩
    rw [show PyData.eqv (nxD (Option.map (List.map (rho names)) none)) .none = true from by simp [nxD, PyData.eqv]]
    exact iteF (fin G4 _ _ _ _ (Same.refl G4))
  | some S =>
    rw [eo] at tx0 tx2
    obtain ⟨r0a, rfl, hr0a⟩ := tx0
    refine iteT ?_
    have sS : ∀ y ∈ S, y ∈ names := fun y hy => ((AO.mem S).mp (List.mem_of_getElem? eo)).1.subset hy
    have lS := ((AO.mem S).mp (List.mem_of_getElem? eo)).1.length_le
    refine ⟨_, rfl, r0a, rfl, ⟨_, SqT.of hr0a⟩, fun D2 hD2 => ?_⟩
    refine lc_tup (xs := S.map V.str) (fun i G5 => Sp1 G4 D2 ((S.take i).map (rho names)) G5) (Sp1.start hD2) (fun i G5 _ p => SqT.of (p.s _ _ hr0a)) ?_ ?_
    · intro i u G5 hu p5
      obtain ⟨y, hy, rfl⟩ := str_at hu
      have hi : i < S.length := (List.getElem?_eq_some_iff.mp hy).1
      have tk : (S.take (i + 1)).map (rho names) = (S.take i).map (rho names) ++ [rho names y] := by rw [List.take_succ, hy, List.map_append]; rfl
      refine ⟨rfl, tyes ⟨_, rfl, _, rfl, d, _, rfl, (show DGet G5 d (.str y) (some (.str (rho names y))) from by rw [← hval y (sS y (List.mem_of_getElem? hy))]; exact DGet.k (k := Sum.inr y) (p5.s _ _ edG)), _, p5.v, (by rw [List.length_map, List.length_map, List.length_take]; exact small1000 (by omega)), ?_⟩⟩
      rw [tk]
      exact p5.add hD2 _
    intro G5 p5
    rw [List.length_map, List.take_length] at p5
    refine ⟨D2, _, rfl, .inl ⟨SqL.of p5.v, fun du hdu => ?_⟩⟩
    have t6 := same_new hdu (.tup ((S.map (rho names)).map V.str))
    have edu := at_new hdu (.tup ((S.map (rho names)).map V.str))
    have g6 := p5.s.trans t6
    generalize upd G5 du (.tup ((S.map (rho names)).map V.str)) = G6 at edu g6 ⊢
    have ltS : ∀ x ∈ S.map (rho names), Wd.Lt x := fun x hx => by
      obtain ⟨y, hy, rfl⟩ := List.mem_map.mp hx
      exact (rho_ok ndn (by omega) y (sS y hy)).1.lt
    refine ⟨_, rfl, _, rfl, _, _, nx_dp (tx2.keep g6.keepT), dp_strs (SqT.of edu), shaped_row ltS, shaped_strs ltS, _, rfl, ?_⟩
    show if (!PyData.eqv (rowD (S.map (rho names))) (rowD (S.map (rho names)))) = true then _ else _
    rw [show PyData.eqv (rowD (S.map (rho names))) (rowD (S.map (rho names))) = true from (eqv_strs _ _).trans (decide_eq_true rfl)]
    exact iteF (fin G6 _ _ _ _ g6)
end
end K20

namespace K20
open PySem L2 Wd Wm Tm Km Bm Gm Hm Fm Ym Am Zm
section
variable {P : Program} {w : World} {K : PySem.W.Frag} {mg : Str → Option Value} {base : Heap}
theorem kd2 {r : Int} (h0 : 0 ≤ r) (h1 : r < 2) : ∃ kd : Kd, atI [V.str "tied", V.str "apart"] r = some (.str kd.s) ∧ kd ≠ .C := by
  have : r = 0 ∨ r = 1 := by omega
  rcases this with rfl | rfl
  · exact ⟨.T, rfl, by intro z; cases z⟩
  · exact ⟨.A, rfl, by intro z; cases z⟩
def spLaw (K : PySem.W.Frag) : Sp := fun vs H Q _ => ∃ (a : Addr) (ns : List Int), vs = [.ref a] ∧ SqL K H a (ns.map V.int) ∧ ns.length ≤ 63 ∧ ∀ H', Q (.bl true) H'
theorem sc_law : FnScope ["script", "pile", "turn", "web", "kind"] ["script"] (defScope s_law) := ⟨rfl, rfl, rfl, by decide +kernel, rfl, by decide +kernel, by decide +kernel⟩
theorem ok_law {f : Addr} {fd : FuncData} (F : Fun K "law" "law" s_law f fd) (T : Tx mg) (oP : Own P w K mg base 1 "_law_pile" ["script"] (spPile K)) (oN : Own P w K mg base 1 "_law_next" ["pile", "most"] (spNextP K)) (oW : Own P w K mg base 3 "_law_web" ["pile", "most"] (spWeb K)) (oA : Own P w K mg base 5 "_law_three_alike" ["web", "kind"] (spAlike K)) (oM : Own P w K mg base 6 "_law_one_more" ["web", "kind"] (spMore K)) : FnOk P w K mg base CX0 7 f fd ["script"] (spLaw K) := by
  have nd := sc_law.nd
  obtain ⟨f1, fd1, G_law_pile, b_law_pile, k_law_pile, m_law_pile⟩ := oP
  obtain ⟨f2, fd2, G_law_next, b_law_next, k_law_next, m_law_next⟩ := oN
  obtain ⟨f3, fd3, G_law_web, b_law_web, k_law_web, m_law_web⟩ := oW
  obtain ⟨f4, fd4, G_law_three_alike, b_law_three_alike, k_law_three_alike, m_law_three_alike⟩ := oA
  obtain ⟨f5, fd5, G_law_one_more, b_law_one_more, k_law_one_more, m_law_one_more⟩ := oM
  refine F.ok sc_law (fun vs H Q E h => ?_) (fun cdv A outer s H vs Q E hr h => ?_)
  · obtain ⟨a, ns, rfl, _⟩ := h
    rfl
  have hr_law_pile := hr.mono (j := 1) (by decide)
  have hr_law_next := hr_law_pile
  have hr_law_web := hr.mono (j := 3) (by decide)
  have hr_law_three_alike := hr.mono (j := 5) (by decide)
  have hr_law_one_more := hr
  obtain ⟨a, ns, rfl, hS, h63, q⟩ := h
  refine SB.use (bcons
  (bset (n := 1) nd rfl (Or.inl (by kernel_rfl)) (ecall G_law_pile hr_law_pile (by unfold Gl; kernel_rfl) m_law_pile k_law_pile b_law_pile .nil pass0 (acons (ev 0 rfl (Or.inl (by kernel_rfl)) (by kernel_rfl) (by kernel_rfl)) anil (by kernel_rfl)) (by kernel_rfl) (by kernel_rfl) (by kernel_rfl)) (by kernel_rfl) (.inl rfl))
  (bcons
  (bfor PassesOwn.never rfl (irange1 (by unfold Gl; kernel_rfl) T.range (acons eint anil (by kernel_rfl)) (by kernel_rfl)) (gname (n := 2) nd rfl (Or.inl (by kernel_rfl)) (.inl rfl)) (bcons
  (bset (n := 3) nd rfl (Or.inl (by kernel_rfl)) (ecall G_law_web hr_law_web (by unfold Gl; kernel_rfl) m_law_web k_law_web b_law_web .nil pass0 (acons (ev 1 rfl (Or.inl (by kernel_rfl)) (by kernel_rfl) (by kernel_rfl)) (acons eint anil (by kernel_rfl)) (by kernel_rfl)) (by kernel_rfl) (by kernel_rfl) (by kernel_rfl)) (by kernel_rfl) (.inl rfl))
  (bcons
  (bset (n := 4) nd rfl (Or.inl (by kernel_rfl)) (eix ix_list (elst (acons estr (acons estr anil (by kernel_rfl)) (by kernel_rfl))) (ecall G_law_next hr_law_next (by unfold Gl; kernel_rfl) m_law_next k_law_next b_law_next .nil pass0 (acons (ev 1 rfl (Or.inl (by kernel_rfl)) (by kernel_rfl) (by kernel_rfl)) (acons eint anil (by kernel_rfl)) (by kernel_rfl)) (by kernel_rfl) (by kernel_rfl) (by kernel_rfl)) (fun _ _ => rfl)) (by kernel_rfl) (.inl rfl))
  (bone
  (bifs (tw (wor (tnot (tval (ecall G_law_three_alike hr_law_three_alike (by unfold Gl; kernel_rfl) m_law_three_alike k_law_three_alike b_law_three_alike .nil pass0 (acons (ev 3 rfl (Or.inl (by kernel_rfl)) (by kernel_rfl) (by kernel_rfl)) (acons (ev 4 rfl (Or.inl (by kernel_rfl)) (by kernel_rfl) (by kernel_rfl)) anil (by kernel_rfl)) (by kernel_rfl)) (by kernel_rfl) (by kernel_rfl) (by kernel_rfl)) (by intro _; rfl))) (wor1 (tnot (tval (ecall G_law_one_more hr_law_one_more (by unfold Gl; kernel_rfl) m_law_one_more k_law_one_more b_law_one_more .nil pass0 (acons (ev 3 rfl (Or.inl (by kernel_rfl)) (by kernel_rfl) (by kernel_rfl)) (acons (ev 4 rfl (Or.inl (by kernel_rfl)) (by kernel_rfl) (by kernel_rfl)) anil (by kernel_rfl)) (by kernel_rfl)) (by kernel_rfl) (by kernel_rfl) (by kernel_rfl)) (by intro _; rfl)))))) (bone
  (bret ebl)) bnil)))) (by intro _; rfl))
  (bone
  (bret ebl)))) ?_
  refine ⟨_, rfl, a, ns, rfl, hS, h63, fun p H1 s1 np pile1 => ?_⟩
  refine ⟨_, rfl, by decide, by decide, ?_⟩
  refine for_range (lo := 0) (fun i σ G => ∃ x2 x3 x4 : Option V, σ = [some (.ref a), some (.ref p), x2, x3, x4] ∧ Pile K G p a ns) ⟨_, _, _, rfl, pile1⟩ ?_ ?_
  · rintro i σ G hi ⟨x2, x3, x4, rfl, pg⟩
    refine ⟨_, rfl, p, a, ns, 11, rfl, pg, by decide, fun wa names ties G1 kb1 pg1 wat wok h14 h9 hz8 => ?_⟩
    refine ⟨(by show 2 ≤ sizeLine; decide), fun kl hkl => ?_⟩
    have s2 := same_new hkl (.lst [V.str "tied", V.str "apart"])
    have nkl := pg1.ne hkl
    refine ⟨_, rfl, p, a, ns, 2, rfl, pg1.same s2, by decide, by decide, fun r G2 r0 r1 kb2 pg2 => ?_⟩
    obtain ⟨kd, e, hk⟩ := kd2 r0 r1
    refine ⟨kl, _, _, _, rfl, rfl, SqL.of (kb2 _ _ upd_same nkl), e, ?_⟩
    obtain ⟨pl, hp1⟩ := (pg1.same s2).lst
    have kt := kb2.keepT hp1
    have wat2 := (wat.keep s2.keepT).keep kt
    refine ⟨_, rfl, _, rfl, wa, kd, names, ties, rfl, wat2, wok, h14, hk, fun G3 s3 => ⟨_, rfl, iteF ?_⟩⟩
    refine ⟨_, rfl, _, rfl, wa, kd, names, ties, rfl, wat2.keep s3.keepT, wok, by omega, hk, hz8, fun G4 s4 => ⟨_, rfl, iteF ?_⟩⟩
    exact ⟨_, _, _, rfl, pg2.same (s3.trans s4)⟩
  · rintro σ G ⟨x2, x3, x4, rfl, pg⟩
    exact q G
end
end K20

namespace K20
open PySem L2 Wd Wm Tm Sm Km Bm Gm Hm Fm Fn LS Ym Am Zm
theorem all_mk {l : PySem.W.OpenLaw} {w : World} {K : PySem.W.Frag} {h : Heap} {mg : Str → Option Value} {fa f1 f2 f3 f4 f5 f6 f7 f8 f9 f10 f11 f12 f13 f14 f15 f16 f17 f18 f19 f20 f21 f22 f23 : Addr} (X : K.In h) (G : h.Ns mainGlobals mg) (hfa : mg "law" = some (.ref fa))
    {od1 an1 od2 an2 od3 an3 od4 an4 od5 an5 od6 an6 od7 an7 od8 an8 od9 an9 od10 an10 od11 an11 od12 an12 od13 an13 od14 an14 od15 an15 od16 an16 od17 an17 od18 an18 od19 an19 od20 an20 od21 an21 od22 an22 od23 an23 : Option Addr} {sl1 sl2 sl3 sl4 sl5 sl6 sl7 sl8 sl9 sl10 sl11 sl12 sl13 sl14 sl15 sl16 sl17 sl18 sl19 sl20 sl21 sl22 sl23 : Array (Option Value)} {oc1 kV1 dc1 pm1 cd1 ct1 oc2 kV2 dc2 pm2 cd2 ct2 oc3 kV3 dc3 pm3 cd3 ct3 oc4 kV4 dc4 pm4 cd4 ct4 oc5 kV5 dc5 pm5 cd5 ct5 oc6 kV6 dc6 pm6 cd6 ct6 oc7 kV7 dc7 pm7 cd7 ct7 oc8 kV8 dc8 pm8 cd8 ct8 oc9 kV9 dc9 pm9 cd9 ct9 oc10 kV10 dc10 pm10 cd10 ct10 oc11 kV11 dc11 pm11 cd11 ct11 oc12 kV12 dc12 pm12 cd12 ct12 oc13 kV13 dc13 pm13 cd13 ct13 oc14 kV14 dc14 pm14 cd14 ct14 oc15 kV15 dc15 pm15 cd15 ct15 oc16 kV16 dc16 pm16 cd16 ct16 oc17 kV17 dc17 pm17 cd17 ct17 oc18 kV18 dc18 pm18 cd18 ct18 oc19 kV19 dc19 pm19 cd19 ct19 oc20 kV20 dc20 pm20 cd20 ct20 oc21 kV21 dc21 pm21 cd21 ct21 oc22 kV22 dc22 pm22 cd22 ct22 oc23 kV23 dc23 pm23 cd23 ct23 : Value}
    {aW : Addr} {esW : Array DictEntry} {nW : Nat} {C : Addr}
    (aC : PySem.W.nsIn K mainGlobals "Walk" = some (some (.ref C)))
    (a1 : PySem.W.nsIn K mainGlobals "tie_table" = some (some (.ref f1))) (l1 : K.lookup f1 = some ⟨oc1, od1, .func (PySem.W.fnOf "tie_table" "tie_table" (defArgs s_tie_table) (defBody s_tie_table) (defScope s_tie_table) .none kV1 dc1 pm1 an1 cd1 ct1), sl1⟩) (c1 : PySem.W.codeIn K cd1 "tie_table" = true) (k1 : PySem.W.keepIn K (.ref f1) = true)
    (a2 : PySem.W.nsIn K mainGlobals "goes_with" = some (some (.ref f2))) (l2 : K.lookup f2 = some ⟨oc2, od2, .func (PySem.W.fnOf "goes_with" "goes_with" (defArgs s_goes_with) (defBody s_goes_with) (defScope s_goes_with) .none kV2 dc2 pm2 an2 cd2 ct2), sl2⟩) (c2 : PySem.W.codeIn K cd2 "goes_with" = true) (k2 : PySem.W.keepIn K (.ref f2) = true)
    (a3 : PySem.W.nsIn K mainGlobals "grown" = some (some (.ref f3))) (l3 : K.lookup f3 = some ⟨oc3, od3, .func (PySem.W.fnOf "grown" "grown" (defArgs s_grown) (defBody s_grown) (defScope s_grown) .none kV3 dc3 pm3 an3 cd3 ct3), sl3⟩) (c3 : PySem.W.codeIn K cd3 "grown" = true) (k3 : PySem.W.keepIn K (.ref f3) = true)
    (a4 : PySem.W.nsIn K mainGlobals "begun_row" = some (some (.ref f4))) (l4 : K.lookup f4 = some ⟨oc4, od4, .func (PySem.W.fnOf "begun_row" "begun_row" (defArgs s_begun_row) (defBody s_begun_row) (defScope s_begun_row) .none kV4 dc4 pm4 an4 cd4 ct4), sl4⟩) (c4 : PySem.W.codeIn K cd4 "begun_row" = true) (k4 : PySem.W.keepIn K (.ref f4) = true)
    (a5 : PySem.W.nsIn K mainGlobals "is_full_ahead" = some (some (.ref f5))) (l5 : K.lookup f5 = some ⟨oc5, od5, .func (PySem.W.fnOf "is_full_ahead" "is_full_ahead" (defArgs s_is_full_ahead) (defBody s_is_full_ahead) (defScope s_is_full_ahead) .none kV5 dc5 pm5 an5 cd5 ct5), sl5⟩) (c5 : PySem.W.codeIn K cd5 "is_full_ahead" = true) (k5 : PySem.W.keepIn K (.ref f5) = true)
    (a6 : PySem.W.nsIn K mainGlobals "rows_led_to" = some (some (.ref f6))) (l6 : K.lookup f6 = some ⟨oc6, od6, .func (PySem.W.fnOf "rows_led_to" "rows_led_to" (defArgs s_rows_led_to) (defBody s_rows_led_to) (defScope s_rows_led_to) .none kV6 dc6 pm6 an6 cd6 ct6), sl6⟩) (c6 : PySem.W.codeIn K cd6 "rows_led_to" = true) (k6 : PySem.W.keepIn K (.ref f6) = true)
    (a7 : PySem.W.findIn K (.ref C) "__init__" = some (some (.ref f7))) (i7 : PySem.W.isFn K (.ref f7) = true) (l7 : K.lookup f7 = some ⟨oc7, od7, .func (PySem.W.fnOf "__init__" "Walk.__init__" (defArgs s_Walk___init__) (defBody s_Walk___init__) (defScope s_Walk___init__) .none kV7 dc7 pm7 an7 cd7 ct7), sl7⟩) (c7 : PySem.W.codeIn K cd7 "Walk.__init__" = true) (k7 : PySem.W.keepIn K (.ref f7) = true)
    (a8 : PySem.W.findIn K (.ref C) "tell" = some (some (.ref f8))) (i8 : PySem.W.isFn K (.ref f8) = true) (l8 : K.lookup f8 = some ⟨oc8, od8, .func (PySem.W.fnOf "tell" "Walk.tell" (defArgs s_Walk_tell) (defBody s_Walk_tell) (defScope s_Walk_tell) .none kV8 dc8 pm8 an8 cd8 ct8), sl8⟩) (c8 : PySem.W.codeIn K cd8 "Walk.tell" = true) (k8 : PySem.W.keepIn K (.ref f8) = true)
    (a9 : PySem.W.findIn K (.ref C) "fillings" = some (some (.ref f9))) (i9 : PySem.W.isFn K (.ref f9) = true) (l9 : K.lookup f9 = some ⟨oc9, od9, .func (PySem.W.fnOf "fillings" "Walk.fillings" (defArgs s_Walk_fillings) (defBody s_Walk_fillings) (defScope s_Walk_fillings) .none kV9 dc9 pm9 an9 cd9 ct9), sl9⟩) (c9 : PySem.W.codeIn K cd9 "Walk.fillings" = true) (k9 : PySem.W.keepIn K (.ref f9) = true)
    (a10 : PySem.W.findIn K (.ref C) "waiting" = some (some (.ref f10))) (i10 : PySem.W.isFn K (.ref f10) = true) (l10 : K.lookup f10 = some ⟨oc10, od10, .func (PySem.W.fnOf "waiting" "Walk.waiting" (defArgs s_Walk_waiting) (defBody s_Walk_waiting) (defScope s_Walk_waiting) .none kV10 dc10 pm10 an10 cd10 ct10), sl10⟩) (c10 : PySem.W.codeIn K cd10 "Walk.waiting" = true) (k10 : PySem.W.keepIn K (.ref f10) = true)
    (a11 : PySem.W.findIn K (.ref C) "told" = some (some (.ref f11))) (i11 : PySem.W.isFn K (.ref f11) = true) (l11 : K.lookup f11 = some ⟨oc11, od11, .func (PySem.W.fnOf "told" "Walk.told" (defArgs s_Walk_told) (defBody s_Walk_told) (defScope s_Walk_told) .none kV11 dc11 pm11 an11 cd11 ct11), sl11⟩) (c11 : PySem.W.codeIn K cd11 "Walk.told" = true) (k11 : PySem.W.keepIn K (.ref f11) = true)
    (a12 : PySem.W.nsIn K mainGlobals "pairs_of" = some (some (.ref f12))) (l12 : K.lookup f12 = some ⟨oc12, od12, .func (PySem.W.fnOf "pairs_of" "pairs_of" (defArgs s_pairs_of) (defBody s_pairs_of) (defScope s_pairs_of) .none kV12 dc12 pm12 an12 cd12 ct12), sl12⟩) (c12 : PySem.W.codeIn K cd12 "pairs_of" = true) (k12 : PySem.W.keepIn K (.ref f12) = true)
    (a13 : PySem.W.nsIn K mainGlobals "turned_over" = some (some (.ref f13))) (l13 : K.lookup f13 = some ⟨oc13, od13, .func (PySem.W.fnOf "turned_over" "turned_over" (defArgs s_turned_over) (defBody s_turned_over) (defScope s_turned_over) .none kV13 dc13 pm13 an13 cd13 ct13), sl13⟩) (c13 : PySem.W.codeIn K cd13 "turned_over" = true) (k13 : PySem.W.keepIn K (.ref f13) = true)
    (a14 : PySem.W.nsIn K mainGlobals "_law_pile" = some (some (.ref f14))) (l14 : K.lookup f14 = some ⟨oc14, od14, .func (PySem.W.fnOf "_law_pile" "_law_pile" (defArgs s_law_pile) (defBody s_law_pile) (defScope s_law_pile) .none kV14 dc14 pm14 an14 cd14 ct14), sl14⟩) (c14 : PySem.W.codeIn K cd14 "_law_pile" = true) (k14 : PySem.W.keepIn K (.ref f14) = true)
    (a15 : PySem.W.nsIn K mainGlobals "_law_next" = some (some (.ref f15))) (l15 : K.lookup f15 = some ⟨oc15, od15, .func (PySem.W.fnOf "_law_next" "_law_next" (defArgs s_law_next) (defBody s_law_next) (defScope s_law_next) .none kV15 dc15 pm15 an15 cd15 ct15), sl15⟩) (c15 : PySem.W.codeIn K cd15 "_law_next" = true) (k15 : PySem.W.keepIn K (.ref f15) = true)
    (a16 : PySem.W.nsIn K mainGlobals "_law_names" = some (some (.ref f16))) (l16 : K.lookup f16 = some ⟨oc16, od16, .func (PySem.W.fnOf "_law_names" "_law_names" (defArgs s_law_names) (defBody s_law_names) (defScope s_law_names) .none kV16 dc16 pm16 an16 cd16 ct16), sl16⟩) (c16 : PySem.W.codeIn K cd16 "_law_names" = true) (k16 : PySem.W.keepIn K (.ref f16) = true)
    (a17 : PySem.W.nsIn K mainGlobals "_law_is_tied" = some (some (.ref f17))) (l17 : K.lookup f17 = some ⟨oc17, od17, .func (PySem.W.fnOf "_law_is_tied" "_law_is_tied" (defArgs s_law_is_tied) (defBody s_law_is_tied) (defScope s_law_is_tied) .none kV17 dc17 pm17 an17 cd17 ct17), sl17⟩) (c17 : PySem.W.codeIn K cd17 "_law_is_tied" = true) (k17 : PySem.W.keepIn K (.ref f17) = true)
    (a18 : PySem.W.nsIn K mainGlobals "_law_web" = some (some (.ref f18))) (l18 : K.lookup f18 = some ⟨oc18, od18, .func (PySem.W.fnOf "_law_web" "_law_web" (defArgs s_law_web) (defBody s_law_web) (defScope s_law_web) .none kV18 dc18 pm18 an18 cd18 ct18), sl18⟩) (c18 : PySem.W.codeIn K cd18 "_law_web" = true) (k18 : PySem.W.keepIn K (.ref f18) = true)
    (a19 : PySem.W.nsIn K mainGlobals "_law_renamed" = some (some (.ref f19))) (l19 : K.lookup f19 = some ⟨oc19, od19, .func (PySem.W.fnOf "_law_renamed" "_law_renamed" (defArgs s_law_renamed) (defBody s_law_renamed) (defScope s_law_renamed) .none kV19 dc19 pm19 an19 cd19 ct19), sl19⟩) (c19 : PySem.W.codeIn K cd19 "_law_renamed" = true) (k19 : PySem.W.keepIn K (.ref f19) = true)
    (a20 : PySem.W.nsIn K mainGlobals "_law_three_alike" = some (some (.ref f20))) (l20 : K.lookup f20 = some ⟨oc20, od20, .func (PySem.W.fnOf "_law_three_alike" "_law_three_alike" (defArgs s_law_three_alike) (defBody s_law_three_alike) (defScope s_law_three_alike) .none kV20 dc20 pm20 an20 cd20 ct20), sl20⟩) (c20 : PySem.W.codeIn K cd20 "_law_three_alike" = true) (k20 : PySem.W.keepIn K (.ref f20) = true)
    (a21 : PySem.W.nsIn K mainGlobals "_law_told" = some (some (.ref f21))) (l21 : K.lookup f21 = some ⟨oc21, od21, .func (PySem.W.fnOf "_law_told" "_law_told" (defArgs s_law_told) (defBody s_law_told) (defScope s_law_told) .none kV21 dc21 pm21 an21 cd21 ct21), sl21⟩) (c21 : PySem.W.codeIn K cd21 "_law_told" = true) (k21 : PySem.W.keepIn K (.ref f21) = true)
    (a22 : PySem.W.nsIn K mainGlobals "_law_one_more" = some (some (.ref f22))) (l22 : K.lookup f22 = some ⟨oc22, od22, .func (PySem.W.fnOf "_law_one_more" "_law_one_more" (defArgs s_law_one_more) (defBody s_law_one_more) (defScope s_law_one_more) .none kV22 dc22 pm22 an22 cd22 ct22), sl22⟩) (c22 : PySem.W.codeIn K cd22 "_law_one_more" = true) (k22 : PySem.W.keepIn K (.ref f22) = true)
    (a23 : PySem.W.nsIn K mainGlobals "law" = some (some (.ref f23))) (l23 : K.lookup f23 = some ⟨oc23, od23, .func (PySem.W.fnOf "law" "law" (defArgs s_law) (defBody s_law) (defScope s_law) .none kV23 dc23 pm23 an23 cd23 ct23), sl23⟩) (c23 : PySem.W.codeIn K cd23 "law" = true) (k23 : PySem.W.keepIn K (.ref f23) = true)
    (z0 : PySem.W.nsIn K mainGlobals "len" = some none)
    (z1 : PySem.W.nsIn K mainGlobals "sum" = some none)
    (z2 : PySem.W.nsIn K mainGlobals "range" = some none)
    (z3 : PySem.W.nsIn K mainGlobals "sorted" = some none)
    (z4 : PySem.W.nsIn K mainGlobals "min" = some none)
    (z5 : PySem.W.nsIn K mainGlobals "int" = some none)
    (z6 : PySem.W.nsIn K mainGlobals "tuple" = some none)
    (z7 : PySem.W.nsIn K mainGlobals "isinstance" = some none)
    (z8 : PySem.W.nsIn K mainGlobals "str" = some none)
    (z9 : PySem.W.nsIn K mainGlobals "bool" = some none)
    (z10 : PySem.W.nsIn K mainGlobals "zip" = some none)
    (z11 : PySem.W.nsIn K mainGlobals "enumerate" = some none)
    (z12 : PySem.W.nsIn K mainGlobals "set" = some none)
    (z13 : PySem.W.nsIn K mainGlobals "all" = some none)
    (z14 : PySem.W.nsIn K mainGlobals "list" = some none)
    (z15 : PySem.W.nsIn K mainGlobals "max" = some none)
    (z16 : PySem.W.nsIn K mainGlobals "any" = some none)
    (z17 : PySem.W.nsIn K mainGlobals "reversed" = some none)
    (g1 : PySem.W.nsIn K mainGlobals "WANTS_TIE" = some (some (.ref aW)))
    (g2 : K.lookup aW = some ⟨.type "dict", none, .dict esW nW, #[]⟩)
    (g3 : PySem.W.KeysLit w.params esW.toList)
    (g4 : PySem.W.nsIn K aW "tied" = some (some (.bool true)))
    (g5 : PySem.W.nsIn K aW "apart" = some (some (.bool false)))
    (ga : PySem.W.nsIn K mainGlobals "abs" = some none)
    (pg : PySem.W.plainGet K C Str.empty = true)
    (hd : PySem.W.hasDictIn K C = true)
    (po : PySem.W.plainOver K C = true)
    (sa : PySem.W.findIn K (.ref C) "__setattr__" = some (some (.builtin "object.__setattr__")))
    (mk : PySem.W.makesIn K C = true)
    (kc : PySem.W.keepIn K (.ref C) = true)
    (n0 : PySem.W.findIn K (.ref C) "web" = some none)
    (n1 : PySem.W.findIn K (.ref C) "kind" = some none)
    (n2 : PySem.W.findIn K (.ref C) "table" = some none)
    (n3 : PySem.W.findIn K (.ref C) "queue" = some none)
    (n4 : PySem.W.findIn K (.ref C) "found" = some none)
    (n5 : PySem.W.findIn K (.ref C) "filled_times" = some none) :
    ∃ fd : FuncData, (∀ (s : Shared) (v : Value), BindsTo s fd ⟨[v], []⟩ [("script", v)]) ∧ ∀ base : Heap, K.In base → base.Ns mainGlobals mg → FnOk l.prog w K mg base CX0 7 fa fd ["script"] (spLaw K) := by
  have e := hfa.symm.trans (PySem.W.mg_of X G a23)
  cases e
  have T : Tx mg := ⟨PySem.W.mg_none_of X G z0, PySem.W.mg_none_of X G z1, PySem.W.mg_none_of X G z2, PySem.W.mg_none_of X G z3, PySem.W.mg_none_of X G z4, PySem.W.mg_none_of X G z5, PySem.W.mg_none_of X G z6, PySem.W.mg_none_of X G z7, PySem.W.mg_none_of X G z8, PySem.W.mg_none_of X G z9, PySem.W.mg_none_of X G z10, PySem.W.mg_none_of X G z11, PySem.W.mg_none_of X G z12, PySem.W.mg_none_of X G z13, PySem.W.mg_none_of X G z14, PySem.W.mg_none_of X G z15, PySem.W.mg_none_of X G z16, PySem.W.mg_none_of X G z17⟩
  have F1 := fun_mk (st := s_tie_table) l1 c1 k1
  have b1 := F1.binds (ps := ["web"]) fun _ _ _ _ _ _ us hl => match us, hl with | [_], _ => rfl
  have F2 := fun_mk (st := s_goes_with) l2 c2 k2
  have b2 := F2.binds (ps := ["table", "kind", "name", "row"]) fun _ _ _ _ _ _ us hl => match us, hl with | [_, _, _, _], _ => rfl
  have F3 := fun_mk (st := s_grown) l3 c3 k3
  have b3 := F3.binds (ps := ["web", "table", "kind", "row"]) fun _ _ _ _ _ _ us hl => match us, hl with | [_, _, _, _], _ => rfl
  have F4 := fun_mk (st := s_begun_row) l4 c4 k4
  have b4 := F4.binds (ps := ["table", "kind", "row", "name"]) fun _ _ _ _ _ _ us hl => match us, hl with | [_, _, _, _], _ => rfl
  have F5 := fun_mk (st := s_is_full_ahead) l5 c5 k5
  have b5 := F5.binds (ps := ["web", "table", "kind", "row", "name"]) fun _ _ _ _ _ _ us hl => match us, hl with | [_, _, _, _, _], _ => rfl
  have F6 := fun_mk (st := s_rows_led_to) l6 c6 k6
  have b6 := F6.binds (ps := ["web", "table", "kind", "row"]) fun _ _ _ _ _ _ us hl => match us, hl with | [_, _, _, _], _ => rfl
  have F7 := fun_mk (st := s_Walk___init__) l7 c7 k7
  have b7 := F7.binds (ps := ["self", "web", "kind"]) fun _ _ _ _ _ _ us hl => match us, hl with | [_, _, _], _ => rfl
  have F8 := fun_mk (st := s_Walk_tell) l8 c8 k8
  have b8 := F8.binds (ps := ["self"]) fun _ _ _ _ _ _ us hl => match us, hl with | [_], _ => rfl
  have F9 := fun_mk (st := s_Walk_fillings) l9 c9 k9
  have b9 := F9.binds (ps := ["self"]) fun _ _ _ _ _ _ us hl => match us, hl with | [_], _ => rfl
  have F10 := fun_mk (st := s_Walk_waiting) l10 c10 k10
  have b10 := F10.binds (ps := ["self"]) fun _ _ _ _ _ _ us hl => match us, hl with | [_], _ => rfl
  have F11 := fun_mk (st := s_Walk_told) l11 c11 k11
  have b11 := F11.binds (ps := ["self"]) fun _ _ _ _ _ _ us hl => match us, hl with | [_], _ => rfl
  have F12 := fun_mk (st := s_pairs_of) l12 c12 k12
  have b12 := F12.binds (ps := ["names"]) fun _ _ _ _ _ _ us hl => match us, hl with | [_], _ => rfl
  have F13 := fun_mk (st := s_turned_over) l13 c13 k13
  have b13 := F13.binds (ps := ["web"]) fun _ _ _ _ _ _ us hl => match us, hl with | [_], _ => rfl
  have F14 := fun_mk (st := s_law_pile) l14 c14 k14
  have b14 := F14.binds (ps := ["script"]) fun _ _ _ _ _ _ us hl => match us, hl with | [_], _ => rfl
  have F15 := fun_mk (st := s_law_next) l15 c15 k15
  have b15 := F15.binds (ps := ["pile", "most"]) fun _ _ _ _ _ _ us hl => match us, hl with | [_, _], _ => rfl
  have F16 := fun_mk (st := s_law_names) l16 c16 k16
  have b16 := F16.binds (ps := ["pile", "many"]) fun _ _ _ _ _ _ us hl => match us, hl with | [_, _], _ => rfl
  have F17 := fun_mk (st := s_law_is_tied) l17 c17 k17
  have b17 := F17.binds (ps := ["pile", "way", "many", "one", "other"]) fun _ _ _ _ _ _ us hl => match us, hl with | [_, _, _, _, _], _ => rfl
  have F18 := fun_mk (st := s_law_web) l18 c18 k18
  have b18 := F18.binds (ps := ["pile", "most"]) fun _ _ _ _ _ _ us hl => match us, hl with | [_, _], _ => rfl
  have F19 := fun_mk (st := s_law_renamed) l19 c19 k19
  have b19 := F19.binds (ps := ["web"]) fun _ _ _ _ _ _ us hl => match us, hl with | [_], _ => rfl
  have F20 := fun_mk (st := s_law_three_alike) l20 c20 k20
  have b20 := F20.binds (ps := ["web", "kind"]) fun _ _ _ _ _ _ us hl => match us, hl with | [_, _], _ => rfl
  have F21 := fun_mk (st := s_law_told) l21 c21 k21
  have b21 := F21.binds (ps := ["web", "kind"]) fun _ _ _ _ _ _ us hl => match us, hl with | [_, _], _ => rfl
  have F22 := fun_mk (st := s_law_one_more) l22 c22 k22
  have b22 := F22.binds (ps := ["web", "kind"]) fun _ _ _ _ _ _ us hl => match us, hl with | [_, _], _ => rfl
  have F23 := fun_mk (st := s_law) l23 c23 k23
  refine ⟨PySem.W.fnOf "law" "law" (defArgs s_law) (defBody s_law) (defScope s_law) .none kV23 dc23 pm23 an23 cd23 ct23, fun s v => .of_eq rfl, fun base _ _ => ?_⟩
  have TW : TxW K mg C := ⟨⟨pg, hd, po, sa⟩, n0, n1, n2, n3, n4, n5, PySem.W.mg_of X G aC⟩
  have C : Wsh K w mg := ⟨aW, PySem.W.mg_of X G g1, ⟨esW, nW, g2, g3⟩, g4, g5⟩
  have TA : mg "abs" = none := PySem.W.mg_none_of X G ga
  have oTT : Own l.prog w K mg base 1 "tie_table" ["web"] (spTable K) := ⟨f1, _, ok_table F1 T, b1, k1, PySem.W.mg_of X G a1⟩
  have oGW : Own l.prog w K mg base 1 "goes_with" ["table", "kind", "name", "row"] (spGoes K) := ⟨f2, _, ok_goes F2 T C, b2, k2, PySem.W.mg_of X G a2⟩
  have oGr : Own l.prog w K mg base 2 "grown" ["web", "table", "kind", "row"] (spGrow K) := ⟨f3, _, ok_grow F3 T oGW, b3, k3, PySem.W.mg_of X G a3⟩
  have oBe : Own l.prog w K mg base 2 "begun_row" ["table", "kind", "row", "name"] (spBegun K) := ⟨f4, _, ok_begun F4 T oGW, b4, k4, PySem.W.mg_of X G a4⟩
  have oFu : Own l.prog w K mg base 2 "is_full_ahead" ["web", "table", "kind", "row", "name"] (spFull K) := ⟨f5, _, ok_full F5 T oGW, b5, k5, PySem.W.mg_of X G a5⟩
  have oLe : Own l.prog w K mg base 3 "rows_led_to" ["web", "table", "kind", "row"] (spLed K) := ⟨f6, _, ok_led F6 T oBe oFu oGr, b6, k6, PySem.W.mg_of X G a6⟩
  have GI := ok_ini (P := l.prog) (w := w) (base := base) F7 T TW oTT oGr
  have GT := ok_tell (P := l.prog) (w := w) (base := base) F8 T TW oLe
  have G5 := ok_fillings (P := l.prog) (w := w) (base := base) F9 TW
  have G6 := ok_waiting (P := l.prog) (w := w) (base := base) F10 T TW
  have G7 := ok_told (P := l.prog) (w := w) (base := base) F11 T TW
  have oPa : Own l.prog w K mg base 1 "pairs_of" ["names"] (spPairs K) := ⟨f12, _, ok_pairs F12 T, b12, k12, PySem.W.mg_of X G a12⟩
  have oTn : Own l.prog w K mg base 2 "turned_over" ["web"] (spTurn K) := ⟨f13, _, ok_turn F13 T oPa, b13, k13, PySem.W.mg_of X G a13⟩
  have oPi : Own l.prog w K mg base 1 "_law_pile" ["script"] (spPile K) := ⟨f14, _, ok_pile F14 T, b14, k14, PySem.W.mg_of X G a14⟩
  have oNx : Own l.prog w K mg base 1 "_law_next" ["pile", "most"] (spNextP K) := ⟨f15, _, ok_nextp F15 T TA, b15, k15, PySem.W.mg_of X G a15⟩
  have oNa : Own l.prog w K mg base 2 "_law_names" ["pile", "many"] (spNames K) := ⟨f16, _, ok_names F16 T oNx, b16, k16, PySem.W.mg_of X G a16⟩
  have oTi : Own l.prog w K mg base 2 "_law_is_tied" ["pile", "way", "many", "one", "other"] (spTied K) := ⟨f17, _, ok_tied F17 T oNx, b17, k17, PySem.W.mg_of X G a17⟩
  have oW : Own l.prog w K mg base 3 "_law_web" ["pile", "most"] (spWeb K) := ⟨f18, _, ok_web F18 T oNx oNa oTi, b18, k18, PySem.W.mg_of X G a18⟩
  have oRn : Own l.prog w K mg base 1 "_law_renamed" ["web"] (spRen K) := ⟨f19, _, ok_ren F19 T, b19, k19, PySem.W.mg_of X G a19⟩
  have oAl : Own l.prog w K mg base 5 "_law_three_alike" ["web", "kind"] (spAlike K) := ⟨f20, _, ok_alike F20 T TW oRn oTn ⟨mk, a7, i7, kc⟩ GI b7 ⟨a8, i8, k8⟩ GT b8 ⟨a9, i9, k9⟩ G5 b9 ⟨a10, i10, k10⟩ G6 b10 ⟨a11, i11, k11⟩ G7 b11, b20, k20, PySem.W.mg_of X G a20⟩
  have oTo : Own l.prog w K mg base 5 "_law_told" ["web", "kind"] (spToldW K) := ⟨f21, _, ok_toldw F21 T TW ⟨mk, a7, i7, kc⟩ GI b7 ⟨a8, i8, k8⟩ GT b8, b21, k21, PySem.W.mg_of X G a21⟩
  have oMo : Own l.prog w K mg base 6 "_law_one_more" ["web", "kind"] (spMore K) := ⟨f22, _, ok_more F22 T oTo, b22, k22, PySem.W.mg_of X G a22⟩
  exact ok_law F23 T oPi oNx oW oAl oMo
theorem walk {l : PySem.W.OpenLaw} {q : Program} {loose : List Str} {XP : (Str → Option Value) → Heap → Prop} {YP : World → Heap → Prop} {d : DefRec} {K : Params → PySem.W.Frag} (hn : l.most = some 63) (hdf : d.params.defaults = [])
    (hY : ∀ (w : World) (h : Heap), YP w h → (K w.params).In h)
    (F : ∀ (w : World) (mg : Str → Option Value) (fa : Addr) (h : Heap), (K w.params).In h → h.Ns mainGlobals mg → mg d.name = some (.ref fa) →
      ∃ fd : FuncData, (∀ (s : Shared) (u : Value), BindsTo s fd ⟨[u], []⟩ [("script", u)]) ∧ ∀ base : Heap, (K w.params).In base → base.Ns mainGlobals mg → FnOk l.prog w (K w.params) mg base CX0 7 fa fd ["script"] (spLaw (K w.params))) :
    PySem.W.WalkO q loose XP YP l.row.toRowW d [] (fun f vs => PySem.call f vs) :=
  L2.walk_of (n := 63) (k := 7) (x := "script") (CX := fun _ => CX0) (sp := fun w => spLaw (K w.params)) hn (by decide) hdf ⟨rfl, by decide, by decide⟩ hY F (fun _ _ a ns hl _ hS => ⟨a, ns, rfl, hS, hl, fun _ => rfl⟩) fun _ _ _ _ _ z => z
end K20
open PySem PySem.W PyProof.Rows
set_option maxRecDepth 100000 in
set_option maxHeartbeats 0 in
theorem PySem.Challenge.cw_eachgreatest_k20_whole_walks_otherwise_holds : PySem.Challenge.rw_eachgreatest_k20_whole_walks_otherwise.Holds := by
  w_on; o_law; k_head; (case hw => w_witness2)
  k_fill
  refine K20.walk (l := PySem.Challenge.rw_eachgreatest_k20_whole_walks_otherwise) rfl rfl (fun w h Y => PySem.W.kIn_of Y) ?F
  case F =>
    intro w mg fa h KX G hmg
    refine' K20.all_mk KX G hmg ?aC ?a1 ?l1 ?c1 ?k1 ?a2 ?l2 ?c2 ?k2 ?a3 ?l3 ?c3 ?k3 ?a4 ?l4 ?c4 ?k4 ?a5 ?l5 ?c5 ?k5 ?a6 ?l6 ?c6 ?k6 ?a7 ?i7 ?l7 ?c7 ?k7 ?a8 ?i8 ?l8 ?c8 ?k8 ?a9 ?i9 ?l9 ?c9 ?k9 ?a10 ?i10 ?l10 ?c10 ?k10 ?a11 ?i11 ?l11 ?c11 ?k11 ?a12 ?l12 ?c12 ?k12 ?a13 ?l13 ?c13 ?k13 ?a14 ?l14 ?c14 ?k14 ?a15 ?l15 ?c15 ?k15 ?a16 ?l16 ?c16 ?k16 ?a17 ?l17 ?c17 ?k17 ?a18 ?l18 ?c18 ?k18 ?a19 ?l19 ?c19 ?k19 ?a20 ?l20 ?c20 ?k20 ?a21 ?l21 ?c21 ?k21 ?a22 ?l22 ?c22 ?k22 ?a23 ?l23 ?c23 ?k23 ?z0 ?z1 ?z2 ?z3 ?z4 ?z5 ?z6 ?z7 ?z8 ?z9 ?z10 ?z11 ?z12 ?z13 ?z14 ?z15 ?z16 ?z17 ?g1 ?g2 ?g3 ?g4 ?g5 ?ga ?pg ?hd ?po ?sa ?mk ?kc ?n0 ?n1 ?n2 ?n3 ?n4 ?n5
    (case aC => k_is)
    (case a1 => k_is)
    (case l1 => k_is)
    (case c1 => k_is)
    (case k1 => k_is)
    (case a2 => k_is)
    (case l2 => k_is)
    (case c2 => k_is)
    (case k2 => k_is)
    (case a3 => k_is)
    (case l3 => k_is)
    (case c3 => k_is)
    (case k3 => k_is)
    (case a4 => k_is)
    (case l4 => k_is)
    (case c4 => k_is)
    (case k4 => k_is)
    (case a5 => k_is)
    (case l5 => k_is)
    (case c5 => k_is)
    (case k5 => k_is)
    (case a6 => k_is)
    (case l6 => k_is)
    (case c6 => k_is)
    (case k6 => k_is)
    (case a7 => k_is)
    (case i7 => k_is)
    (case l7 => k_is)
    (case c7 => k_is)
    (case k7 => k_is)
    (case a8 => k_is)
    (case i8 => k_is)
    (case l8 => k_is)
    (case c8 => k_is)
    (case k8 => k_is)
    (case a9 => k_is)
    (case i9 => k_is)
    (case l9 => k_is)
    (case c9 => k_is)
    (case k9 => k_is)
    (case a10 => k_is)
    (case i10 => k_is)
    (case l10 => k_is)
    (case c10 => k_is)
    (case k10 => k_is)
    (case a11 => k_is)
    (case i11 => k_is)
    (case l11 => k_is)
    (case c11 => k_is)
    (case k11 => k_is)
    (case a12 => k_is)
    (case l12 => k_is)
    (case c12 => k_is)
    (case k12 => k_is)
    (case a13 => k_is)
    (case l13 => k_is)
    (case c13 => k_is)
    (case k13 => k_is)
    (case a14 => k_is)
    (case l14 => k_is)
    (case c14 => k_is)
    (case k14 => k_is)
    (case a15 => k_is)
    (case l15 => k_is)
    (case c15 => k_is)
    (case k15 => k_is)
    (case a16 => k_is)
    (case l16 => k_is)
    (case c16 => k_is)
    (case k16 => k_is)
    (case a17 => k_is)
    (case l17 => k_is)
    (case c17 => k_is)
    (case k17 => k_is)
    (case a18 => k_is)
    (case l18 => k_is)
    (case c18 => k_is)
    (case k18 => k_is)
    (case a19 => k_is)
    (case l19 => k_is)
    (case c19 => k_is)
    (case k19 => k_is)
    (case a20 => k_is)
    (case l20 => k_is)
    (case c20 => k_is)
    (case k20 => k_is)
    (case a21 => k_is)
    (case l21 => k_is)
    (case c21 => k_is)
    (case k21 => k_is)
    (case a22 => k_is)
    (case l22 => k_is)
    (case c22 => k_is)
    (case k22 => k_is)
    (case a23 => k_is)
    (case l23 => k_is)
    (case c23 => k_is)
    (case k23 => k_is)
    (case z0 => k_is)
    (case z1 => k_is)
    (case z2 => k_is)
    (case z3 => k_is)
    (case z4 => k_is)
    (case z5 => k_is)
    (case z6 => k_is)
    (case z7 => k_is)
    (case z8 => k_is)
    (case z9 => k_is)
    (case z10 => k_is)
    (case z11 => k_is)
    (case z12 => k_is)
    (case z13 => k_is)
    (case z14 => k_is)
    (case z15 => k_is)
    (case z16 => k_is)
    (case z17 => k_is)
    (case g1 => k_is)
    (case g2 => k_is)
    (case g3 => exact ⟨⟨_, _, rfl, rfl⟩, ⟨_, _, rfl, rfl⟩, trivial⟩)
    (case g4 => k_is)
    (case g5 => k_is)
    (case ga => k_is)
    (case pg => k_is)
    (case hd => k_is)
    (case po => k_is)
    (case sa => k_is)
    (case mk => k_is)
    (case kc => k_is)
    (case n0 => k_is)
    (case n1 => k_is)
    (case n2 => k_is)
    (case n3 => k_is)
    (case n4 => k_is)
    (case n5 => k_is)
