import PyProof.Rows.All
import Wide.All
import OpenK.AllK
import Wide.FinOn
import Lean
import PyProof.EqAt
import PyProof.EqKinds
import PyProof.TupleCall
import PyProof.NeKinds
import PyProof.ExcInit
import PySem.Challenge.RW_sidecut_k05_lengths_and_units
set_option Elab.async false
set_option linter.all false
set_option maxRecDepth 100000
/-! THE HAND LAYER, for ints, bools, texts, own classes, LISTS and tuples (index, slices, in, append, pop ..), calls, loops. Paste it whole ahead of your own text; what your proof does not reach may be deleted. -/
namespace L2
open PySem PySem.Spec PyProof.Rows

/-- a key: an int or a str -/
abbrev Key := Sum Int Str
def keyIs : Key → Value → Bool
  | .inl k, v => Value.isInt k v
  | .inr x, v => Value.isStrOf x v
def keyH (w : World) : Key → Int
  | .inl k => hashInt k
  | .inr x => hashStr w x
theorem keyIs_shape : ∀ {k : Key} {v : Value}, keyIs k v = true → (∃ i t, k = Sum.inl i ∧ v = Value.int i t) ∨ (∃ x t, k = Sum.inr x ∧ v = Value.str x t)
  | .inl i, v, h => by
    obtain ⟨t, e⟩ := Value.isInt_shape (k := i) (v := v) h
    exact .inl ⟨i, t, rfl, e⟩
  | .inr x, v, h => by
    obtain ⟨t, e⟩ := Value.isStrOf_shape (x := x) (v := v) h
    exact .inr ⟨x, t, rfl, e⟩
theorem keyIs_int (i : Int) (t : Tok) : keyIs (.inl i) (.int i t) = true := by simp [keyIs, Value.isInt]
theorem keyIs_str (x : Str) (t : Tok) : keyIs (.inr x) (.str x t) = true := by simp [keyIs, Value.isStrOf]
theorem key_ll (a b : Int) : decide ((Sum.inl a : Key) = Sum.inl b) = (a == b) := by
  by_cases e : a = b
  · subst e; simp
  · have h : ¬ (Sum.inl a : Key) = Sum.inl b := fun q => e (Sum.inl.inj q)
    rw [decide_eq_false h]
    exact (beq_eq_false_iff_ne.mpr e).symm
theorem key_rr (a b : Str) : decide ((Sum.inr a : Key) = Sum.inr b) = decide (a = b) := by
  by_cases e : a = b
  · subst e; simp
  · have h : ¬ (Sum.inr a : Key) = Sum.inr b := fun q => e (Sum.inr.inj q)
    rw [decide_eq_false h, decide_eq_false e]
theorem key_lr (a : Int) (b : Str) : decide ((Sum.inl a : Key) = Sum.inr b) = false := decide_eq_false (fun q => nomatch q)
theorem key_rl (a : Str) (b : Int) : decide ((Sum.inr a : Key) = Sum.inl b) = false := decide_eq_false (fun q => nomatch q)

def mixKind (prog : Program) (w : World) : PySem.KeyKind prog w Key where
  is := keyIs
  hash := keyH w
  inj := fun v a b ha hb => by
    rcases keyIs_shape ha with ⟨i, t, rfl, rfl⟩ | ⟨x, t, rfl, rfl⟩
    · rcases keyIs_shape hb with ⟨j, u, rfl, e⟩ | ⟨y, u, rfl, e⟩
      · injection e with e1 _; rw [e1]
      · exact nomatch e
    · rcases keyIs_shape hb with ⟨j, u, rfl, e⟩ | ⟨y, u, rfl, e⟩
      · exact nomatch e
      · injection e with e1 _; rw [e1]
  byValue := fun k v h => by
    rcases keyIs_shape h with ⟨i, t, rfl, rfl⟩ | ⟨x, t, rfl, rfl⟩ <;> rfl
  pyHash := fun hv h => by
    rcases keyIs_shape hv with ⟨i, t, rfl, rfl⟩ | ⟨x, t, rfl, rfl⟩
    · exact wpAny_pyHash_int h
    · exact wpAny_pyHash_str h
  eqBool := fun hu hv h => by
    rcases keyIs_shape hu with ⟨i, t, rfl, rfl⟩ | ⟨x, t, rfl, rfl⟩
    · rcases keyIs_shape hv with ⟨j, u, rfl, rfl⟩ | ⟨y, u, rfl, rfl⟩
      · rw [key_ll] at h; exact wpAny_eqBool_int h
      · rw [key_lr] at h; exact SeqAt.EqAt.int_str i t y u _ _ _ _ h
    · rcases keyIs_shape hv with ⟨j, u, rfl, rfl⟩ | ⟨y, u, rfl, rfl⟩
      · rw [key_rl] at h; exact SeqAt.EqAt.str_int x t j u _ _ _ _ h
      · rw [key_rr] at h; exact wpAny_eqBool_str h
  «strs» := fun k x t v h => by
    rcases keyIs_shape h with ⟨i, u, rfl, e⟩ | ⟨y, u, rfl, e⟩
    · exact nomatch e
    · injection e with e1 _
      subst e1
      cases v <;> rfl

theorem mixKind_is (prog : Program) (w : World) (k : Key) (v : Value) : (mixKind prog w).is k v = keyIs k v := rfl
theorem mixKind_int (prog : Program) (w : World) (i : Int) (t : Tok) : (mixKind prog w).is (.inl i) (.int i t) = true := keyIs_int i t
theorem mixKind_str (prog : Program) (w : World) (x : Str) (t : Tok) : (mixKind prog w).is (.inr x) (.str x t) = true := keyIs_str x t
end L2

namespace L2
open PySem PySem.Spec PyProof.Rows

/-- a value, without the heap -/
inductive V where
  | non | bl (b : Bool) | int (i : Int) | str (x : Str) | byt (b : Array UInt8) | flt (b : UInt64) | ref (a : Addr) | ty (n : String)
  deriving DecidableEq

def RelV : V → Value → Prop
  | .non, u => u = Value.none
  | .bl b, u => u = Value.bool b
  | .int i, u => ∃ t, u = Value.int i t
  | .str x, u => ∃ t, u = Value.str x t
  | .byt b, u => ∃ t, u = Value.bytes b t
  | .flt b, u => ∃ t, u = Value.float b t
  | .ref a, u => u = Value.ref a
  | .ty n, u => u = Value.type n

abbrev Vals : List V → List Value → Prop := Paired RelV
theorem Vals.length {xs : List V} {us : List Value} (r : Vals xs us) : xs.length = us.length := Paired.length r
theorem Vals.get : ∀ {xs : List V} {us : List Value} {i : Nat} {x : V}, Vals xs us → xs[i]? = some x → ∃ u, us[i]? = some u ∧ RelV x u
  | _, _, _, _, .nil, e => by simp at e
  | _, _, 0, _, .cons r _, e => by simp at e; subst e; exact ⟨_, rfl, r⟩
  | _, _, i + 1, x, .cons _ t, e => by
    obtain ⟨u, h1, h2⟩ := Vals.get (i := i) (x := x) t (by simpa using e)
    exact ⟨u, by simpa using h1, h2⟩
theorem Vals.set {x : V} {u : Value} (r : RelV x u) : ∀ {xs : List V} {us : List Value} (i : Nat), Vals xs us → Vals (xs.set i x) (us.set i u)
  | _, _, _, .nil => .nil
  | _, _, 0, .cons _ t => .cons r t
  | _, _, i + 1, .cons q t => .cons q (Vals.set r i t)
theorem Vals.append : ∀ {xs ys : List V} {us ws : List Value}, Vals xs us → Vals ys ws → Vals (xs ++ ys) (us ++ ws)
  | _, _, _, _, .nil, s => s
  | _, _, _, _, .cons r t, s => .cons r (Vals.append t s)
theorem Vals.take : ∀ {xs : List V} {us : List Value} (n : Nat), Vals xs us → Vals (xs.take n) (us.take n)
  | _, _, 0, _ => .nil
  | _, _, _ + 1, .nil => .nil
  | _, _, n + 1, .cons r t => .cons r (Vals.take n t)
theorem Vals.drop : ∀ {xs : List V} {us : List Value} (n : Nat), Vals xs us → Vals (xs.drop n) (us.drop n)
  | _, _, 0, r => r
  | _, _, _ + 1, .nil => .nil
  | _, _, n + 1, .cons _ t => Vals.drop n t
theorem Vals.none_of : ∀ {xs : List V} {us : List Value} {i : Nat}, Vals xs us → xs[i]? = none → us[i]? = none := fun {xs us i} r e => by
  have h1 := r.length
  have h2 : xs.length ≤ i := List.getElem?_eq_none_iff.mp e
  exact List.getElem?_eq_none_iff.mpr (by omega)

def RelO : Option V → Option Value → Prop
  | some v, some u => RelV v u
  | none, none => True
  | _, _ => False
def KV {κ : Type} : List (κ × V) → List (κ × Value) → Prop := Paired fun (p : κ × V) (q : κ × Value) => p.1 = q.1 ∧ RelV p.2 q.2

/-- a key of a dict (00_mix): an int or a text -/
def kV : Key → V
  | .inl i => .int i
  | .inr x => .str x

/-- what stands at a tracked address -/
inductive HO where
  /-- a list -/
  | lst (xs : List V)
  /-- a tuple (never changes) -/
  | tup (xs : List V)
  /-- a dict whose keys are ints and texts; one whose keys are tuples of ints and texts (the empty one is both) -/
  | dK (kvs : List (Key × V)) | dT (kvs : List (List Key × V))
  /-- a set of ints: its members, its size -/
  | set (S : Int → Bool) (n : Nat)
  /-- an instance of the class at C, its dict at dx, its attributes -/
  | ins (C dx : Addr) (fs : List (Str × V))
  /-- the dict of the instance at x -/
  | own (x : Addr)
  /-- the dict of an exception -/
  | xd (fs : List (Str × V))
  /-- a bound method, f of x -/
  | met (f x : Addr)
  /-- a range object lo, lo + 1, .. below hi -/
  | rng (lo hi : Int)
  /-- a thing that is known to the object (the script; a dict while a loop walks it): read, never written while it is so -/
  | frz (o : Obj) (u : HO)
  /-- a code object's table -/
  | tbl (ps : Array Value)
  /-- any other thing, by what is true of its one object (a def of one's own: SetO a S n := HO.ext fun h => ..) -/
  | ext (φ : Heap → Prop)

abbrev Hp := Addr → Option HO
def upd (H : Hp) (a : Addr) (o : HO) : Hp := fun b => if b = a then some o else H b
theorem upd_same {H : Hp} {a : Addr} {o : HO} : upd H a o a = some o := by unfold upd; rw [if_pos rfl]
theorem upd_ne {H : Hp} {a b : Addr} {o : HO} (h : b ≠ a) : upd H a o b = H b := by unfold upd; rw [if_neg h]
theorem upd_upd {H : Hp} {a : Addr} {o u : HO} : upd (upd H a o) a u = upd H a u := by
  funext b; unfold upd; split <;> rfl
/-- two objects of different content stand apart -/
theorem ne_of {H : Hp} {a b : Addr} {o u : HO} (h : H a = some o) (h' : H b = some u) (d : o ≠ u) : a ≠ b := by
  intro e; subst e; rw [h] at h'; exact d (Option.some.inj h')
theorem ne_of_none {H : Hp} {a b : Addr} {o : HO} (h : H a = some o) (h' : H b = none) : a ≠ b := by
  intro e; subst e; rw [h] at h'; cases h'

section
variable (P : Program) (w : World)
def ObjOk (H : Hp) (h : Heap) (a : Addr) : HO → Prop
  | .lst xs => xs.length ≤ sizeLine ∧ ∃ (its : List Value) (n : Nat), Vals xs its ∧ h.get? a = some { cls := .type "list", data := .seq its.toArray n }
  | .tup xs => xs.length ≤ sizeLine ∧ ∃ its : List Value, Vals xs its ∧ IsTup h a its.toArray
  | .dK kvs => kvs.length ≤ sizeLine ∧ (a == sysModules) = false ∧ ∃ vs, KV kvs vs ∧ h.DictOf (mixKind P w) a vs
  | .dT kvs => kvs.length ≤ sizeLine ∧ (a == sysModules) = false ∧ ∃ xs : List (List Key × Addr × Value),
      Paired (fun (p : List Key × V) (q : List Key × Addr × Value) => p.1 = q.1 ∧ H q.2.1 = some (.tup (p.1.map kV)) ∧ RelV p.2 q.2.2) kvs xs ∧
      ∃ o es ep, h.get? a = some o ∧ o.ExactDict ∧ o.data = .dict es ep ∧ es.toList = xs.map (entryOfKey (tupleKind (mixKind P w))) ∧ (xs.map (·.1)).Nodup
  | .set S n => h.SetOf (intKind P w) a S n
  | .ins C dx fs => H dx = some (.own a) ∧ fs.length ≤ 1000 ∧ dx ≠ a ∧ h.get? a = some (PySem.W.instObj C dx) ∧
      ∃ mA, h.Ns1 dx mA ∧ (∀ f, RelO (fs.lookup f) (mA f)) ∧ PySem.Within mA (fs.map (·.1))
  | .own _ => ∃ o, h.get? a = some o
  | .xd fs => ∃ mA, h.Ns1 a mA ∧ ∀ f, RelO (fs.lookup f) (mA f)
  | .rng lo hi => ∃ t u v, h.get? a = some { cls := .type "range", data := .fields #[.int lo t, .int hi u, .int 1 v] }
  | .frz o u => h.get? a = some o ∧ ObjOk H h a u
  | .tbl ps => h.get? a = some { cls := .none, data := .fields ps }
  | .met f x => h.get? a = some (PySem.W.methodObj (.ref f) (.ref x))
  | .ext φ => φ h ∧ (∃ o, h.get? a = some o) ∧ ∀ h1 h2 : Heap, φ h1 → (∀ o, h1.get? a = some o → h2.get? a = some o) → φ h2
/-- the abstract heap is held -/
def HOk (H : Hp) (h : Heap) : Prop := ∀ a o, H a = some o → ObjOk P w H h a o
end

section
variable {P : Program} {w : World} {H H' : Hp} {h h' : Heap} {a : Addr} {o : HO}
theorem ObjOk.lt (x : ObjOk P w H h a o) : a < h.objs.size := by
  cases o with
  | lst xs => obtain ⟨_, _, _, _, e⟩ := x; exact Heap.lt_size e
  | tup xs => obtain ⟨_, _, _, p⟩ := x; exact p.lt
  | dK kvs => obtain ⟨_, _, _, _, o, _, _, e, _⟩ := x; exact Heap.lt_size e
  | dT kvs => obtain ⟨_, _, _, _, o, _, _, e, _⟩ := x; exact Heap.lt_size e
  | set S n => obtain ⟨o, _, _, _, e, _⟩ := x; exact Heap.lt_size e
  | ins C dx fs => obtain ⟨_, _, _, e, _⟩ := x; exact Heap.lt_size e
  | own y => obtain ⟨_, e⟩ := x; exact Heap.lt_size e
  | xd fs => obtain ⟨_, ⟨_, _, _, e, _⟩, _⟩ := x; exact Heap.lt_size e
  | rng lo hi => obtain ⟨_, _, _, e⟩ := x; exact Heap.lt_size e
  | frz ob u => obtain ⟨e, _⟩ := x; exact Heap.lt_size e
  | tbl ps => exact Heap.lt_size (show h.get? a = some _ from x)
  | met f y => exact Heap.lt_size (show h.get? a = some _ from x)
  | ext φ => obtain ⟨_, ⟨_, e⟩, _⟩ := x; exact Heap.lt_size e
theorem Paired.mapP {α β : Type} {F G : α → β → Prop} : ∀ {l₁ : List α} {l₂ : List β}, Paired F l₁ l₂ → (∀ a b, F a b → G a b) → Paired G l₁ l₂
  | _, _, .nil, _ => .nil
  | _, _, .cons r t, f => .cons (f _ _ r) (Paired.mapP t f)
theorem Paired.imp' {α β : Type} {F G : α → β → Prop} (f : ∀ a b, F a b → G a b) {l₁ : List α} {l₂ : List β} (r : Paired F l₁ l₂) : Paired G l₁ l₂ := Paired.mapP r f
/-- what an object's description leans on: its own object, its own dict, the tuples -/
theorem ObjOk.stay (x : ObjOk P w H h a o) (k : ∀ b u, (b = a ∨ H b = some (.own a)) → h.get? b = some u → h'.get? b = some u)
    (ho : ∀ b, H b = some (.own a) → H' b = some (.own a)) (ht : ∀ b xs, H b = some (.tup xs) → H' b = some (.tup xs)) : ObjOk P w H' h' a o := by
  induction o with
  | lst xs => obtain ⟨z, its, n, r, e⟩ := x; exact ⟨z, its, n, r, k _ _ (.inl rfl) e⟩
  | tup xs => obtain ⟨z, its, r, ob, e, c⟩ := x; exact ⟨z, its, r, ob, k _ _ (.inl rfl) e, c⟩
  | dK kvs => obtain ⟨z, y, vs, r, ob, es, ep, e, c⟩ := x; exact ⟨z, y, vs, r, ob, es, ep, k _ _ (.inl rfl) e, c⟩
  | dT kvs =>
    obtain ⟨z, y, xs, r, ob, es, ep, e, c⟩ := x
    exact ⟨z, y, xs, Paired.mapP r fun p q z => ⟨z.1, ht _ _ z.2.1, z.2.2⟩, ob, es, ep, k _ _ (.inl rfl) e, c⟩
  | set S n => obtain ⟨ob, es, ep, t, e, c⟩ := x; exact ⟨ob, es, ep, t, k _ _ (.inl rfl) e, c⟩
  | ins C dx fs =>
    obtain ⟨d, z, ne, e, mA, ⟨od, es, ep, e2, c⟩, r⟩ := x
    exact ⟨ho _ d, z, ne, k _ _ (.inl rfl) e, mA, ⟨od, es, ep, k _ _ (.inr d) e2, c⟩, r⟩
  | own y => obtain ⟨ob, e⟩ := x; exact ⟨ob, k _ _ (.inl rfl) e⟩
  | xd fs => obtain ⟨mA, ⟨od, es, ep, e, c⟩, r⟩ := x; exact ⟨mA, ⟨od, es, ep, k _ _ (.inl rfl) e, c⟩, r⟩
  | rng lo hi => obtain ⟨t, u, v, e⟩ := x; exact ⟨t, u, v, k _ _ (.inl rfl) e⟩
  | frz ob u ih => obtain ⟨e, q⟩ := x; exact ⟨k _ _ (.inl rfl) e, ih q⟩
  | tbl ps =>
    have e : h.get? a = some { cls := .none, data := .fields ps } := x
    show h'.get? a = some { cls := .none, data := .fields ps }
    exact k a _ (.inl rfl) e
  | met f y =>
    have e : h.get? a = some (PySem.W.methodObj (.ref f) (.ref y)) := x
    show h'.get? a = some (PySem.W.methodObj (.ref f) (.ref y))
    exact k a _ (.inl rfl) e
  | ext φ => obtain ⟨p, ⟨o, e⟩, st⟩ := x; exact ⟨st _ _ p fun o q => k _ _ (.inl rfl) q, ⟨o, k _ _ (.inl rfl) e⟩, st⟩
theorem HOk.lt (x : HOk P w H h) (e : H a = some o) : a < h.objs.size := (x a o e).lt
theorem HOk.fresh (x : HOk P w H h) (e : h.objs.size ≤ a) : H a = none := by
  cases q : H a with
  | none => rfl
  | some u => exact absurd (Nat.lt_of_lt_of_le (x.lt q) e) (Nat.lt_irrefl _)
/-- every object of the heap is kept -/
theorem HOk.kept (x : HOk P w H h) (k : ∀ b u, h.get? b = some u → h'.get? b = some u) : HOk P w H h' := fun a o e =>
  (x a o e).stay (fun b u _ q => k b u q) (fun _ q => q) fun _ _ q => q
/-- a new object is laid and tracked -/
theorem HOk.laid (x : HOk P w H h) (k : ∀ b u, h.get? b = some u → h'.get? b = some u) (hp : h.objs.size ≤ a) (new : ObjOk P w (upd H a o) h' a o) : HOk P w (upd H a o) h' := fun b u e => by
  have hn := x.fresh hp
  by_cases hb : b = a
  · subst hb; rw [upd_same] at e; cases e; exact new
  · rw [upd_ne hb] at e
    exact (x b u e).stay (fun c v _ q => k c v q) (fun c q => by rw [upd_ne (ne_of_none q hn)]; exact q) fun c xs q => by rw [upd_ne (ne_of_none q hn)]; exact q
end

/-- what may be read as u: it is u, or a known u -/
def Rd (H : Hp) (a : Addr) (u : HO) : Prop := H a = some u ∨ ∃ o, H a = some (.frz o u)
theorem Rd.of {H : Hp} {a : Addr} {u : HO} (h : H a = some u) : Rd H a u := .inl h
theorem Rd.ok {P : Program} {w : World} {H : Hp} {h : Heap} {a : Addr} {u : HO} (r : Rd H a u) (x : HOk P w H h) : ObjOk P w H h a u := by
  rcases r with r | ⟨o, r⟩
  · exact x a u r
  · obtain ⟨_, q⟩ := x a _ r
    exact q
/-- what may be written -/
def Mut : Option HO → Prop
  | some (.lst _) => True
  | some (.dK _) => True
  | some (.dT _) => True
  | some (.set _ _) => True
  | some (.ins _ _ _) => True
  | some (.ext _) => True
  | _ => False
section
variable {P : Program} {w : World} {H : Hp} {h h' : Heap} {x e : Addr} {o' : HO}
/-- the object at e is changed: x itself, or the dict of the instance x -/
theorem HOk.write (ok : HOk P w H h) (mu : Mut (H x)) (he : e = x ∨ H e = some (.own x)) (k : ∀ b u, b ≠ e → h.get? b = some u → h'.get? b = some u) (heo : ∃ u, h'.get? e = some u)
    (new : ObjOk P w (upd H x o') h' x o') : HOk P w (upd H x o') h' := fun b u q => by
  have nown : ∀ c y, H c = some (.own y) → c ≠ x := fun c y r z => by subst z; rw [r] at mu; exact mu
  have ntup : ∀ c xs, H c = some (.tup xs) → c ≠ x := fun c xs r z => by subst z; rw [r] at mu; exact mu
  by_cases hb : b = x
  · subst hb; rw [upd_same] at q; cases q; exact new
  · rw [upd_ne hb] at q
    by_cases hbe : b = e
    · have q' : H b = some (.own x) := by
        rcases he with z | z
        · exact absurd (hbe.trans z) hb
        · rw [hbe]; exact z
      rw [q] at q'; cases q'
      obtain ⟨v, hv⟩ := heo
      exact ⟨v, by rw [hbe]; exact hv⟩
    · refine (ok b u q).stay (fun c v hc r => k c v ?_ r) (fun c r => by rw [upd_ne (nown c b r)]; exact r) fun c xs r => by rw [upd_ne (ntup c xs r)]; exact r
      rcases hc with rfl | hc
      · exact hbe
      · rintro rfl
        rcases he with z | z
        · exact nown c b hc z
        · rw [hc] at z; cases z; exact hb rfl
end

/-! ### kept unless tracked; of the frames at fs (the callers') the slots may change (an exception that passes writes there); of the records at ex (iterators) nothing is said -/
structure Un (fs ex : List Addr) (H H' : Hp) (h h' : Heap) : Prop where
  keep : ∀ b o, h.get? b = some o → H b = none → b ∉ fs → b ∉ ex → h'.get? b = some o
  slot : ∀ b o, h.get? b = some o → H b = none → b ∈ fs → b ∉ ex → ∃ sl, h'.get? b = some { o with slots := sl }
  free : ∀ b o, h.get? b = some o → H b = none → b ∉ ex → H' b = none
  there : ∀ b o, h.get? b = some o → b ∉ ex → ∃ o', h'.get? b = some o'
  tups : ∀ b xs, H b = some (.tup xs) → H' b = some (.tup xs)
  frzs : ∀ b o u, H b = some (.frz o u) → H' b = some (.frz o u)
  tbls : ∀ b ps, H b = some (.tbl ps) → ∃ more, H' b = some (.tbl (ps ++ more))
section
variable {fs fs' ex ex' : List Addr} {H H1 H2 : Hp} {h h1 h2 h' : Heap} {a x e : Addr} {o : HO}
theorem Un.any (u : Un fs ex H H1 h h1) {b : Addr} {ob : Obj} (q : h.get? b = some ob) (n : H b = none) (hx : b ∉ ex) : ∃ sl, h1.get? b = some { ob with slots := sl } := by
  by_cases hb : b ∈ fs
  · exact u.slot b ob q n hb hx
  · exact ⟨ob.slots, u.keep b ob q n hb hx⟩
theorem Un.trans (a : Un fs ex H H1 h h1) (b : Un fs ex H1 H2 h1 h2) : Un fs ex H H2 h h2 where
  keep := fun c ob q n hc hx => b.keep c ob (a.keep c ob q n hc hx) (a.free c ob q n hx) hc hx
  slot := fun c ob q n hc hx => by
    obtain ⟨sl, e1⟩ := a.slot c ob q n hc hx
    obtain ⟨sl', e2⟩ := b.slot c _ e1 (a.free c ob q n hx) hc hx
    exact ⟨sl', e2⟩
  free := fun c ob q n hx => by
    obtain ⟨o', e1⟩ := a.there c ob q hx
    exact b.free c o' e1 (a.free c ob q n hx) hx
  there := fun c ob q hx => by
    obtain ⟨o', e1⟩ := a.there c ob q hx
    exact b.there c o' e1 hx
  tups := fun c xs q => b.tups c xs (a.tups c xs q)
  frzs := fun c ob xs q => b.frzs c ob xs (a.frzs c ob xs q)
  tbls := fun c ps q => by
    obtain ⟨m1, e1⟩ := a.tbls c ps q
    obtain ⟨m2, e2⟩ := b.tbls c _ e1
    exact ⟨m1 ++ m2, by rw [e2, Array.append_assoc]⟩
theorem Un.kept (k : ∀ b u, h.get? b = some u → h'.get? b = some u) : Un fs ex H H h h' :=
  ⟨fun b ob q _ _ _ => k b ob q, fun b ob q _ _ _ => ⟨ob.slots, k b ob q⟩, fun _ _ _ n _ => n, fun b ob q _ => ⟨ob, k b ob q⟩, fun _ _ q => q, fun _ _ _ q => q, fun _ ps q => ⟨#[], by rw [q]; simp⟩⟩
theorem Un.refl : Un fs ex H H h h := Un.kept fun _ _ q => q
theorem Un.laid (k : ∀ b u, h.get? b = some u → h'.get? b = some u) (hp : h.objs.size ≤ a) (hn : H a = none) : Un fs ex H (upd H a o) h h' where
  keep := fun b u q _ _ _ => k b u q
  slot := fun b u q _ _ _ => ⟨u.slots, k b u q⟩
  free := fun b u q n _ => by rw [upd_ne (Nat.ne_of_lt (Nat.lt_of_lt_of_le (Heap.lt_size q) hp))]; exact n
  there := fun b u q _ => ⟨u, k b u q⟩
  tups := fun b xs q => by rw [upd_ne (ne_of_none q hn)]; exact q
  frzs := fun b u xs q => by rw [upd_ne (ne_of_none q hn)]; exact q
  tbls := fun b ps q => ⟨#[], by rw [upd_ne (ne_of_none q hn), q]; simp⟩
theorem Un.write (mu : Mut (H x)) (he : e = x ∨ H e = some (.own x)) (k : ∀ b u, b ≠ e → h.get? b = some u → h'.get? b = some u) (heo : ∃ u, h'.get? e = some u) : Un fs ex H (upd H x o) h h' := by
  have hx : ∀ b, H b = none → b ≠ x := fun b n z => by subst z; rw [n] at mu; exact mu
  have hb : ∀ b, H b = none → b ≠ e := fun b n z => by
    subst z
    rcases he with r | r
    · exact hx b n r
    · rw [n] at r; cases r
  have hm : ∀ b u, H b = some u → ¬ Mut (some u) → b ≠ x := fun b u q nm z => by subst z; rw [q] at mu; exact nm mu
  refine ⟨fun b u q n _ _ => k b u (hb b n) q, fun b u q n _ _ => ⟨u.slots, k b u (hb b n) q⟩, fun b u q n _ => by rw [upd_ne (hx b n)]; exact n, fun b u q _ => ?_,
    fun b xs q => by rw [upd_ne (hm b _ q fun z => z)]; exact q, fun b u xs q => by rw [upd_ne (hm b _ q fun z => z)]; exact q, fun b ps q => ⟨#[], by rw [upd_ne (hm b _ q fun z => z), q]; simp⟩⟩
  by_cases hbe : b = e
  · subst hbe; exact heo
  · exact ⟨u, k b u hbe q⟩
theorem Un.mono (u : Un fs ex H H1 h h1) (hs : ∀ b ∈ fs, b ∈ fs') (hx : ∀ b ∈ ex, b ∈ ex') : Un fs' ex' H H1 h h1 :=
  ⟨fun b ob q n hb he => u.keep b ob q n (fun z => hb (hs b z)) fun z => he (hx b z), fun _ _ q n _ he => u.any q n fun z => he (hx _ z), fun b ob q n he => u.free b ob q n fun z => he (hx b z), fun b ob q he => u.there b ob q fun z => he (hx b z), u.tups, u.frzs, u.tbls⟩
end

/-! ### the heap without what is tracked -/
def trk (h : Heap) (H : Hp) : List Addr := (List.range h.objs.size).filter fun a => (H a).isSome
def hidT (h : Heap) (H : Hp) : Heap := PySem.W.hideAll h (trk h H)
theorem hidT_size (h : Heap) (H : Hp) : (hidT h H).objs.size = h.objs.size := PySem.W.hideAll_size _ _
theorem hidT_get {h : Heap} {H : Hp} {b : Addr} {o : Obj} (e : h.get? b = some o) (n : H b = none) : (hidT h H).get? b = some o :=
  PySem.W.hideAll_get _ e fun hm => by
    have q : (H b).isSome = true := (List.mem_filter.mp hm).2
    rw [n] at q; simp at q
theorem of_hidT {h : Heap} {H : Hp} {b : Addr} {o : Obj} (e : (hidT h H).get? b = some o) : h.get? b = some o ∧ H b = none := by
  have e' : h.get? b = some o := PySem.W.of_hideAll (trk h H) e
  refine ⟨e', ?_⟩
  cases q : H b with
  | none => rfl
  | some x =>
    have hm : b ∈ trk h H := List.mem_filter.mpr ⟨List.mem_range.mpr (Heap.lt_size e'), by simp [q]⟩
    have z : (hidT h H).get? b = none := PySem.W.hideAll_none (trk h H) hm
    rw [z] at e; cases e

/-! ### OpenK's ledger, filled with every new object but one -/
def allNews (g h : Heap) (L : Addr) : List (Addr × Obj) := (List.range h.objs.size).filterMap fun a => if a = L ∨ (g.get? a).isSome = true then none else (h.get? a).map fun o => (a, o)
theorem mem_allNews {g h : Heap} {L a : Addr} {o : Obj} (h1 : a ≠ L) (h2 : g.get? a = none) (h3 : h.get? a = some o) : (a, o) ∈ allNews g h L :=
  List.mem_filterMap.mpr ⟨a, List.mem_range.mpr (Heap.lt_size h3), by simp [h1, h2, h3]⟩
theorem of_mem_allNews {g h : Heap} {L : Addr} {p : Addr × Obj} (hp : p ∈ allNews g h L) : p.1 ≠ L ∧ g.get? p.1 = none ∧ h.get? p.1 = some p.2 := by
  obtain ⟨b, _, e⟩ := List.mem_filterMap.mp hp
  split at e
  · cases e
  · rename_i hn
    cases q : h.get? b with
    | none => rw [q] at e; simp at e
    | some u =>
      rw [q] at e
      simp only [Option.map_some, Option.some.injEq] at e
      subst e
      refine ⟨fun z => hn (.inl z), ?_, q⟩
      show g.get? b = none
      cases r : g.get? b with
      | none => rfl
      | some v => exact (hn (.inr (by simp [r]))).elim
def rest (g h : Heap) (L d : Addr) : List (Addr × Obj) := (allNews g h L).filter fun p => decide (p.1 ≠ d)
theorem rest_ne {g h : Heap} {L d : Addr} : ∀ p ∈ rest g h L d, p.1 ≠ d := fun p hp => of_decide_eq_true (List.mem_filter.mp hp).2
theorem mem_rest {g h : Heap} {L d a : Addr} {o : Obj} (h1 : a ≠ L) (h2 : g.get? a = none) (h3 : h.get? a = some o) (h4 : a ≠ d) : (a, o) ∈ rest g h L d :=
  List.mem_filter.mpr ⟨mem_allNews h1 h2 h3, decide_eq_true h4⟩
theorem news_all {g h : Heap} {L : Addr} : News g L h (allNews g h L) := fun p hp => let ⟨a, b, c⟩ := of_mem_allNews hp; ⟨c, a, b⟩
theorem news_at {g h : Heap} {L d : Addr} {o : Obj} (h1 : d ≠ L) (h2 : g.get? d = none) (h3 : h.get? d = some o) : News g L h ((d, o) :: rest g h L d) := fun p hp => by
  rcases List.mem_cons.mp hp with rfl | hp
  · exact ⟨h3, h1, h2⟩
  · exact news_all p (List.mem_filter.mp hp).1
/-- behind a rule that changed d alone: all else but the frame is kept -/
theorem kept_of_news {g h h' : Heap} {L d : Addr} {m : Str → Option Value} (k : ∀ b o, g.get? b = some o → h.get? b = some o) (F : Fr g L h' m) (N : News g L h' (rest g h L d)) :
    ∀ b o, b ≠ L → b ≠ d → h.get? b = some o → h'.get? b = some o := fun b o h1 h2 e => by
  cases q : g.get? b with
  | some u =>
    have := k b u q
    rw [e] at this; cases this
    exact F.keep b _ q
  | none => exact (N (b, o) (mem_rest h1 q e h2)).1
end L2

namespace L2
open PySem PySem.Spec PyProof.Rows

/-- the module's facts, over the base: the heap at the law's entry without what is tracked there -/
structure Mod (K : PySem.W.Frag) (mg : Str → Option Value) (base : Heap) : Prop where
  kin : K.In base
  glob : base.Ns mainGlobals mg
  blt : ∃ mb, base.Ns builtinsNs mb ∧ ∀ x : Str, x ≠ "__name__" → mb x = bootBuiltins x
  nolimit : base.NoLimit

/-- the context: a def's body (or a comprehension's block) running. base: fixed through the whole law; s₀, H₀: the entry; outer: the frames whose slots others may change (a def's callers); stack: all frames that run;
   ex: iterators that were made ahead of the entry and are walked here (a comprehension's); fn: the names whose cells were made at the entry (a def: all; a comprehension's block: its own); calm: not within an except suite; pn: pins that every state bears; xe: what is wanted of an exception that leaves the code -/
structure Cx where
  prog : Program
  w : World
  K : PySem.W.Frag
  mg : Str → Option Value
  base : Heap
  A : Around
  N : List Str
  s₀ : Shared
  H₀ : Hp
  env : Env
  outer : List Env
  stack : List Env
  ex : List Addr
  fn : Str → Bool
  calm : Bool
  pn : List (Addr × Obj)
  xe : Value → Shared → Prop
/-- the callers' frames -/
def frs (l : List Env) : List Addr := l.filterMap (·.frame)
abbrev Cx.fs (X : Cx) : List Addr := frs X.outer

def Vis (sc : Scope) (x : Str) : Prop := sc.names.lookup x = some .local ∨ sc.names.lookup x = some .cell ∨ sc.names.lookup x = some .free
def Loc (sc : Scope) (x : Str) : Prop := sc.names.lookup x = some .local ∨ sc.names.lookup x = some .cell
def Look (env : Env) (h : Heap) (m : Str → Option Value) (x : Str) (u : Value) : Prop :=
  (env.kindOf x = some .local ∧ m x = some u) ∨ ((env.kindOf x = some .cell ∨ env.kindOf x = some .free) ∧ ∃ c, env.cells.lookup x = some c ∧ h.IsCell c (some u))

structure Cx.Ok (X : Cx) : Prop where
  mod : Mod X.K X.mg X.base
  kind : X.env.scope.kind = .function
  glob : X.env.globals = mainGlobals
  blt : X.env.builtins = builtinsNs
  above : X.s₀.heap.objs.size ≤ X.env.locals
  inj : ∀ x y c, X.env.cells.lookup x = some c → X.env.cells.lookup y = some c → x = y
  has : ∀ x, (X.env.kindOf x = some .cell ∨ X.env.kindOf x = some .free) → ∃ c, X.env.cells.lookup x = some c
  cab : ∀ x c, X.fn x = true → X.env.cells.lookup x = some c → X.s₀.heap.objs.size ≤ c
  hd : X.calm = true → X.A.handled = none
  frames : X.A.frames = some X.stack
  stk : X.stack = X.outer ∨ (X.stack = X.env :: X.outer ∧ X.env.frame = some X.env.locals)
  exf : ∀ b ∈ X.ex, b ≠ X.env.locals ∧ ∀ x c, X.env.cells.lookup x = some c → c ≠ b
  bs : ∀ b o, X.base.get? b = some o → X.s₀.heap.get? b = some o ∧ X.H₀ b = none
  bsz : X.base.objs.size ≤ X.s₀.heap.objs.size
  noex : ∀ b o, X.base.get? b = some o → b ∉ X.ex
  exfs : ∀ b ∈ X.ex, b ∉ X.fs
  funs : X.s₀.heap.FunFrames X.base X.outer
  frf : ∀ b ∈ X.fs, X.H₀ b = none

structure Inv (X : Cx) (pins : List (Addr × Obj)) (σ : List (Option V)) (H : Hp) (s : Shared) : Prop where
  ok : X.Ok
  os : s.os = X.s₀.os
  bare : AllBare s.gens
  base : Un X.fs X.ex X.H₀ H X.s₀.heap s.heap
  loc : ∃ m, s.heap.Ns X.env.locals m ∧ ∀ (i : Nat) (x : Str) (v : V), X.N[i]? = some x → σ[i]? = some (some v) → Vis X.env.scope x → ∃ u, RelV v u ∧ Look X.env s.heap m x u
  cell : ∀ x c, X.env.cells.lookup x = some c → ∃ v, s.heap.IsCell c v
  free : H X.env.locals = none
  freeC : ∀ x c, X.env.cells.lookup x = some c → H c = none
  pin : ∀ p ∈ X.pn ++ pins, s.heap.get? p.1 = some p.2 ∧ H p.1 = none ∧ p.1 ≠ X.env.locals ∧ p.1 ∉ X.fs ∧ ∀ v, p.2.data ≠ .cell v
  hok : HOk X.prog X.w H s.heap
  len : σ.length = X.N.length

section
variable {X : Cx} {pins : List (Addr × Obj)} {σ : List (Option V)} {H H' : Hp} {s : Shared} {h' : Heap}

theorem Cx.Ok.nofr (ok : X.Ok) {b : Addr} {o : Obj} (e : X.base.get? b = some o) : b ∉ X.fs := fun hb => by
  have := (ok.funs.mem hb).1
  rw [e] at this; cases this
theorem Inv.bs (I : Inv X pins σ H s) : ∀ b o, X.base.get? b = some o → s.heap.get? b = some o ∧ H b = none := fun b o e =>
  ⟨I.base.keep b o (I.ok.bs b o e).1 (I.ok.bs b o e).2 (I.ok.nofr e) (I.ok.noex b o e), I.base.free b o (I.ok.bs b o e).1 (I.ok.bs b o e).2 (I.ok.noex b o e)⟩
theorem Inv.bk (I : Inv X pins σ H s) : ∀ b o, X.base.get? b = some o → s.heap.get? b = some o := fun b o e => (I.bs b o e).1
theorem Inv.mod (I : Inv X pins σ H s) : Mod X.K X.mg X.base := I.ok.mod
theorem Inv.kIn (I : Inv X pins σ H s) : X.K.In s.heap := I.ok.mod.kin.keeps I.bk
theorem Inv.nolimit (I : Inv X pins σ H s) : s.heap.NoLimit := I.ok.mod.nolimit.keeps I.bk
/-- the frame over the base: for OpenK's rules (K.In X.base is I.mod.kin) -/
theorem Inv.fr (I : Inv X pins σ H s) : ∃ m, Fr X.base X.env.locals s.heap m :=
  let ⟨m, hn, _⟩ := I.loc
  ⟨m, hn, I.bk, Nat.le_trans I.ok.bsz I.ok.above⟩
theorem Inv.lt (I : Inv X pins σ H s) : X.env.locals < s.heap.objs.size := let ⟨_, hn, _⟩ := I.loc; hn.lt
theorem Inv.sz (I : Inv X pins σ H s) : X.s₀.heap.objs.size ≤ s.heap.objs.size := Nat.le_trans I.ok.above (Nat.le_of_lt I.lt)
theorem Inv.nofs (I : Inv X pins σ H s) {a : Addr} (h : s.heap.objs.size ≤ a) : a ∉ X.fs := fun hb => by
  obtain ⟨_, o, ho, _⟩ := I.ok.funs.mem hb
  exact absurd (Nat.lt_of_lt_of_le (Heap.lt_size ho) (Nat.le_trans I.sz h)) (Nat.lt_irrefl _)
theorem Inv.cne (I : Inv X pins σ H s) : ∀ x c, X.env.cells.lookup x = some c → c ≠ X.env.locals := fun x c e z => by
  obtain ⟨v, o, ho, hd⟩ := I.cell x c e
  obtain ⟨m, ⟨o', es, ep, ho', hd', _⟩, _⟩ := I.loc
  rw [z, ho'] at ho; cases ho; rw [hd'] at hd; cases hd
theorem Inv.funs (I : Inv X pins σ H s) : s.heap.FunFrames X.base X.outer := by
  have all : ∀ (l : List Env), (∀ b ∈ frs l, b ∈ X.fs) → X.s₀.heap.FunFrames X.base l → s.heap.FunFrames X.base l := by
    intro l
    induction l with
    | nil => intro _ _; trivial
    | cons env r ih =>
      intro hs hl
      obtain ⟨hk, ⟨L, o, hf, hn, ho, hd⟩, hr⟩ := hl
      have hL : L ∈ X.fs := hs L (by unfold frs; rw [List.filterMap_cons, hf]; exact List.mem_cons_self)
      obtain ⟨sl, e⟩ := I.base.slot L o ho (I.ok.frf L hL) hL fun z => I.ok.exfs L z hL
      exact ⟨hk, ⟨L, _, hf, hn, e, hd⟩, ih (fun b hb => hs b (by unfold frs; rw [List.filterMap_cons, hf]; exact List.mem_cons_of_mem _ hb)) hr⟩
  exact all X.outer (fun _ hb => hb) I.ok.funs

/-- the frames that run, for a call -/
theorem Inv.stack (I : Inv X pins σ H s) : s.heap.FunFrames X.base X.stack := by
  rcases I.ok.stk with e | ⟨e, hf⟩
  · rw [e]; exact I.funs
  · rw [e]
    obtain ⟨m, hn, _⟩ := I.loc
    refine .cons (by rw [I.ok.kind]; decide) hf hn ?_ I.funs
    exact Heap.get?_none_of_le (Nat.le_trans I.ok.bsz I.ok.above)
theorem Inv.stkSub (I : Inv X pins σ H s) : ∀ b ∈ frs X.stack, b ∈ X.env.locals :: X.fs := fun b hb => by
  rcases I.ok.stk with e | ⟨e, hf⟩
  · rw [e] at hb; exact List.mem_cons_of_mem _ hb
  · rw [e] at hb
    unfold frs at hb
    rw [List.filterMap_cons, hf] at hb
    exact hb
theorem Inv.stkFree (I : Inv X pins σ H s) : ∀ b ∈ frs X.stack, H b = none := fun b hb => by
  rcases List.mem_cons.mp (I.stkSub b hb) with e | hb
  · rw [e]; exact I.free
  · obtain ⟨_, o, ho, _⟩ := I.ok.funs.mem hb
    exact I.base.free b o ho (I.ok.frf b hb) fun z => I.ok.exfs b z hb

/-- THE STEP: the untracked objects but the frame and the records at ch are kept (the callers' frames up to slots), the frame's map is kept, the new abstract heap is held -/
theorem Inv.step {g' : Array GenState} {t' : Nat} {d' : Drawn} {ch : List Addr} (I : Inv X pins σ H s)
    (hch : ∀ b ∈ ch, (b ∈ X.ex ∨ X.s₀.heap.objs.size ≤ b) ∧ b ≠ X.env.locals ∧ (∀ x c, X.env.cells.lookup x = some c → c ≠ b) ∧ ∀ p ∈ X.pn ++ pins, p.1 ≠ b)
    (keep : ∀ b o, b ≠ X.env.locals → b ∉ X.fs → b ∉ ch → s.heap.get? b = some o → H b = none → h'.get? b = some o)
    (slot : ∀ b o, b ≠ X.env.locals → b ∈ X.fs → b ∉ ch → s.heap.get? b = some o → H b = none → ∃ sl, h'.get? b = some { o with slots := sl }) (free : ∀ b o, b ∉ ch → s.heap.get? b = some o → H b = none → H' b = none)
    (there : ∀ b o, b ∉ ch → s.heap.get? b = some o → ∃ o', h'.get? b = some o')
    (tups : ∀ b xs, H b = some (.tup xs) → H' b = some (.tup xs)) (frzs : ∀ b o u, H b = some (.frz o u) → H' b = some (.frz o u)) (tbls : ∀ b ps, H b = some (.tbl ps) → ∃ more, H' b = some (.tbl (ps ++ more)))
    (ns : ∀ m, s.heap.Ns X.env.locals m → h'.Ns X.env.locals m) (hok : HOk X.prog X.w H' h') (hg : AllBare g') :
    Inv X pins σ H' { s with heap := h', gens := g', drawn := d', toks := t' } := by
  have neL : ∀ b o, X.s₀.heap.get? b = some o → b ≠ X.env.locals := fun b o e => Nat.ne_of_lt (Nat.lt_of_lt_of_le (Heap.lt_size e) I.ok.above)
  have neC : ∀ b o, X.s₀.heap.get? b = some o → b ∉ X.ex → b ∉ ch := fun b o e hx hb => by
    rcases (hch b hb).1 with z | z
    · exact hx z
    · exact absurd (Nat.lt_of_lt_of_le (Heap.lt_size e) z) (Nat.lt_irrefl _)
  have cellK : ∀ x c, X.env.cells.lookup x = some c → ∀ v, s.heap.IsCell c v → h'.IsCell c v := fun x c e v ⟨o, ho, hd⟩ => by
    have nch : c ∉ ch := fun z => (hch c z).2.2.1 x c e rfl
    by_cases hc : c ∈ X.fs
    · obtain ⟨sl, q⟩ := slot c o (I.cne x c e) hc nch ho (I.freeC x c e)
      exact ⟨_, q, hd⟩
    · exact ⟨o, keep c o (I.cne x c e) hc nch ho (I.freeC x c e), hd⟩
  refine ⟨I.ok, I.os, hg, ⟨fun b o e n hb hx => ?_, fun b o e n hb hx => ?_, fun b o e n hx => ?_, fun b o e hx => ?_, fun b xs e => tups b xs (I.base.tups b xs e), fun b o xs e => frzs b o xs (I.base.frzs b o xs e), fun b ps e => ?_⟩, ?_, fun x c e => ?_, ?_, fun x c e => ?_, fun p hp => ?_, hok, I.len⟩
  · exact keep b o (neL b o e) hb (neC b o e hx) (I.base.keep b o e n hb hx) (I.base.free b o e n hx)
  · obtain ⟨sl, e1⟩ := I.base.slot b o e n hb hx
    obtain ⟨sl', e2⟩ := slot b _ (neL b o e) hb (neC b o e hx) e1 (I.base.free b o e n hx)
    exact ⟨sl', e2⟩
  · obtain ⟨o', e1⟩ := I.base.there b o e hx
    exact free b o' (neC b o e hx) e1 (I.base.free b o e n hx)
  · obtain ⟨o', e1⟩ := I.base.there b o e hx
    exact there b o' (neC b o e hx) e1
  · obtain ⟨m1, e1⟩ := I.base.tbls b ps e
    obtain ⟨m2, e2⟩ := tbls b _ e1
    exact ⟨m1 ++ m2, by rw [e2, Array.append_assoc]⟩
  · obtain ⟨m, hn, hl⟩ := I.loc
    refine ⟨m, ns m hn, fun i x v e1 e2 e3 => ?_⟩
    obtain ⟨u, r, l⟩ := hl i x v e1 e2 e3
    refine ⟨u, r, ?_⟩
    rcases l with l | ⟨k, c, e, z⟩
    · exact .inl l
    · exact .inr ⟨k, c, e, cellK x c e _ z⟩
  · obtain ⟨v, z⟩ := I.cell x c e
    exact ⟨v, cellK x c e v z⟩
  · obtain ⟨m, ⟨o, _, _, ho, _⟩, _⟩ := I.loc
    exact free _ o (fun z => (hch _ z).2.1 rfl) ho I.free
  · obtain ⟨v, o, ho, hd⟩ := I.cell x c e
    exact free c o (fun z => (hch c z).2.2.1 x c e rfl) ho (I.freeC x c e)
  · obtain ⟨e, n, ne, nf, d⟩ := I.pin p hp
    have nch : p.1 ∉ ch := fun z => (hch p.1 z).2.2.2 p hp rfl
    exact ⟨keep p.1 p.2 ne nf nch e n, free p.1 p.2 nch e n, ne, nf, d⟩
/-- .. where the frame's own object is kept too -/
theorem Inv.un {t' : Nat} (I : Inv X pins σ H s) (u : Un X.fs [] H H' s.heap h') (hok : HOk X.prog X.w H' h') : Inv X pins σ H' { s with heap := h', toks := t' } := by
  obtain ⟨m, ⟨o, es, ep, ho, r⟩, _⟩ := id I.loc
  obtain ⟨sl, hL⟩ := u.any ho I.free (by simp)
  exact I.step (g' := s.gens) (d' := s.drawn) (ch := []) (fun _ z => nomatch z) (fun b o _ hb _ e n => u.keep b o e n hb (by simp)) (fun b o _ hb _ e n => u.slot b o e n hb (by simp)) (fun b o _ e n => u.free b o e n (by simp)) (fun b o _ e => u.there b o e (by simp)) u.tups u.frzs u.tbls (fun m' hm => by
    obtain ⟨o', es', ep', ho', r'⟩ := hm
    rw [ho] at ho'; cases ho'
    exact ⟨_, es', ep', hL, r'⟩) hok I.bare
/-- behind a call (or a comprehension's block): the slots of this frame may have changed too, the records at ch may have turned -/
theorem Inv.call {g' : Array GenState} {t' : Nat} {d' : Drawn} {ch : List Addr} (I : Inv X pins σ H s) (u : Un (frs X.stack) ch H H' s.heap h') (hok : HOk X.prog X.w H' h') (hg : AllBare g')
    (hch : ∀ b ∈ ch, (b ∈ X.ex ∨ X.s₀.heap.objs.size ≤ b) ∧ b ≠ X.env.locals ∧ (∀ x c, X.env.cells.lookup x = some c → c ≠ b) ∧ ∀ p ∈ X.pn ++ pins, p.1 ≠ b) :
    Inv X pins σ H' { s with heap := h', gens := g', drawn := d', toks := t' } := by
  obtain ⟨m, ⟨o, es, ep, ho, r⟩, _⟩ := id I.loc
  obtain ⟨sl, hL⟩ := u.any ho I.free fun z => (hch _ z).2.1 rfl
  exact I.step (ch := ch) hch (fun b o hL hb hc e n => u.keep b o e n (fun z => (List.mem_cons.mp (I.stkSub b z)).elim hL hb) hc) (fun b o _ _ hc e n => u.any e n hc) (fun b o hc e n => u.free b o e n hc) (fun b o hc e => u.there b o e hc) u.tups u.frzs u.tbls (fun m' hm => by
    obtain ⟨o', es', ep', ho', r'⟩ := hm
    rw [ho] at ho'; cases ho'
    exact ⟨_, es', ep', hL, r'⟩) hok hg
/-- an untracked record of ours (an iterator) has turned -/
theorem Inv.turned {t' : Nat} {it : Addr} (I : Inv X pins σ H s) (k : ∀ b o, b ≠ it → s.heap.get? b = some o → h'.get? b = some o) (hn : H it = none) (hL : it ≠ X.env.locals)
    (h1 : it ∈ X.ex ∨ X.s₀.heap.objs.size ≤ it) (h2 : ∀ x c, X.env.cells.lookup x = some c → c ≠ it) (h3 : ∀ p ∈ X.pn ++ pins, p.1 ≠ it) : Inv X pins σ H { s with heap := h', toks := t' } := by
  have nit : ∀ b u, H b = some u → b ≠ it := fun b u e z => by rw [z, hn] at e; cases e
  refine I.step (g' := s.gens) (d' := s.drawn) (ch := [it]) (fun b hb => ?_) (fun b o _ _ hc e _ => k b o (fun z => hc (by simp [z])) e) (fun b o _ _ hc e _ => ⟨o.slots, k b o (fun z => hc (by simp [z])) e⟩) (fun _ _ _ _ n => n)
    (fun b o hc e => ⟨o, k b o (fun z => hc (by simp [z])) e⟩) (fun _ _ e => e) (fun _ _ _ e => e) (fun b ps e => ⟨#[], by rw [e]; simp⟩) (fun m hm => ?_) (fun b u e => ?_) I.bare
  · have e : b = it := by simpa using hb
    subst e
    exact ⟨h1, hL, h2, h3⟩
  · obtain ⟨o, es, ep, ho, r⟩ := hm
    exact ⟨o, es, ep, k _ o (Ne.symm hL) ho, r⟩
  · refine (I.hok b u e).stay (fun c v hc q => k c v ?_ q) (fun _ q => q) fun _ _ q => q
    rcases hc with z | z
    · rw [z]; exact nit b u e
    · exact nit c _ z
theorem Inv.tok (I : Inv X pins σ H s) (t : Nat) : Inv X pins σ H { s with toks := t } := I.un (h' := s.heap) (t' := t) Un.refl I.hok
/-- all objects kept -/
theorem Inv.kept {t' : Nat} (I : Inv X pins σ H s) (k : ∀ b u, s.heap.get? b = some u → h'.get? b = some u) : Inv X pins σ H { s with heap := h', toks := t' } := I.un (Un.kept k) (I.hok.kept k)
/-- a new object laid and tracked -/
theorem Inv.laid {a : Addr} {o : HO} {t' : Nat} (I : Inv X pins σ H s) (k : ∀ b u, s.heap.get? b = some u → h'.get? b = some u) (hp : s.heap.objs.size ≤ a) (new : ObjOk X.prog X.w (upd H a o) h' a o) :
    Inv X pins σ (upd H a o) { s with heap := h', toks := t' } := I.un (Un.laid k hp (I.hok.fresh hp)) (I.hok.laid k hp new)
/-- an object written -/
theorem Inv.write {x e : Addr} {o : HO} {t' : Nat} (I : Inv X pins σ H s) (mu : Mut (H x)) (he : e = x ∨ H e = some (.own x)) (k : ∀ b u, b ≠ e → s.heap.get? b = some u → h'.get? b = some u) (heo : ∃ u, h'.get? e = some u)
    (new : ObjOk X.prog X.w (upd H x o) h' x o) : Inv X pins σ (upd H x o) { s with heap := h', toks := t' } := I.un (Un.write mu he k heo) (I.hok.write mu he k heo new)
/-- forgetting slots, pins -/
theorem Inv.weak {σ' : List (Option V)} (I : Inv X pins σ H s) (hl : σ'.length = σ.length) (w : ∀ (i : Nat) v, σ'[i]? = some (some v) → σ[i]? = some (some v)) : Inv X pins σ' H s :=
  ⟨I.ok, I.os, I.bare, I.base, let ⟨m, hn, hl'⟩ := I.loc; ⟨m, hn, fun i x v e1 e2 e3 => hl' i x v e1 (w i v e2) e3⟩, I.cell, I.free, I.freeC, I.pin, I.hok, hl.trans I.len⟩
theorem Inv.pins_of {pins' : List (Addr × Obj)} (I : Inv X pins σ H s) (h : ∀ p ∈ pins', s.heap.get? p.1 = some p.2 ∧ H p.1 = none ∧ p.1 ≠ X.env.locals ∧ p.1 ∉ X.fs ∧ ∀ v, p.2.data ≠ .cell v) : Inv X pins' σ H s :=
  ⟨I.ok, I.os, I.bare, I.base, I.loc, I.cell, I.free, I.freeC, fun p hp => (List.mem_append.mp hp).elim (fun z => I.pin p (List.mem_append_left _ z)) (h p), I.hok, I.len⟩

theorem nodup_ix {N : List Str} (hN : N.Nodup) {i j : Nat} {x : Str} (a : N[i]? = some x) (b : N[j]? = some x) : i = j := by
  obtain ⟨h1, e1⟩ := List.getElem?_eq_some_iff.mp a
  obtain ⟨h2, e2⟩ := List.getElem?_eq_some_iff.mp b
  exact (List.getElem_inj hN).mp (e1.trans e2.symm)

/-- a name is stored; what changed -/
theorem store_ok2 {M : Model} {A : Around} {E : Value → Shared → Prop} {i : Nat} {x : Str} {v : V} {u : Value} {Q : Unit → Shared → Prop} (I : Inv X pins σ H s) (hN : X.N.Nodup) (hi : X.N[i]? = some x) (hx : Loc X.env.scope x) (r : RelV v u)
    (h : ∀ s', Inv X pins (σ.set i (some v)) H s' → (∃ a, Heap.SameBut a s.heap s'.heap ∧ (a = X.env.locals ∨ X.env.cells.lookup x = some a)) → Q () s') (hf : X.fn x = true ∨ X.env.scope.names.lookup x = some .local := by first | exact .inl rfl | exact .inr rfl | assumption) : wpAny M A (storeName X.env x u) Q E s := by
  obtain ⟨m, hn, hl⟩ := id I.loc
  have hcls : (X.env.scope.kind == .class || (X.env.scope.kind == .module && X.env.locals != X.env.globals)) = false := by rw [I.ok.kind]; rfl
  have hiσ : i < σ.length := by rw [I.len]; exact (List.getElem?_eq_some_iff.mp hi).1
  have cne := I.cne
  have tracked : ∀ {a : Addr} {h' : Heap}, (∃ o, s.heap.get? a = some o ∧ H a = none) → Heap.SameBut a s.heap h' → HOk X.prog X.w H h' := fun {a h'} ha hs b ob e => by
    obtain ⟨_, _, hfree⟩ := ha
    refine (I.hok b ob e).stay (fun c w' hc q => (hs.2 c ?_).trans q) (fun _ q => q) fun _ _ q => q
    rintro rfl
    rcases hc with rfl | hc
    · rw [hfree] at e; cases e
    · rw [hfree] at hc; cases hc
  rcases hx with hk | hk
  · refine wpAny_storeName_local hk hn (fun h' hn' hs => ?_) hcls
    obtain ⟨oL, _, _, hoL, _⟩ := id hn
    refine h _ ⟨I.ok, I.os, I.bare, ⟨fun b o e n hb hx => ?_, fun b o e n hb hx => ?_, I.base.free, fun b o e hx => ?_, I.base.tups, I.base.frzs, I.base.tbls⟩, ⟨_, hn', fun j y v' e1 e2 e3 => ?_⟩, fun y c e => ?_, I.free, I.freeC, fun p hp => ?_, tracked ⟨oL, hoL, I.free⟩ hs, by simpa using I.len⟩ ⟨_, hs, .inl rfl⟩
    · exact (hs.2 b (Nat.ne_of_lt (Nat.lt_of_lt_of_le (Heap.lt_size e) I.ok.above))).trans (I.base.keep b o e n hb hx)
    · obtain ⟨sl, e1⟩ := I.base.slot b o e n hb hx
      exact ⟨sl, (hs.2 b (Nat.ne_of_lt (Nat.lt_of_lt_of_le (Heap.lt_size e) I.ok.above))).trans e1⟩
    · obtain ⟨o', e1⟩ := I.base.there b o e hx
      exact ⟨o', (hs.2 b (Nat.ne_of_lt (Nat.lt_of_lt_of_le (Heap.lt_size e) I.ok.above))).trans e1⟩
    · by_cases hj : j = i
      · subst hj
        rw [hi] at e1; cases e1
        rw [List.getElem?_set_self hiσ] at e2
        cases e2
        exact ⟨u, r, .inl ⟨hk, by simp⟩⟩
      · rw [List.getElem?_set_ne (Ne.symm hj)] at e2
        obtain ⟨u', r', q⟩ := hl j y v' e1 e2 e3
        refine ⟨u', r', ?_⟩
        rcases q with ⟨k, e⟩ | ⟨k, c, e, z⟩
        · refine .inl ⟨k, ?_⟩
          have : y ≠ x := fun e => hj (nodup_ix hN e1 (e ▸ hi))
          simp [this, e]
        · exact .inr ⟨k, c, e, z.sameBut hs (cne y c e)⟩
    · obtain ⟨w', z⟩ := I.cell y c e
      exact ⟨w', z.sameBut hs (cne y c e)⟩
    · obtain ⟨e, n, ne, nf, d⟩ := I.pin p hp
      exact ⟨(hs.2 p.1 ne).trans e, n, ne, nf, d⟩
  · have hfn : X.fn x = true := by
      rcases hf with z | z
      · exact z
      · rw [z] at hk; cases hk
    obtain ⟨c, hc⟩ := I.ok.has x (.inl hk)
    obtain ⟨w', z⟩ := I.cell x c hc
    refine wpAny_storeName_cell I.ok.kind hk hc z (fun h' hc' hs => ?_)
    obtain ⟨oc, hoc, hocd⟩ := id z
    refine h { s with heap := h' } ⟨I.ok, I.os, I.bare, ⟨fun b o e n hb hx => ?_, fun b o e n hb hx => ?_, I.base.free, fun b o e hx => ?_, I.base.tups, I.base.frzs, I.base.tbls⟩, ⟨m, hn.sameBut hs (Ne.symm (cne x c hc)), fun j y v' e1 e2 e3 => ?_⟩, fun y c' e => ?_, I.free, I.freeC, fun p hp => ?_, tracked ⟨oc, hoc, I.freeC x c hc⟩ hs, by simpa using I.len⟩ ⟨c, hs, .inr hc⟩
    · exact (hs.2 b (Nat.ne_of_lt (Nat.lt_of_lt_of_le (Heap.lt_size e) (I.ok.cab x c hfn hc)))).trans (I.base.keep b o e n hb hx)
    · obtain ⟨sl, e1⟩ := I.base.slot b o e n hb hx
      exact ⟨sl, (hs.2 b (Nat.ne_of_lt (Nat.lt_of_lt_of_le (Heap.lt_size e) (I.ok.cab x c hfn hc)))).trans e1⟩
    · obtain ⟨o', e1⟩ := I.base.there b o e hx
      exact ⟨o', (hs.2 b (Nat.ne_of_lt (Nat.lt_of_lt_of_le (Heap.lt_size e) (I.ok.cab x c hfn hc)))).trans e1⟩
    · by_cases hj : j = i
      · subst hj
        rw [hi] at e1; cases e1
        rw [List.getElem?_set_self hiσ] at e2
        cases e2
        exact ⟨u, r, .inr ⟨.inl hk, c, hc, hc'⟩⟩
      · rw [List.getElem?_set_ne (Ne.symm hj)] at e2
        obtain ⟨u', r', q⟩ := hl j y v' e1 e2 e3
        refine ⟨u', r', ?_⟩
        rcases q with q | ⟨k, c', e, z'⟩
        · exact .inl q
        · refine .inr ⟨k, c', e, z'.sameBut hs ?_⟩
          rintro rfl
          exact hj (nodup_ix hN e1 (I.ok.inj _ _ _ e hc ▸ hi))
    · by_cases hcc : c' = c
      · subst hcc; exact ⟨_, hc'⟩
      · obtain ⟨w2, z2⟩ := I.cell y c' e
        exact ⟨w2, z2.sameBut hs hcc⟩
    · obtain ⟨e, n, ne, nf, d⟩ := I.pin p hp
      refine ⟨(hs.2 p.1 ?_).trans e, n, ne, nf, d⟩
      intro q
      rw [q, hoc] at e
      have q' : oc = p.2 := Option.some.inj e
      exact d w' (by rw [← q']; exact hocd)
theorem store_ok {M : Model} {A : Around} {E : Value → Shared → Prop} {i : Nat} {x : Str} {v : V} {u : Value} {Q : Unit → Shared → Prop} (I : Inv X pins σ H s) (hN : X.N.Nodup) (hi : X.N[i]? = some x) (hx : Loc X.env.scope x) (r : RelV v u)
    (h : ∀ s', Inv X pins (σ.set i (some v)) H s' → Q () s') (hf : X.fn x = true ∨ X.env.scope.names.lookup x = some .local := by first | exact .inl rfl | exact .inr rfl | assumption) : wpAny M A (storeName X.env x u) Q E s :=
  store_ok2 I hN hi hx r (fun s' I' _ => h s' I') hf
/-- behind a call or a block, the state as it is -/
theorem Inv.call' {s' : Shared} {ch : List Addr} (I : Inv X pins σ H s) (ho : s'.os = s.os) (u : Un (frs X.stack) ch H H' s.heap s'.heap) (hok : HOk X.prog X.w H' s'.heap) (hg : AllBare s'.gens)
    (hch : ∀ b ∈ ch, (b ∈ X.ex ∨ X.s₀.heap.objs.size ≤ b) ∧ b ≠ X.env.locals ∧ (∀ x c, X.env.cells.lookup x = some c → c ≠ b) ∧ ∀ p ∈ X.pn ++ pins, p.1 ≠ b) : Inv X pins σ H' s' := by
  obtain ⟨h', g', d', t', o'⟩ := s'
  have e : o' = s.os := ho
  subst e
  exact I.call (g' := g') (t' := t') (d' := d') u hok hg hch
end

/-! ### the judgements -/
/-- an exception: its class, its own dict's address (where it has one), the abstract heap behind it -/
abbrev XK := Value → Option Addr → Hp → Prop
abbrev St := List (Option V)
abbrev VK := V → Hp → Prop
/-- an expression's reading; a test's; an argument list's -/
abbrev TE := St → Hp → VK → Prop
abbrev TT := St → Hp → (Bool → Hp → Prop) → Prop
abbrev TA := St → Hp → (List V → Hp → Prop) → Prop
/-- what is wanted behind a statement -/
structure Ends where
  nx : St → Hp → Prop
  rt : VK
  bk : St → Hp → Prop := fun _ _ => False
  ct : St → Hp → Prop := fun _ _ => False
abbrev TS := Ends → St → Hp → Prop

def EP (X : Cx) (pins : List (Addr × Obj)) (σ : St) (Q : VK) (u : Value) (s' : Shared) : Prop := ∃ v H', Inv X pins σ H' s' ∧ RelV v u ∧ Q v H'
def TP (X : Cx) (pins : List (Addr × Obj)) (σ : St) (Q : Bool → Hp → Prop) (b : Bool) (s' : Shared) : Prop := ∃ H', Inv X pins σ H' s' ∧ Q b H'
def AP (X : Cx) (pins : List (Addr × Obj)) (σ : St) (Q : List V → Hp → Prop) (us : List Value) (s' : Shared) : Prop := ∃ vs H', Inv X pins σ H' s' ∧ Vals vs us ∧ Q vs H'
def SP (X : Cx) (pins : List (Addr × Obj)) (D : Ends) (f : Flow) (s' : Shared) : Prop :=
  match f with
  | .next => ∃ σ' H', Inv X pins σ' H' s' ∧ D.nx σ' H'
  | .brk => ∃ σ' H', Inv X pins σ' H' s' ∧ D.bk σ' H'
  | .cont => ∃ σ' H', Inv X pins σ' H' s' ∧ D.ct σ' H'
  | .ret u => ∃ v σ' H', Inv X pins σ' H' s' ∧ RelV v u ∧ D.rt v H'

def PE (X : Cx) (e : Expr) (t : TE) : Prop :=
  ∀ (pins : List (Addr × Obj)) (s : Shared) (σ : St) (H : Hp) (Q : VK), Inv X pins σ H s → t σ H Q → wpAny (model X.prog X.w) X.A (eval e X.env) (EP X pins σ Q) X.xe s
def PT (X : Cx) (e : Expr) (t : TT) : Prop :=
  ∀ (pins : List (Addr × Obj)) (s : Shared) (σ : St) (H : Hp) (Q : Bool → Hp → Prop), Inv X pins σ H s → t σ H Q → wpAny (model X.prog X.w) X.A (isTrue e X.env (eval e X.env)) (TP X pins σ Q) X.xe s
/-- a test whatever its 'whole' is (and, or) -/
def PW (X : Cx) (e : Expr) (t : TT) : Prop :=
  ∀ (whole : Sem Value) (pins : List (Addr × Obj)) (s : Shared) (σ : St) (H : Hp) (Q : Bool → Hp → Prop), Inv X pins σ H s → t σ H Q → wpAny (model X.prog X.w) X.A (isTrue e X.env whole) (TP X pins σ Q) X.xe s
theorem PW.pt {X : Cx} {e : Expr} {t : TT} (h : PW X e t) : PT X e t := h _
/-- an argument list (no star), from the left -/
def PA (X : Cx) (es : List Expr) (t : TA) : Prop :=
  ∀ (pos : Pos) (pins : List (Addr × Obj)) (s : Shared) (σ : St) (H : Hp) (Q : List V → Hp → Prop), Inv X pins σ H s → t σ H Q → wpAny (model X.prog X.w) X.A (spliced (backTo pos (starEach es X.env))) (AP X pins σ Q) X.xe s
def PS (X : Cx) (st : Stmt) (t : TS) : Prop :=
  ∀ (pins : List (Addr × Obj)) (s : Shared) (σ : St) (H : Hp) (D : Ends), Inv X pins σ H s → t D σ H → wpAny (model X.prog X.w) X.A (exec st X.env) (SP X pins D) X.xe s
def PSs (X : Cx) (st : List Stmt) (t : TS) : Prop :=
  ∀ (pins : List (Addr × Obj)) (s : Shared) (σ : St) (H : Hp) (D : Ends), Inv X pins σ H s → t D σ H → wpAny (model X.prog X.w) X.A (execs st X.env) (SP X pins D) X.xe s
/-- weaken the end -/
theorem thn {α : Type} {t : Sem α} {Q Q' : α → Shared → Prop} {M : Model} {A : Around} {E : Value → Shared → Prop} {s : Shared} (h : wpAny M A t Q E s) (hQ : ∀ a s, Q a s → Q' a s) : wpAny M A t Q' E s := wpAny_mono h hQ fun _ _ x => x
end L2

namespace L2
open PySem PySem.Spec PyProof.Rows
section
variable {X : Cx}

/-- two expressions in a row -/
theorem bin {a b : Expr} {ta tb : TE} (ha : PE X a ta) (hb : PE X b tb) {pins : List (Addr × Obj)} {s : Shared} {σ : St} {H : Hp} {R : V → V → Hp → Prop} (I : Inv X pins σ H s) (h : ta σ H fun x H1 => tb σ H1 fun y H2 => R x y H2)
    {α : Type} {Q : α → Shared → Prop} {f : Value → Value → Sem α}
    (hf : ∀ v u s2 x y H2, Inv X pins σ H2 s2 → RelV x v → RelV y u → R x y H2 → wpAny (model X.prog X.w) X.A (f v u) Q X.xe s2) :
    wpAny (model X.prog X.w) X.A (eval a X.env) (fun v s₁ => wpAny (model X.prog X.w) X.A (eval b X.env) (fun u s₂ => wpAny (model X.prog X.w) X.A (f v u) Q X.xe s₂) X.xe s₁) X.xe s := by
  refine thn (ha pins s σ H _ I h) fun v s1 ⟨x, H1, I1, r1, q1⟩ => ?_
  refine thn (hb pins s1 σ H1 _ I1 q1) fun u s2 ⟨y, H2, I2, r2, q2⟩ => ?_
  exact hf v u s2 x y H2 I2 r1 r2 q2

/-! ### names and constants -/
def tVar (i : Nat) : TE := fun σ H Q => ∃ v, σ[i]? = some (some v) ∧ Q v H
def tC (v : V) : TE := fun _ H Q => Q v H
theorem pe_var {i : Nat} {x : Str} {pos : Pos} (hN : X.N[i]? = some x) (hv : Vis X.env.scope x) (hd : (x == ("__debug__" : Str)) = false := by decide) (hcd : (x == ("__classdict__" : Str)) = false := by decide) : PE X (.Name x pos) (tVar i) := by
  intro pins s σ H Q I h
  obtain ⟨v, e, h⟩ := h
  obtain ⟨m, hn, hl⟩ := I.loc
  obtain ⟨u, r, l⟩ := hl i x v hN e hv
  have fin : EP X pins σ Q u s := ⟨v, H, I, r, h⟩
  rcases l with ⟨hk, hm⟩ | ⟨hk, c, hc, hcell⟩
  · exact wpAny_Name (wpAny_loadName_local I.ok.kind hk hn hm fin) hd
  · rcases hk with hk | hk
    · exact wpAny_Name (wpAny_loadName_cell I.ok.kind hk hc hcell fin) hd
    · exact wpAny_Name (wpAny_loadName_free I.ok.kind hk hc hcell fin hcd) hd
theorem pe_int {i j pos} : PE X (.Constant (.int i) j pos) (tC (.int i)) := fun _ _ _ H _ I h => wpAny_Constant_int ⟨.int i, H, I.tok _, ⟨_, rfl⟩, h⟩
theorem pe_bl {b j pos} : PE X (.Constant (.bool b) j pos) (tC (.bl b)) := fun _ _ _ H _ I h => Constant_bool ⟨.bl b, H, I, rfl, h⟩
theorem pe_non {j pos} : PE X (.Constant .none j pos) (tC .non) := fun _ _ _ H _ I h => Constant_none ⟨.non, H, I, rfl, h⟩
theorem pe_str {x j pos} : PE X (.Constant (.str x) j pos) (tC (.str x)) := fun _ _ _ H _ I h => Calls.Constant_str ⟨.str x, H, I.tok _, ⟨_, rfl⟩, h⟩

/-- a global name of the def -/
def Gl (X : Cx) (x : Str) : Prop := X.env.kindOf x = some .globalImplicit
theorem ld_glob {E : Value → Shared → Prop} {pins : List (Addr × Obj)} {s : Shared} {σ : St} {H : Hp} {x : Str} {u : Value} {pos : Pos} {Q : Value → Shared → Prop} (I : Inv X pins σ H s) (hg : Gl X x) (hm : X.mg x = some u) (h : Q u s)
    (hd : (x == ("__debug__" : Str)) = false := by decide) : wpAny (model X.prog X.w) X.A (eval (.Name x pos) X.env) Q E s :=
  Calls.Name_function_global I.ok.kind hg (Calls.loadGlobal_global (by rw [I.ok.glob]; exact I.mod.glob.keeps I.bk) hm h) hd
theorem ld_blt {E : Value → Shared → Prop} {pins : List (Addr × Obj)} {s : Shared} {σ : St} {H : Hp} {x : Str} {u : Value} {pos : Pos} {Q : Value → Shared → Prop} (I : Inv X pins σ H s) (hg : Gl X x) (hm : X.mg x = none) (hv : bootBuiltins x = some u) (h : Q u s)
    (hn : x ≠ "__name__" := by decide) (hd : (x == ("__debug__" : Str)) = false := by decide) : wpAny (model X.prog X.w) X.A (eval (.Name x pos) X.env) Q E s := by
  obtain ⟨mb, h1, h2⟩ := I.mod.blt
  exact Calls.Name_function_global I.ok.kind hg (Calls.loadGlobal_builtin (by rw [I.ok.glob]; exact I.mod.glob.keeps I.bk) hm (by rw [I.ok.blt]; exact h1.keeps I.bk) ((h2 x hn).trans hv) h) hd
/-- a module's constant, a class, a function, as a value -/
theorem pe_glob {x : Str} {v : V} {u : Value} {pos : Pos} (hg : Gl X x) (hm : X.mg x = some u) (r : RelV v u) (hd : (x == ("__debug__" : Str)) = false := by decide) : PE X (.Name x pos) (tC v) :=
  fun _ _ _ H _ I h => ld_glob I hg hm ⟨v, H, I, r, h⟩ hd
theorem pe_bltn {x : Str} {v : V} {u : Value} {pos : Pos} (hg : Gl X x) (hm : X.mg x = none) (hv : bootBuiltins x = some u) (r : RelV v u) (hn : x ≠ "__name__" := by decide) (hd : (x == ("__debug__" : Str)) = false := by decide) : PE X (.Name x pos) (tC v) :=
  fun _ _ _ H _ I h => ld_blt I hg hm hv ⟨v, H, I, r, h⟩ hn hd

/-! ### arithmetic -/
/-- two ints -/
def t2I (ta tb : TE) (k : Int → Int → Hp → Prop) : St → Hp → Prop := fun σ H => ta σ H fun x H1 => tb σ H1 fun y H2 => ∃ i j, x = .int i ∧ y = .int j ∧ k i j H2
def tAdd (ta tb : TE) : TE := fun σ H Q => t2I ta tb (fun i j H2 => Q (.int (i + j)) H2) σ H
def tSub (ta tb : TE) : TE := fun σ H Q => t2I ta tb (fun i j H2 => Q (.int (i - j)) H2) σ H
/-- the left factor below 2^64 -/
def tMul (ta tb : TE) : TE := fun σ H Q => t2I ta tb (fun i j H2 => (-(2 ^ 64) < i ∧ i < 2 ^ 64) ∧ Q (.int (i * j)) H2) σ H
variable {a b : Expr} {ta tb : TE} {pos : Pos}
theorem pe_add (ha : PE X a ta) (hb : PE X b tb) : PE X (.BinOp a .Add b pos) (tAdd ta tb) := by
  intro pins s σ H Q I h
  refine wpAny_BinOp (bin ha hb I h fun v u s2 x y H2 I2 rx ry q => ?_)
  obtain ⟨i, j, rfl, rfl, q⟩ := q
  obtain ⟨t, rfl⟩ := rx
  obtain ⟨t', rfl⟩ := ry
  exact add_int ⟨.int _, H2, I2.tok _, ⟨_, rfl⟩, q⟩
theorem pe_sub (ha : PE X a ta) (hb : PE X b tb) : PE X (.BinOp a .Sub b pos) (tSub ta tb) := by
  intro pins s σ H Q I h
  refine wpAny_BinOp (bin ha hb I h fun v u s2 x y H2 I2 rx ry q => ?_)
  obtain ⟨i, j, rfl, rfl, q⟩ := q
  obtain ⟨t, rfl⟩ := rx
  obtain ⟨t', rfl⟩ := ry
  exact sub_int ⟨.int _, H2, I2.tok _, ⟨_, rfl⟩, q⟩
theorem pe_mul (ha : PE X a ta) (hb : PE X b tb) : PE X (.BinOp a .Mult b pos) (tMul ta tb) := by
  intro pins s σ H Q I h
  refine wpAny_BinOp (bin ha hb I h fun v u s2 x y H2 I2 rx ry q => ?_)
  obtain ⟨i, j, rfl, rfl, ⟨q1, q2⟩, q⟩ := q
  obtain ⟨t, rfl⟩ := rx
  obtain ⟨t', rfl⟩ := ry
  exact mul_int ⟨.int _, H2, I2.tok _, ⟨_, rfl⟩, q⟩ (.of_left (intBits_le_64 q1 q2))

/-! ### comparisons -/
def PC (X : Cx) (op : CmpOp) (a b : Expr) (t : TE) : Prop :=
  ∀ (pins : List (Addr × Obj)) (s : Shared) (σ : St) (H : Hp) (Q : VK), Inv X pins σ H s → t σ H Q →
    wpAny (model X.prog X.w) X.A (eval a X.env) (fun v s₁ => wpAny (model X.prog X.w) X.A (eval b X.env) (fun u s₂ => wpAny (model X.prog X.w) X.A (compareOp op v u) (EP X pins σ Q) X.xe s₂) X.xe s₁) X.xe s
theorem nobehind (b : Expr) {op : CmpOp} (h : op ≠ .In) (h2 : op ≠ .NotIn) : behindInMarks op b = false := by
  have e1 : (op == CmpOp.In) = false := by cases op <;> first | rfl | exact absurd rfl h
  have e2 : (op == CmpOp.NotIn) = false := by cases op <;> first | rfl | exact absurd rfl h2
  cases b <;> simp [behindInMarks, e1, e2]
def tCmp (p : Int → Int → Bool) (ta tb : TE) : TE := fun σ H Q => t2I ta tb (fun i j H2 => Q (.bl (p i j)) H2) σ H
abbrev tLt : TE → TE → TE := tCmp fun i j => decide (i < j)
abbrev tLe : TE → TE → TE := tCmp fun i j => decide (i ≤ j)
abbrev tGt : TE → TE → TE := tCmp fun i j => decide (j < i)
abbrev tGe : TE → TE → TE := tCmp fun i j => decide (j ≤ i)
abbrev tEqI : TE → TE → TE := tCmp fun i j => decide (i = j)
abbrev tNeI : TE → TE → TE := tCmp fun i j => !decide (i = j)
/-- a comparison of two ints, by its rule -/
theorem pc_int {op : CmpOp} {p : Int → Int → Bool} (ha : PE X a ta) (hb : PE X b tb)
    (rule : ∀ (i j : Int) (t u : Tok) (Q : Value → Shared → Prop) (s : Shared), Q (.bool (p i j)) s → wpAny (model X.prog X.w) X.A (compareOp op (.int i t) (.int j u)) Q X.xe s) : PC X op a b (tCmp p ta tb) := by
  intro pins s σ H Q I h
  refine bin ha hb I h fun v u s2 x y H2 I2 rx ry q => ?_
  obtain ⟨i, j, rfl, rfl, q⟩ := q
  obtain ⟨t, rfl⟩ := rx
  obtain ⟨t', rfl⟩ := ry
  exact rule i j t t' _ s2 ⟨.bl _, H2, I2, rfl, q⟩
theorem pc_lt (ha : PE X a ta) (hb : PE X b tb) : PC X .Lt a b (tLt ta tb) := pc_int ha hb fun _ _ _ _ _ _ h => lt_int h
theorem pc_le (ha : PE X a ta) (hb : PE X b tb) : PC X .LtE a b (tLe ta tb) := pc_int ha hb fun _ _ _ _ _ _ h => le_int h
theorem pc_gt (ha : PE X a ta) (hb : PE X b tb) : PC X .Gt a b (tGt ta tb) := pc_int ha hb fun _ _ _ _ _ _ h => gt_int h
theorem pc_ge (ha : PE X a ta) (hb : PE X b tb) : PC X .GtE a b (tGe ta tb) := pc_int ha hb fun _ _ _ _ _ _ h => ge_int h
theorem pc_eqI (ha : PE X a ta) (hb : PE X b tb) : PC X .Eq a b (tEqI ta tb) := pc_int ha hb fun _ _ _ _ _ _ h => eq_int (by rw [Bool.beq_eq_decide_eq]; exact h)
theorem pc_neI (ha : PE X a ta) (hb : PE X b tb) : PC X .NotEq a b (tNeI ta tb) := pc_int ha hb fun _ _ _ _ _ _ h => ne_int (by rw [bne, Bool.beq_eq_decide_eq]; exact h)
/-- is None -/
def tIsN (ta : TE) : TE := fun σ H Q => ta σ H fun x H1 => Q (.bl (decide (x = .non))) H1
def tNotN (ta : TE) : TE := fun σ H Q => ta σ H fun x H1 => Q (.bl (!decide (x = .non))) H1
theorem RelV.none_iff {x : V} {v : Value} (r : RelV x v) : (v == Value.none) = decide (x = .non) := by
  cases x with
  | non => cases r; rfl
  | bl _ => cases r; rfl
  | int _ => obtain ⟨t, rfl⟩ := r; rfl
  | str _ => obtain ⟨t, rfl⟩ := r; rfl
  | byt _ => obtain ⟨t, rfl⟩ := r; rfl
  | flt _ => obtain ⟨t, rfl⟩ := r; rfl
  | ref _ => cases r; rfl
  | ty _ => cases r; rfl
theorem pc_isN {j pos'} (ha : PE X a ta) : PC X .Is a (.Constant .none j pos') (tIsN ta) := by
  intro pins s σ H Q I h
  refine thn (ha pins s σ H _ I h) fun v s1 ⟨x, H1, I1, r1, q1⟩ => ?_
  exact Constant_none (is_none_gen ⟨.bl _, H1, I1, by rw [r1.none_iff]; rfl, q1⟩)
theorem pc_notN {j pos'} (ha : PE X a ta) : PC X .IsNot a (.Constant .none j pos') (tNotN ta) := by
  intro pins s σ H Q I h
  refine thn (ha pins s σ H _ I h) fun v s1 ⟨x, H1, I1, r1, q1⟩ => ?_
  exact Constant_none (isnot_none_gen ⟨.bl _, H1, I1, by rw [r1.none_iff]; rfl, q1⟩)
/-- a comparison as a value, as a test -/
def tB (t : TE) : TT := fun σ H Q => t σ H fun x H1 => ∃ c, x = .bl c ∧ Q c H1
theorem pe_cmp {op : CmpOp} {t : TE} (h : PC X op a b t) (h1 : behindInMarks op b = false := by first | exact nobehind _ (by decide) (by decide) | rfl) : PE X (.Compare a [op] [b] pos) t := fun pins s σ H Q I hw => wpAny_Compare1 (h pins s σ H Q I hw) h1
theorem pt_cmp {op : CmpOp} {t : TE} (h : PC X op a b t) (h1 : behindInMarks op b = false := by first | exact nobehind _ (by decide) (by decide) | rfl) : PT X (.Compare a [op] [b] pos) (tB t) := by
  intro pins s σ H Q I hw
  refine wpAny_isTrue_Compare1 (thn (h pins s σ H _ I hw) fun v s1 h1 => thn h1 fun u s2 h2 => thn h2 fun c s3 ⟨x, H1, I1, r1, q1⟩ => ?_) h1
  obtain ⟨d, rfl, q⟩ := q1
  cases r1
  exact wpAny_truthy_bool ⟨H1, I1, q⟩
/-- an expression whose value is a bool, as a test -/
theorem pt_val {e : Expr} {t : TE} (h : PE X e t) (he : ∀ whole, isTrue e X.env whole = (do let v ← whole; standAt e.pos; holding [v] (truthy v)) := by intro _; rfl) : PT X e (tB t) := by
  intro pins s σ H Q I hw
  refine isTrue_plain (thn (h pins s σ H _ I hw) fun v s1 ⟨x, H1, I1, r1, q1⟩ => ?_) (he _)
  obtain ⟨d, rfl, q⟩ := q1
  cases r1
  exact wpAny_truthy_bool ⟨H1, I1, q⟩

/-! ### and, or, not -/
variable {tA tB' : TT} {rest : List Expr}
def tAnd (t u : TT) : TT := fun σ H Q => t σ H fun c H1 => if c = true then u σ H1 Q else Q false H1
def tOr (t u : TT) : TT := fun σ H Q => t σ H fun c H1 => if c = true then Q true H1 else u σ H1 Q
def tNot (t : TT) : TT := fun σ H Q => t σ H fun c H1 => Q (!c) H1
theorem pw_and1 (ha : PT X a tA) : PW X (.BoolOp .And [a] pos) tA := by
  intro wh pins s σ H Q I h
  refine isTrue_and (thn (ha pins s σ H Q I h) fun c s1 e => ?_)
  cases c with
  | true => exact isTrue_and_nil e
  | false => exact e
theorem pw_or1 (ha : PT X a tA) : PW X (.BoolOp .Or [a] pos) tA := by
  intro wh pins s σ H Q I h
  refine isTrue_or (thn (ha pins s σ H Q I h) fun c s1 e => ?_)
  cases c with
  | false => exact isTrue_or_nil e
  | true => exact e
theorem pw_and (ha : PT X a tA) (hb : PW X (.BoolOp .And (b :: rest) pos) tB') : PW X (.BoolOp .And (a :: b :: rest) pos) (tAnd tA tB') := by
  intro wh pins s σ H Q I h
  refine isTrue_and (thn (ha pins s σ H _ I h) fun c s1 ⟨H1, I1, q1⟩ => ?_)
  cases c with
  | true => exact hb wh pins s1 σ H1 Q I1 q1
  | false => exact ⟨H1, I1, q1⟩
theorem pw_or (ha : PT X a tA) (hb : PW X (.BoolOp .Or (b :: rest) pos) tB') : PW X (.BoolOp .Or (a :: b :: rest) pos) (tOr tA tB') := by
  intro wh pins s σ H Q I h
  refine isTrue_or (thn (ha pins s σ H _ I h) fun c s1 ⟨H1, I1, q1⟩ => ?_)
  cases c with
  | true => exact ⟨H1, I1, q1⟩
  | false => exact hb wh pins s1 σ H1 Q I1 q1
theorem pt_not (ha : PT X a tA) : PT X (.UnaryOp .Not a pos) (tNot tA) := by
  intro pins s σ H Q I h
  exact isTrue_not (ha pins s σ H (fun c H1 => Q (!c) H1) I h)
/-- .. as values (bools) -/
def tAndV (ta tb : TE) : TE := fun σ H Q => ta σ H fun x H1 => ∃ c, x = .bl c ∧ if c = true then tb σ H1 Q else Q (.bl false) H1
def tOrV (ta tb : TE) : TE := fun σ H Q => ta σ H fun x H1 => ∃ c, x = .bl c ∧ if c = true then Q (.bl true) H1 else tb σ H1 Q
def tNotV (ta : TE) : TE := fun σ H Q => ta σ H fun x H1 => ∃ c, x = .bl c ∧ Q (.bl (!c)) H1
theorem pe_one {op} {t : TE} (h : PE X a t) : PE X (.BoolOp op [a] pos) t := fun pins s σ H Q I hw => BoolOp_one (h pins s σ H Q I hw)
theorem pe_and (ha : PE X a ta) (hb : PE X (.BoolOp .And (b :: rest) pos) tb) : PE X (.BoolOp .And (a :: b :: rest) pos) (tAndV ta tb) := by
  intro pins s σ H Q I h
  refine BoolOp_and (thn (ha pins s σ H _ I h) fun v s1 ⟨x, H1, I1, r1, q1⟩ => ?_)
  obtain ⟨c, rfl, q1⟩ := q1
  cases r1
  refine wpAny_truthy_bool ?_
  cases c with
  | true => exact hb pins s1 σ H1 Q I1 q1
  | false => exact ⟨.bl false, H1, I1, rfl, q1⟩
theorem pe_or (ha : PE X a ta) (hb : PE X (.BoolOp .Or (b :: rest) pos) tb) : PE X (.BoolOp .Or (a :: b :: rest) pos) (tOrV ta tb) := by
  intro pins s σ H Q I h
  refine BoolOp_or (thn (ha pins s σ H _ I h) fun v s1 ⟨x, H1, I1, r1, q1⟩ => ?_)
  obtain ⟨c, rfl, q1⟩ := q1
  cases r1
  refine wpAny_truthy_bool ?_
  cases c with
  | false => exact hb pins s1 σ H1 Q I1 q1
  | true => exact ⟨.bl true, H1, I1, rfl, q1⟩
theorem pe_not (ha : PE X a ta) : PE X (.UnaryOp .Not a pos) (tNotV ta) := by
  intro pins s σ H Q I h
  refine UnaryOp_ (thn (ha pins s σ H _ I h) fun v s1 ⟨x, H1, I1, r1, q1⟩ => ?_)
  obtain ⟨c, rfl, q1⟩ := q1
  cases r1
  exact not_of (wpAny_truthy_bool ⟨.bl (!c), H1, I1, rfl, q1⟩)
/-- a if t else b -/
def tIf (t : TT) (ta tb : TE) : TE := fun σ H Q => t σ H fun c H1 => if c = true then ta σ H1 Q else tb σ H1 Q
theorem pe_ifExp {c : Expr} (hc : PT X c tA) (ha : PE X a ta) (hb : PE X b tb) : PE X (.IfExp c a b pos) (tIf tA ta tb) := by
  intro pins s σ H Q I h
  refine wpAny_IfExp (thn (hc pins s σ H _ I h) fun d s1 ⟨H1, I1, q1⟩ => ?_)
  cases d with
  | true => exact ha pins s1 σ H1 Q I1 q1
  | false => exact hb pins s1 σ H1 Q I1 q1
end
end L2

namespace L2
open PySem PySem.Spec PyProof.Rows

/-! ### a list, a tuple that is read: tracked, frozen, or an object of the module -/
def SqL (K : PySem.W.Frag) (H : Hp) (a : Addr) (xs : List V) : Prop :=
  Rd H a (.lst xs) ∨
    ∃ (o : Obj) (its : Array Value) (n : Nat), K.lookup a = some o ∧ o.cls = .type "list" ∧ o.dict = none ∧ o.data = .seq its n ∧ its.size ≤ sizeLine ∧ Vals xs its.toList
def SqT (K : PySem.W.Frag) (H : Hp) (a : Addr) (xs : List V) : Prop :=
  Rd H a (.tup xs) ∨
    ∃ (o : Obj) (its : Array Value) (n : Nat), K.lookup a = some o ∧ o.cls = .type "tuple" ∧ o.data = .seq its n ∧ its.size ≤ sizeLine ∧ Vals xs its.toList
def absV : Value → Option V
  | .none => some .non
  | .bool b => some (.bl b)
  | .int i _ => some (.int i)
  | .str x _ => some (.str x)
  | .bytes b _ => some (.byt b)
  | .float b _ => some (.flt b)
  | .ref a => some (.ref a)
  | .type n => some (.ty n)
  | _ => none
theorem RelV.abs {x : V} {u : Value} (r : RelV x u) : absV u = some x := by
  cases x with
  | non => cases r; rfl
  | bl _ => cases r; rfl
  | int _ => obtain ⟨t, rfl⟩ := r; rfl
  | str _ => obtain ⟨t, rfl⟩ := r; rfl
  | byt _ => obtain ⟨t, rfl⟩ := r; rfl
  | flt _ => obtain ⟨t, rfl⟩ := r; rfl
  | ref _ => cases r; rfl
  | ty _ => cases r; rfl
theorem RelV.inj {x y : V} {u : Value} (r : RelV x u) (q : RelV y u) : x = y := Option.some.inj (r.abs.symm.trans q.abs)
theorem Vals.inj : ∀ {xs ys : List V} {us : List Value}, Vals xs us → Vals ys us → xs = ys
  | _, _, _, .nil, .nil => rfl
  | _, _, _, .cons r t, .cons r' t' => by rw [r.inj r', Vals.inj t t']
section
variable {X : Cx} {pins : List (Addr × Obj)} {σ : St} {H : Hp} {s : Shared} {a : Addr} {xs ys : List V}
theorem SqL.of {K : PySem.W.Frag} (h : H a = some (.lst xs)) : SqL K H a xs := .inl (.inl h)
theorem SqT.of {K : PySem.W.Frag} (h : H a = some (.tup xs)) : SqT K H a xs := .inl (.inl h)
theorem Inv.list (I : Inv X pins σ H s) (h : SqL X.K H a xs) : ∃ its : List Value, Vals xs its ∧ PlainL s.heap a its.toArray ∧ xs.length ≤ sizeLine := by
  rcases h with h | ⟨o, its, n, hk, hc, hd, hs, hz, r⟩
  · obtain ⟨z, its, n, r, e⟩ := h.ok I.hok
    exact ⟨its, r, ⟨_, n, e, rfl, rfl, rfl⟩, z⟩
  · refine ⟨its.toList, r, ⟨o, n, I.kIn a o hk, hc, hd, by simpa using hs⟩, ?_⟩
    have e := r.length
    simp only [Array.length_toList] at e
    omega
theorem Inv.tuple (I : Inv X pins σ H s) (h : SqT X.K H a xs) : ∃ its : List Value, Vals xs its ∧ IsTup s.heap a its.toArray ∧ xs.length ≤ sizeLine := by
  rcases h with h | ⟨o, its, n, hk, hc, hs, hz, r⟩
  · obtain ⟨z, its, r, p⟩ := h.ok I.hok
    exact ⟨its, r, p, z⟩
  · refine ⟨its.toList, r, ⟨o, I.kIn a o hk, hc, n, by simpa using hs⟩, ?_⟩
    have e := r.length
    simp only [Array.length_toList] at e
    omega
theorem Inv.list_inj (I : Inv X pins σ H s) (h : SqL X.K H a xs) (h' : SqL X.K H a ys) : xs = ys := by
  obtain ⟨its, r, ⟨o, n, e, _, _, d⟩, _⟩ := I.list h
  obtain ⟨its', r', ⟨o', n', e', _, _, d'⟩, _⟩ := I.list h'
  rw [e] at e'; cases e'
  rw [d] at d'
  injection d' with d1 _
  have : its = its' := by simpa using congrArg Array.toList d1
  subst this
  exact r.inj r'
theorem Inv.tuple_inj (I : Inv X pins σ H s) (h : SqT X.K H a xs) (h' : SqT X.K H a ys) : xs = ys := by
  obtain ⟨its, r, ⟨o, e, _, n, d⟩, _⟩ := I.tuple h
  obtain ⟨its', r', ⟨o', e', _, n', d'⟩, _⟩ := I.tuple h'
  rw [e] at e'; cases e'
  rw [d] at d'
  injection d' with d1 _
  have : its = its' := by simpa using congrArg Array.toList d1
  subst this
  exact r.inj r'
end

/-! ### another wish about exceptions -/
abbrev Cx.wish (X : Cx) (E : Value → Shared → Prop) : Cx := { X with xe := E }
/-- no exception leaves -/
abbrev Cx.nox (X : Cx) : Cx := X.wish fun _ _ => False
theorem Cx.Ok.wish {X : Cx} (ok : X.Ok) (E : Value → Shared → Prop) : (X.wish E).Ok :=
  ⟨ok.mod, ok.kind, ok.glob, ok.blt, ok.above, ok.inj, ok.has, ok.cab, ok.hd, ok.frames, ok.stk, ok.exf, ok.bs, ok.bsz, ok.noex, ok.exfs, ok.funs, ok.frf⟩
theorem Cx.Ok.unwish {X : Cx} {E : Value → Shared → Prop} (ok : (X.wish E).Ok) : X.Ok :=
  ⟨ok.mod, ok.kind, ok.glob, ok.blt, ok.above, ok.inj, ok.has, ok.cab, ok.hd, ok.frames, ok.stk, ok.exf, ok.bs, ok.bsz, ok.noex, ok.exfs, ok.funs, ok.frf⟩
section
variable {X : Cx} {pins : List (Addr × Obj)} {σ : St} {H : Hp} {s : Shared} {E : Value → Shared → Prop}
theorem Inv.wish (I : Inv X pins σ H s) (E : Value → Shared → Prop) : Inv (X.wish E) pins σ H s := ⟨I.ok.wish E, I.os, I.bare, I.base, I.loc, I.cell, I.free, I.freeC, I.pin, I.hok, I.len⟩
theorem Inv.unwish (I : Inv (X.wish E) pins σ H s) : Inv X pins σ H s := ⟨I.ok.unwish, I.os, I.bare, I.base, I.loc, I.cell, I.free, I.freeC, I.pin, I.hok, I.len⟩
theorem SP.unwish {D : Ends} {f : Flow} {s' : Shared} (h : SP (X.wish E) pins D f s') : SP X pins D f s' := by
  cases f with
  | next => obtain ⟨σ', H', I, q⟩ := h; exact ⟨σ', H', I.unwish, q⟩
  | brk => obtain ⟨σ', H', I, q⟩ := h; exact ⟨σ', H', I.unwish, q⟩
  | cont => obtain ⟨σ', H', I, q⟩ := h; exact ⟨σ', H', I.unwish, q⟩
  | ret u => obtain ⟨v, σ', H', I, r, q⟩ := h; exact ⟨v, σ', H', I.unwish, r, q⟩
theorem PE.nox {e : Expr} {t : TE} (h : PE X.nox e t) : PE X e t := fun pins s σ H Q I hw =>
  wpAny_mono (h pins s σ H Q (I.wish _) hw) (fun _ _ ⟨v, H', I', r, q⟩ => ⟨v, H', I'.unwish, r, q⟩) fun _ _ z => False.elim z
theorem PT.nox {e : Expr} {t : TT} (h : PT X.nox e t) : PT X e t := fun pins s σ H Q I hw =>
  wpAny_mono (h pins s σ H Q (I.wish _) hw) (fun _ _ ⟨H', I', q⟩ => ⟨H', I'.unwish, q⟩) fun _ _ z => False.elim z
theorem PSs.nox {st : List Stmt} {t : TS} (h : PSs X.nox st t) : PSs X st t := fun pins s σ H D I hw =>
  wpAny_mono (h pins s σ H D (I.wish _) hw) (fun _ _ q => q.unwish) fun _ _ z => False.elim z
end

/-! ### blocks and small statements -/
section
variable {X : Cx} {st : Stmt} {rest : List Stmt} {t u : TS} {e : Expr} {te : TE} {pos : Pos}
def tNext : TS := fun D σ H => D.nx σ H
def tSeq (t u : TS) : TS := fun D σ H => t { D with nx := u D } σ H
theorem pss_nil : PSs X [] tNext := fun _ _ σ H _ I h => wpAny_execs_nil ⟨σ, H, I, h⟩
theorem pss_cons (h1 : PS X st t) (h2 : PSs X rest u) : PSs X (st :: rest) (tSeq t u) := by
  intro pins s σ H D I h
  refine wpAny_execs_cons (thn (h1 pins s σ H { D with nx := u D } I h) fun f s1 q => ?_)
  cases f with
  | next =>
    obtain ⟨σ', H', I', q⟩ := q
    exact h2 pins s1 σ' H' D I' q
  | ret v => exact q
  | brk => exact q
  | cont => exact q
theorem pss_one (h1 : PS X st t) : PSs X [st] t := by
  intro pins s σ H D I h
  refine wpAny_execs_cons (thn (h1 pins s σ H D I h) fun f s1 q => ?_)
  cases f with
  | next => exact wpAny_execs_nil q
  | ret v => exact q
  | brk => exact q
  | cont => exact q
def tBreak : TS := fun D σ H => D.bk σ H
def tCont : TS := fun D σ H => D.ct σ H
theorem ps_pass : PS X (.Pass pos) tNext := fun _ _ σ H _ I h => wpAny_Pass ⟨σ, H, I, h⟩
theorem ps_break : PS X (.Break pos) tBreak := fun _ _ σ H _ I h => wpAny_Break ⟨σ, H, I, h⟩
theorem ps_continue : PS X (.Continue pos) tCont := fun _ _ σ H _ I h => wpAny_Continue ⟨σ, H, I, h⟩
/-- in a def's body nothing is shown -/
theorem Inv.quiet {pins : List (Addr × Obj)} {σ : St} {H : Hp} {s : Shared} (I : Inv X pins σ H s) : interactive X.env = false := by simp [interactive, I.ok.kind]
/-- a docstring -/
theorem ps_doc {x j pos pos'} : PS X (.Expr (.Constant (.str x) j pos) pos') tNext := fun _ s σ H _ I h => wpAny_Expr (Calls.Constant_str (show SP X _ _ .next { s with toks := s.toks + 1 } from ⟨σ, H, I.tok _, h⟩)) I.quiet
/-- an expression whose value is dropped -/
def tDrop (te : TE) : TS := fun D σ H => te σ H fun _ H1 => D.nx σ H1
theorem ps_expr (he : PE X e te) (hs : swapsWith e none pos.line X.env = pure false := by rfl) : PS X (.Expr e pos) (tDrop te) := by
  intro pins s σ H D I h
  exact wpAny_Expr_any (thn (he pins s σ H _ I h) fun v s1 ⟨x, H1, I1, r1, q1⟩ => ⟨σ, H1, I1, q1⟩) I.quiet hs
def tRet (te : TE) : TS := fun D σ H => te σ H D.rt
theorem ps_ret (he : PE X e te) : PS X (.Return (some e) pos) (tRet te) := by
  intro pins s σ H D I h
  exact wpAny_Return_some (thn (he pins s σ H _ I h) fun v s1 ⟨x, H1, I1, r1, q1⟩ => ⟨x, σ, H1, I1, r1, q1⟩)
def tRetN : TS := fun D _ H => D.rt .non H
theorem ps_retN : PS X (.Return none pos) tRetN := fun _ _ σ H _ I h => wpAny_Return_none ⟨.non, σ, H, I, rfl, h⟩
def tIfS (c : TT) (t u : TS) : TS := fun D σ H => c σ H fun b H1 => if b = true then t D σ H1 else u D σ H1
theorem ps_if {c : Expr} {a b : List Stmt} {tc : TT} (hc : PT X c tc) (ha : PSs X a t) (hb : PSs X b u) : PS X (.If c a b pos) (tIfS tc t u) := by
  intro pins s σ H D I h
  refine wpAny_If (thn (hc pins s σ H _ I h) fun d s1 ⟨H1, I1, q1⟩ => ?_)
  cases d with
  | true => exact ha pins s1 σ H1 D I1 q1
  | false => exact hb pins s1 σ H1 D I1 q1
/-- code that the proof never comes to -/
def tNever : TS := fun _ _ _ => False
theorem ps_never : PS X st tNever := fun _ _ _ _ _ _ h => h.elim
theorem pss_never {sts : List Stmt} : PSs X sts tNever := fun _ _ _ _ _ _ h => h.elim
end

/-! ### targets -/
abbrev TG := V → St → Hp → (St → Hp → Prop) → Prop
abbrev TGs := List V → St → Hp → (St → Hp → Prop) → Prop
def PG (X : Cx) (target : Expr) (t : TG) : Prop :=
  ∀ (pins : List (Addr × Obj)) (s : Shared) (σ : St) (H : Hp) (v : V) (u : Value) (Q : St → Hp → Prop), Inv X pins σ H s → RelV v u → t v σ H Q →
    wpAny (model X.prog X.w) X.A (assign target X.env u) (fun _ s' => ∃ σ' H', Inv X pins σ' H' s' ∧ Q σ' H') X.xe s
/-- several targets, one after another -/
def PGs (X : Cx) (ts : List Expr) (t : TGs) : Prop :=
  ∀ (pins : List (Addr × Obj)) (s : Shared) (σ : St) (H : Hp) (vs : List V) (us : List Value) (Q : St → Hp → Prop), Inv X pins σ H s → Vals vs us → t vs σ H Q →
    wpAny (model X.prog X.w) X.A (assignInOrder ((assignEach ts X.env).map (·.2)) us) (fun _ s' => ∃ σ' H', Inv X pins σ' H' s' ∧ Q σ' H') X.xe s
/-- o[i] = v, by values -/
abbrev TSet := V → V → V → Hp → (Hp → Prop) → Prop
def PSet (X : Cx) (t : TSet) : Prop :=
  ∀ (pins : List (Addr × Obj)) (s : Shared) (σ : St) (H : Hp) (o i v : V) (ov iv u : Value) (Q : Hp → Prop), Inv X pins σ H s → RelV o ov → RelV i iv → RelV v u → t o i v H Q →
    wpAny (model X.prog X.w) X.A (setItem ov iv u) (fun _ s' => ∃ H', Inv X pins σ H' s' ∧ Q H') X.xe s
/-- a op= b, by values -/
abbrev TIp := V → V → Hp → VK → Prop
def PIp (X : Cx) (op : Operator) (t : TIp) : Prop :=
  ∀ (pins : List (Addr × Obj)) (s : Shared) (σ : St) (H : Hp) (x y : V) (v u : Value) (Q : VK), Inv X pins σ H s → RelV x v → RelV y u → t x y H Q →
    wpAny (model X.prog X.w) X.A (inplaceOp op v u) (EP X pins σ Q) X.xe s
section
variable {X : Cx} {pos : Pos}
def gName (i : Nat) : TG := fun v σ H Q => Q (σ.set i (some v)) H
theorem pg_name {i : Nat} {x : Str} (hN : X.N.Nodup) (hi : X.N[i]? = some x) (hx : Loc X.env.scope x) (hf : X.fn x = true ∨ X.env.scope.names.lookup x = some .local := by first | exact .inl rfl | exact .inr rfl | assumption) : PG X (.Name x pos) (gName i) := by
  intro pins s σ H v u Q I r h
  exact wpAny_assign_Name (store_ok I hN hi hx r (fun s' I' => ⟨_, H, I', h⟩) hf)
def gNil : TGs := fun vs σ H Q => vs = [] ∧ Q σ H
def gCons (t : TG) (u : TGs) : TGs := fun vs σ H Q => ∃ v r, vs = v :: r ∧ t v σ H fun σ' H' => u r σ' H' Q
theorem pgs_nil : PGs X [] gNil := by
  intro pins s σ H vs us Q I r h
  obtain ⟨e, h⟩ := h
  subst e
  cases r
  exact assignInOrder_nil ⟨σ, H, I, h⟩
theorem pgs_cons {e : Expr} {es : List Expr} {t : TG} {u : TGs} (h1 : PG X e t) (h2 : PGs X es u)
    (hs : (assignEach (e :: es) X.env).map (·.2) = assign e X.env :: (assignEach es X.env).map (·.2) := by rfl) : PGs X (e :: es) (gCons t u) := by
  intro pins s σ H vs us Q I r h
  obtain ⟨v, vr, e1, h⟩ := h
  subst e1
  cases r with
  | cons r rr =>
    rw [hs]
    refine assignInOrder_cons (thn (h1 pins s σ H _ _ _ I r h) fun _ s1 ⟨σ1, H1, I1, q1⟩ => ?_)
    exact h2 pins s1 σ1 H1 _ _ Q I1 rr q1
/-- (a, b, ..) = a tuple of that length -/
def gTup (K : PySem.W.Frag) (n : Nat) (t : TGs) : TG := fun v σ H Q => ∃ a xs, v = .ref a ∧ SqT K H a xs ∧ xs.length = n ∧ t xs σ H Q
theorem pg_tup {es : List Expr} {k : Nat} {t : TGs} {n : Nat} (hc : X.calm = true) (h : PGs X es t)
    (hn : (assignEach es X.env).length = n := by rfl) (hst : (assignEach es X.env).findIdx? (·.1) = none := by rfl) : PG X (.Tuple es k pos) (gTup X.K n t) := by
  intro pins s σ H v u Q I r hw
  obtain ⟨a, xs, e1, hq, hl, hw⟩ := hw
  subst e1
  cases r
  obtain ⟨its, rv, ht, hz⟩ := I.tuple hq
  refine assign_Tuple_tuple (I.ok.hd hc) ht (by simp [hn, ← hl, rv.length]) hst fun h' hx => ?_
  have I1 : Inv X pins σ H { s with heap := h' } := I.kept (t' := s.toks) fun b o e => hx b o (Nat.ne_of_lt (Heap.lt_size e)) e
  exact h pins _ σ H xs _ Q I1 (by simpa using rv) hw
/-- o[i] = .. -/
def gSub (to ti : TE) (t : TSet) : TG := fun v σ H Q => to σ H fun o H1 => ti σ H1 fun i H2 => t o i v H2 fun H3 => Q σ H3
theorem pg_sub {o i : Expr} {to ti : TE} {t : TSet} (ho : PE X o to) (hi : PE X i ti) (hs : PSet X t)
    (ha : ∀ v, assign (.Subscript o i pos) X.env v = (do
      let ov ← holding [v] (eval o X.env)
      let iv ← holding [v, ov] (eval i X.env)
      standAt pos
      holding [v, ov, iv] (setItem ov iv v)
      release [v, ov, iv] []) := by intro _; rfl) : PG X (.Subscript o i pos) (gSub to ti t) := by
  intro pins s σ H v u Q I r h
  rw [ha]
  refine wpAny_bind (wpAny_holding (thn (ho pins s σ H _ I h) fun ov s1 ⟨x, H1, I1, r1, q1⟩ => ?_))
  refine wpAny_bind (wpAny_holding (thn (hi pins s1 σ H1 _ I1 q1) fun iv s2 ⟨y, H2, I2, r2, q2⟩ => ?_))
  refine wpAny_bind (wpAny_standAt (wpAny_bind (wpAny_holding (thn (hs pins s2 σ H2 x y v ov iv u _ I2 r1 r2 r q2) fun _ s3 ⟨H3, I3, q3⟩ => ?_))))
  exact wpAny_release ⟨σ, H3, I3, q3⟩
/-- target = value -/
def tAsg (te : TE) (g : TG) : TS := fun D σ H => te σ H fun x H1 => g x σ H1 D.nx
theorem ps_asg {tg e : Expr} {te : TE} {g : TG} (he : PE X e te) (hg : PG X tg g) (hs : swapsWithSole [tg] e pos.line X.env = pure false := by rfl) (hw : swappedStores [tg] e X.env = pure none := by rfl)
    (h1 : (assignEach [tg] X.env).map (·.2) = [assign tg X.env] := by rfl) : PS X (.Assign [tg] e pos) (tAsg te g) := by
  intro pins s σ H D I h
  refine wpAny_Assign_stores (thn (he pins s σ H _ I h) fun v s1 ⟨x, H1, I1, r1, q1⟩ => ?_) hs hw
  rw [h1]
  exact thn (hg pins s1 σ H1 x v _ I1 r1 q1) fun _ s2 q => q
/-- name = value -/
theorem ps_set {i : Nat} {x : Str} {e : Expr} {te : TE} {pos' : Pos} (hN : X.N.Nodup) (hi : X.N[i]? = some x) (hx : Loc X.env.scope x) (he : PE X e te) (hs : swapsWith e (some (.Name x pos')) pos.line X.env = pure false := by rfl) (hf : X.fn x = true ∨ X.env.scope.names.lookup x = some .local := by first | exact .inl rfl | exact .inr rfl | assumption) :
    PS X (.Assign [.Name x pos'] e pos) (tAsg te (gName i)) := by
  intro pins s σ H D I h
  refine wpAny_Assign_Name (thn (he pins s σ H _ I h) fun v s1 ⟨y, H1, I1, r1, q1⟩ => ?_) hs
  exact store_ok I1 hN hi hx r1 (fun s2 I2 => ⟨_, H1, I2, q1⟩) hf
/-- a, b = x, y with plain local names: stored from the right; the pair itself is not tracked (the opening rows as in PyProof/Rows/TupAssign.lean:23) -/
def tPar (i j : Nat) (ta : TA) : TS := fun D σ H => ta σ H fun vs H1 => ∃ v w, vs = [v, w] ∧ D.nx ((σ.set i (some v)).set j (some w)) H1
theorem ps_par {i j : Nat} {x y : Str} {a b : Expr} {ta : TA} {px py pt : Pos} {kt k2 pt2} (hc : X.calm = true) (hN : X.N.Nodup) (hi : X.N[i]? = some x) (hj : X.N[j]? = some y) (hij : i ≠ j)
    (hx : X.env.scope.names.lookup x = some .local) (hy : X.env.scope.names.lookup y = some .local) (ha : PA X [a, b] ta)
    (hw : swappedStores [.Tuple [.Name x px, .Name y py] kt pt] (.Tuple [a, b] k2 pt2) X.env = pure (some [x, y]))
    (hs : swapsWithSole [.Tuple [.Name x px, .Name y py] kt pt] (.Tuple [a, b] k2 pt2) pos.line X.env = pure false := by rfl) :
    PS X (.Assign [.Tuple [.Name x px, .Name y py] kt pt] (.Tuple [a, b] k2 pt2) pos) (tPar i j ta) := by
  intro pins s σ H D I h
  rw [exec_Assign_arm]
  refine wpAny_bind (wpAny_standAt ?_)
  rw [hs]
  refine wpAny_bind (wpAny_pure ?_)
  rw [if_neg (by decide)]
  refine wpAny_bind (Tuple_ (thn (ha _ pins s σ H _ I h) fun us s1 ⟨vs, H1, I1, r1, q1⟩ => ?_))
  obtain ⟨v, w, e1, q1⟩ := q1
  subst e1
  obtain ⟨u1, u2, rfl, rv, rw'⟩ : ∃ u1 u2, us = [u1, u2] ∧ RelV v u1 ∧ RelV w u2 := by
    cases r1 with
    | cons p q =>
      cases q with
      | cons p' q' =>
        cases q'
        exact ⟨_, _, rfl, p, p'⟩
  refine wpAny_newObj_type ?_ (by show 2 ≤ sizeLine; decide)
  have I2 : Inv X pins σ H1 { s1 with heap := s1.heap.push { cls := .type "tuple", data := .seq [u1, u2].toArray } } := I1.kept (t' := s1.toks) fun b o e => Heap.get?_push_of_some _ e
  rw [hw]
  refine wpAny_bind (wpAny_pure ?_)
  show wpAny (model X.prog X.w) X.A (do rule "assign.swapped-stores"; let items ← unpackItems (.ref s1.heap.objs.size) 2 none; assignInOrder [fun v => bindName X.env y v, fun v => bindName X.env x v] items.reverse; pure Flow.next) _ _ _
  refine wpAny_bind (wpAny_rule (wpAny_bind (unpackItems_tuple (items := #[u1, u2]) (I.ok.hd hc) (IsTup.new s1.heap _) fun h' hx' => ?_)))
  have I3 := I2.kept (h' := h') (t' := s1.toks) fun b o e => hx' b o (Nat.ne_of_lt (Heap.lt_size e)) e
  show wpAny _ _ (assignInOrder [fun v => bindName X.env y v, fun v => bindName X.env x v] [u2, u1] >>= fun _ => pure Flow.next) _ _ _
  refine wpAny_bind (assignInOrder_cons (wpAny_bindName (store_ok I3 hN hj (.inl hy) rw' (fun s2 I4 => ?_) (.inr hy))))
  refine assignInOrder_cons (wpAny_bindName (store_ok I4 hN hi (.inl hx) rv (fun s3 I5 => assignInOrder_nil (wpAny_pure ?_)) (.inr hx)))
  rw [List.set_comm _ _ (Ne.symm hij)] at I5
  exact ⟨_, H1, I5, q1⟩
/-- name op= e -/
def tAug (i : Nat) (te : TE) (ti : TIp) : TS := fun D σ H => ∃ x, σ[i]? = some (some x) ∧ te σ H fun y H1 => ti x y H1 fun z H2 => D.nx (σ.set i (some z)) H2
theorem ps_aug {i : Nat} {x : Str} {e : Expr} {te : TE} {op : Operator} {ti : TIp} {pos' : Pos} (hN : X.N.Nodup) (hi : X.N[i]? = some x) (hx : Loc X.env.scope x) (he : PE X e te) (ho : PIp X op ti) (hf : X.fn x = true ∨ X.env.scope.names.lookup x = some .local := by first | exact .inl rfl | exact .inr rfl | assumption) :
    PS X (.AugAssign (.Name x pos') op e pos) (tAug i te ti) := by
  intro pins s σ H D I h
  obtain ⟨v, e1, h⟩ := h
  obtain ⟨m, hn, hl⟩ := I.loc
  have vis : Vis X.env.scope x := by rcases hx with k | k; exact .inl k; exact .inr (.inl k)
  obtain ⟨u, r, l⟩ := hl i x v hi e1 vis
  refine wpAny_AugAssign_Name ?_
  have go : wpAny (model X.prog X.w) X.A (eval e X.env) (fun w s₂ => wpAny (model X.prog X.w) X.A (inplaceOp op u w) (fun r s₃ => wpAny (model X.prog X.w) X.A (storeName X.env x r) (fun _ => SP X pins D .next) X.xe s₃) X.xe s₂) X.xe s := by
    refine thn (he pins s σ H _ I h) fun w s1 ⟨y, H1, I1, r1, q1⟩ => ?_
    refine thn (ho pins s1 σ H1 v y u w _ I1 r r1 q1) fun z s2 ⟨zv, H2, I2, r2, q2⟩ => ?_
    exact store_ok I2 hN hi hx r2 (fun s3 I3 => ⟨_, H2, I3, q2⟩) hf
  rcases l with ⟨hk, hm⟩ | ⟨hk, c, hc, hcell⟩
  · exact wpAny_loadName_local I.ok.kind hk hn hm go
  · rcases hk with hk | hk
    · exact wpAny_loadName_cell I.ok.kind hk hc hcell go
    · rcases hx with k | k
      · have : X.env.scope.names.lookup x = some .free := hk
        rw [k] at this; cases this
      · have : X.env.scope.names.lookup x = some .free := hk
        rw [k] at this; cases this
/-- o[i] op= e -/
def tAugS (to ti te : TE) (tget : V → V → Hp → VK → Prop) (tip : TIp) (tset : TSet) : TS := fun D σ H => to σ H fun o H1 => ti σ H1 fun i H2 => tget o i H2 fun x H3 => te σ H3 fun y H4 => tip x y H4 fun z H5 => tset o i z H5 fun H6 => D.nx σ H6
/-- o[i], by values -/
def PGet (X : Cx) (t : V → V → Hp → VK → Prop) : Prop :=
  ∀ (pins : List (Addr × Obj)) (s : Shared) (σ : St) (H : Hp) (o i : V) (ov iv : Value) (Q : VK), Inv X pins σ H s → RelV o ov → RelV i iv → t o i H Q →
    wpAny (model X.prog X.w) X.A (getItem ov iv) (EP X pins σ Q) X.xe s
theorem ps_augS {o i e : Expr} {to ti te : TE} {tget : V → V → Hp → VK → Prop} {tip : TIp} {tset : TSet} {op : Operator} {tpos : Pos} (ho : PE X o to) (hi : PE X i ti) (hg : PGet X tget) (he : PE X e te) (hp : PIp X op tip) (hs : PSet X tset)
    (ha : ∀ ov iv new, augStore i ov iv new = (do holding [new, ov, iv] (setItem ov iv new); release [new, ov, iv] []; pure .next) := by intros; rfl) : PS X (.AugAssign (.Subscript o i tpos) op e pos) (tAugS to ti te tget tip tset) := by
  intro pins s σ H D I h
  refine wpAny_AugAssign_SubscriptAny (thn (ho pins s σ H _ I h) fun ov s1 ⟨x1, H1, I1, r1, q1⟩ => ?_) ha
  refine thn (hi pins s1 σ H1 _ I1 q1) fun iv s2 ⟨x2, H2, I2, r2, q2⟩ => ?_
  refine thn (hg pins s2 σ H2 x1 x2 ov iv _ I2 r1 r2 q2) fun old s3 ⟨x3, H3, I3, r3, q3⟩ => ?_
  refine thn (he pins s3 σ H3 _ I3 q3) fun v s4 ⟨x4, H4, I4, r4, q4⟩ => ?_
  refine thn (hp pins s4 σ H4 x3 x4 old v _ I4 r3 r4 q4) fun new s5 ⟨x5, H5, I5, r5, q5⟩ => ?_
  exact thn (hs pins s5 σ H5 x1 x2 x5 ov iv new _ I5 r1 r2 r5 q5) fun _ s6 ⟨H6, I6, q6⟩ => ⟨σ, H6, I6, q6⟩
/-- ints -/
def ipI (f : Int → Int → Int) : TIp := fun x y H Q => ∃ i j, x = .int i ∧ y = .int j ∧ Q (.int (f i j)) H
theorem ip_add : PIp X .Add (ipI fun i j => i + j) := by
  intro pins s σ H x y v u Q I r1 r2 h
  obtain ⟨i, j, e1, e2, q⟩ := h
  subst e1; subst e2
  obtain ⟨t, rfl⟩ := r1
  obtain ⟨t', rfl⟩ := r2
  exact iadd_int ⟨.int _, H, I.tok _, ⟨_, rfl⟩, q⟩
theorem ip_sub : PIp X .Sub (ipI fun i j => i - j) := by
  intro pins s σ H x y v u Q I r1 r2 h
  obtain ⟨i, j, e1, e2, q⟩ := h
  subst e1; subst e2
  obtain ⟨t, rfl⟩ := r1
  obtain ⟨t', rfl⟩ := r2
  exact isub_int ⟨.int _, H, I.tok _, ⟨_, rfl⟩, q⟩
end

/-! ### while -/
section
variable {X : Cx} {pos : Pos}
/-- the invariant W with its measure -/
def tWhile (c : TT) (tb : TS) : TS := fun D σ H => ∃ W : Nat → St → Hp → Prop, (∃ m, W m σ H) ∧ ∀ m σ H, W m σ H →
  c σ H fun b H1 => if b = true then ∃ N : St → Hp → Prop, (∀ σ' H', N σ' H' → ∃ m', m' < m ∧ W m' σ' H') ∧ tb { D with nx := N, ct := N, bk := D.nx } σ H1 else D.nx σ H1
theorem ps_while {c : Expr} {body : List Stmt} {tc : TT} {tb : TS} (hp : PassesOwn (model X.prog X.w) X.A X.env X.xe) (hc : PT X c tc) (hb : PSs X body tb) : PS X (.While c body [] pos) (tWhile tc tb) := by
  intro pins s σ H D I h
  obtain ⟨W, ⟨m0, w0⟩, turn⟩ := h
  refine wpAny_While (codeAny_whileLoop (fun n s' => ∃ σ' H', Inv X pins σ' H' s' ∧ W n σ' H') ?_ m0 ⟨σ, H, I, w0⟩)
  rintro n s1 ⟨σ1, H1, I1, w1⟩
  refine wpAny_passesOwn hp (thn (hc pins s1 σ1 H1 _ I1 (turn n σ1 H1 w1)) fun b s2 ⟨H2, I2, q2⟩ => ?_)
  cases b with
  | true =>
    obtain ⟨N, hN, q2⟩ := q2
    rw [if_pos rfl]
    refine wpAny_passesOwn hp (thn (hb pins s2 σ1 H2 _ I2 q2) fun f s3 q3 => ?_)
    cases f with
    | next =>
      obtain ⟨σ3, H3, I3, n3⟩ := q3
      obtain ⟨m', hm, w3⟩ := hN σ3 H3 n3
      exact ⟨m', hm, σ3, H3, I3, w3⟩
    | cont =>
      obtain ⟨σ3, H3, I3, n3⟩ := q3
      obtain ⟨m', hm, w3⟩ := hN σ3 H3 n3
      exact ⟨m', hm, σ3, H3, I3, w3⟩
    | brk => exact q3
    | ret v => exact q3
  | false =>
    rw [if_neg Bool.false_ne_true]
    exact wpAny_execs_nil ⟨σ1, H2, I2, q2⟩
end

/-! ### what a loop or a comprehension walks -/
/-- at turn i: it yields x (the heap may grow), or it stops -/
structure It where
  go : Nat → Hp → Prop
  yld : Nat → Hp → V → Hp → Prop
  stop : Nat → Hp → Prop
/-- the iterator's own objects may turn: they are not the frame's, not pinned, younger than the entry (or a comprehension's own) -/
def FpOk (X : Cx) (pins : List (Addr × Obj)) (H : Hp) (b : Addr) : Prop :=
  H b = none ∧ b ≠ X.env.locals ∧ b ∉ X.fs ∧ (b ∈ X.ex ∨ X.s₀.heap.objs.size ≤ b) ∧ (∀ x c, X.env.cells.lookup x = some c → c ≠ b) ∧ ∀ p ∈ X.pn ++ pins, p.1 ≠ b
theorem Inv.fpOk {X : Cx} {pins : List (Addr × Obj)} {σ : St} {H H' : Hp} {s : Shared} {b : Addr} (I : Inv X pins σ H s) (hb : s.heap.objs.size ≤ b) (hn : H' b = none) : FpOk X pins H' b := by
  refine ⟨hn, Nat.ne_of_gt (Nat.lt_of_lt_of_le I.lt hb), I.nofs hb, .inr (Nat.le_trans I.sz hb), fun x c e z => ?_, fun p hp z => ?_⟩
  · obtain ⟨v, q⟩ := I.cell x c e
    exact absurd (Nat.lt_of_lt_of_le q.lt (by rw [z]; exact hb)) (Nat.lt_irrefl _)
  · exact absurd (Nat.lt_of_lt_of_le (Heap.lt_size (I.pin p hp).1) (by rw [z]; exact hb)) (Nat.lt_irrefl _)
structure Turn (P : Program) (w : World) (K : PySem.W.Frag) (tg : Expr) (J : It) (fp : List Addr) (it : Addr) (tn : Nat → Heap → Prop) : Prop where
  mem : it ∈ fp
  obj : ∀ i h, tn i h → ∀ b ∈ fp, ∃ o, h.get? b = some o ∧ ∀ v, o.data ≠ .cell v
  keep : ∀ i h h', tn i h → (∀ b ∈ fp, ∀ o, h.get? b = some o → h'.get? b = some o) → tn i h'
  item : ∀ (X : Cx), X.prog = P → X.w = w → X.K = K → X.calm = true → ∀ (i : Nat) (pins : List (Addr × Obj)) (s : Shared) (σ : St) (H : Hp) (E : Value → Shared → Prop), Inv X pins σ H s → (∀ b ∈ fp, FpOk X pins H b) → tn i s.heap → J.go i H →
    wpAny (model P w) X.A (pyNext (.ref it)) (fun r s1 => ∃ u, r = some u ∧
      wpAny (model P w) X.A (letOwnedTupleGo tg (.ref it) u) (fun _ s2 => ∃ x H', Inv X pins σ H' s2 ∧ RelV x u ∧ J.yld i H x H' ∧ tn (i + 1) s2.heap ∧ ∀ b ∈ fp, H' b = none) E s1) E s
  done : ∀ (X : Cx), X.prog = P → X.w = w → X.K = K → X.calm = true → ∀ (i : Nat) (pins : List (Addr × Obj)) (s : Shared) (σ : St) (H : Hp) (E : Value → Shared → Prop), Inv X pins σ H s → (∀ b ∈ fp, FpOk X pins H b) → tn i s.heap → J.stop i H →
    wpAny (model P w) X.A (pyNext (.ref it)) (fun r s1 => r = none ∧ Inv X pins σ H s1) E s
  self : ∀ (A : Around) (i : Nat) (s : Shared) (Q : Value → Shared → Prop) (E : Value → Shared → Prop), tn i s.heap → Q (.ref it) s → wpAny (model P w) A (pyIter (.ref it)) Q E s
abbrev TI := St → Hp → (It → Hp → Prop) → Prop
/-- an iterator has come -/
def PIE (X : Cx) (pins : List (Addr × Obj)) (σ : St) (tg : Expr) (R : It → Hp → Prop) (itv : Value) (s2 : Shared) : Prop :=
  ∃ (it : Addr) (fp : List Addr) (tn : Nat → Heap → Prop) (J : It) (H' : Hp), itv = .ref it ∧ Inv X pins σ H' s2 ∧ Turn X.prog X.w X.K tg J fp it tn ∧ tn 0 s2.heap ∧ (∀ b ∈ fp, FpOk X pins H' b) ∧ R J H'
def PI (X : Cx) (tg iter : Expr) (wi : TI) : Prop :=
  ∀ (pins : List (Addr × Obj)) (s : Shared) (σ : St) (H : Hp) (R : It → Hp → Prop), Inv X pins σ H s → wi σ H R →
    wpAny (model X.prog X.w) X.A (eval iter X.env) (fun v s1 => wpAny (model X.prog X.w) X.A (pyIter v) (PIE X pins σ tg R) X.xe s1) X.xe s

/-- the step ahead of the store is nothing for an iterator that keeps no tuple -/
theorem go_of {M : Model} {A : Around} {E : Value → Shared → Prop} {s : Shared} {tg : Expr} {it : Addr} {u : Value} {o : Obj} {n : String} {vs : Array Value} {Q : Unit → Shared → Prop} (ho : s.heap.get? it = some o) (hc : o.cls = .type n) (hd : o.data = .fields vs)
    (hn : ["enumerate", "zip", "dict_itemiterator", "dict_reverseitemiterator", "odict_iterator", "itertools.zip_longest", "itertools.pairwise"].contains n = false) (hQ : Q () s) : wpAny M A (letOwnedTupleGo tg (.ref it) u) Q E s := by
  unfold letOwnedTupleGo
  cases tg <;> first
    | exact wpAny_pure hQ
    | (cases u <;> first
        | exact wpAny_pure hQ
        | (refine wpAny_bind (wpAny_load ho ?_)
           rw [hc, hd]
           show wpAny M A (if (["enumerate", "zip", "dict_itemiterator", "dict_reverseitemiterator", "odict_iterator", "itertools.zip_longest", "itertools.pairwise"].contains n && vs[0]? == some (rawInt _)) = true then _ else _) Q E s
           rw [if_neg (by intro h; rw [hn, Bool.false_and] at h; cases h)]
           exact wpAny_pure hQ))

/-- the list at a, as it stands at each turn (a loop may append to it) -/
def Itl (K : PySem.W.Frag) (a : Addr) : It :=
  ⟨fun i H => ∃ xs x, SqL K H a xs ∧ xs[i]? = some x, fun i H x H' => H' = H ∧ ∀ xs, SqL K H a xs → xs[i]? = some x, fun i H => ∃ xs, SqL K H a xs ∧ xs.length ≤ i⟩
def Itt (K : PySem.W.Frag) (a : Addr) : It :=
  ⟨fun i H => ∃ xs x, SqT K H a xs ∧ xs[i]? = some x, fun i H x H' => H' = H ∧ ∀ xs, SqT K H a xs → xs[i]? = some x, fun i H => ∃ xs, SqT K H a xs ∧ xs.length ≤ i⟩
/-- lo, lo + 1, .. (n of them) -/
def Itr (lo : Int) (n : Nat) : It := ⟨fun i _ => i < n, fun i H x H' => H' = H ∧ x = .int (lo + i), fun i _ => n ≤ i⟩
theorem turn_list {P : Program} {w : World} {K : PySem.W.Frag} {tg : Expr} (a it : Addr) : Turn P w K tg (Itl K a) [it] it (fun i h => h.IsListIter it a i) where
  mem := by simp
  obj := fun i h st b hb => by
    have e : b = it := by simpa using hb
    subst e
    obtain ⟨o, e, c, d⟩ := st
    exact ⟨o, e, fun v z => by rw [d] at z; cases z⟩
  keep := fun i h h' st k => st.at fun o e => k it (by simp) o e
  item := by
    intro X hP hw hK hc i pins s σ H E I hf st hg
    subst hP hw hK
    obtain ⟨xs, x, hq, hx⟩ := hg
    obtain ⟨its, rv, p, hz⟩ := I.list hq
    obtain ⟨u, hu, ru⟩ := rv.get hx
    obtain ⟨f0, f1, f2, f3, f4, f5⟩ := hf it (by simp)
    refine wpAny_pyNext_list_item st p.isList (x := u) (by simpa using hu) fun h' st' sb => ?_
    have I1 : Inv X pins σ H { s with heap := h' } := I.turned (t' := s.toks) (fun b o hb e => (sb.2 b hb).trans e) f0 f1 f3 f4 f5
    obtain ⟨o, e, c, d⟩ := id st'
    exact ⟨u, rfl, go_of (s := { s with heap := h' }) e c d (by decide) ⟨x, H, I1, ru, ⟨rfl, fun ys hy => by rw [I.list_inj hy hq]; exact hx⟩, st', fun b hb => (hf b hb).1⟩⟩
  done := by
    intro X hP hw hK hc i pins s σ H E I hf st hg
    subst hP hw hK
    obtain ⟨xs, hq, hx⟩ := hg
    obtain ⟨its, rv, p, hz⟩ := I.list hq
    obtain ⟨f0, f1, f2, f3, f4, f5⟩ := hf it (by simp)
    have hl := rv.length
    exact wpAny_pyNext_list_end (I.ok.hd hc) st p.isList (by simp; omega) fun h' eb => ⟨rfl, I.turned (t' := s.toks) (fun b o hb e => eb b o hb e) f0 f1 f3 f4 f5⟩
  self := fun _ _ _ _ _ st h => wpAny_pyIter_listiter st h
theorem turn_tuple {P : Program} {w : World} {K : PySem.W.Frag} {tg : Expr} (a it : Addr) : Turn P w K tg (Itt K a) [it] it (fun i h => h.IsTupleIter it a i) where
  mem := by simp
  obj := fun i h st b hb => by
    have e : b = it := by simpa using hb
    subst e
    obtain ⟨o, e, c, d⟩ := st
    exact ⟨o, e, fun v z => by rw [d] at z; cases z⟩
  keep := fun i h h' st k => st.at fun o e => k it (by simp) o e
  item := by
    intro X hP hw hK hc i pins s σ H E I hf st hg
    subst hP hw hK
    obtain ⟨xs, x, hq, hx⟩ := hg
    obtain ⟨its, rv, p, hz⟩ := I.tuple hq
    obtain ⟨u, hu, ru⟩ := rv.get hx
    obtain ⟨f0, f1, f2, f3, f4, f5⟩ := hf it (by simp)
    refine wpAny_pyNext_tuple_item st (show s.heap.IsTuple a its.toArray from p) (x := u) (by simpa using hu) fun h' st' sb => ?_
    have I1 : Inv X pins σ H { s with heap := h' } := I.turned (t' := s.toks) (fun b o hb e => (sb.2 b hb).trans e) f0 f1 f3 f4 f5
    obtain ⟨o, e, c, d⟩ := id st'
    exact ⟨u, rfl, go_of (s := { s with heap := h' }) e c d (by decide) ⟨x, H, I1, ru, ⟨rfl, fun ys hy => by rw [I.tuple_inj hy hq]; exact hx⟩, st', fun b hb => (hf b hb).1⟩⟩
  done := by
    intro X hP hw hK hc i pins s σ H E I hf st hg
    subst hP hw hK
    obtain ⟨xs, hq, hx⟩ := hg
    obtain ⟨its, rv, p, hz⟩ := I.tuple hq
    obtain ⟨f0, f1, f2, f3, f4, f5⟩ := hf it (by simp)
    have hl := rv.length
    exact wpAny_pyNext_tuple_end (I.ok.hd hc) st (show s.heap.IsTuple a its.toArray from p) (by simp; omega) fun h' eb => ⟨rfl, I.turned (t' := s.toks) (fun b o hb e => eb b o hb e) f0 f1 f3 f4 f5⟩
  self := fun _ _ _ _ _ st h => wpAny_pyIter_tupleiter st h
theorem turn_range {P : Program} {w : World} {K : PySem.W.Frag} {tg : Expr} (it : Addr) (lo : Int) (n : Nat) : Turn P w K tg (Itr lo n) [it] it (fun i h => IsRangeIter h it (lo + (i : Nat) * 1) ((n : Int) - (i : Nat)) 1) where
  mem := by simp
  obj := fun i h st b hb => by
    have e : b = it := by simpa using hb
    subst e
    exact ⟨_, st, fun v z => by
      have z' : Data.fields _ = Data.cell v := z
      cases z'⟩
  keep := fun i h h' st k => k it (by simp) _ st
  item := by
    intro X hP hw hK hc i pins s σ H E I hf st hg
    subst hP hw hK
    obtain ⟨f0, f1, f2, f3, f4, f5⟩ := hf it (by simp)
    have W := Walks.range (prog := X.prog) (w := X.w) (I.ok.hd hc) it lo 1 n
    refine W.item i s _ _ hg st fun v h' tk hv st' kk => ?_
    obtain ⟨t, rfl⟩ := hv
    have I1 : Inv X pins σ H { s with heap := h', toks := tk } := I.turned (fun b o hb e => kk b o (by simpa using hb) e) f0 f1 f3 f4 f5
    refine ⟨_, rfl, go_of (s := { s with heap := h', toks := tk }) (n := "range_iterator") st' rfl rfl (by decide) ⟨.int (lo + i), H, I1, ⟨t, ?_⟩, ⟨rfl, rfl⟩, st', fun b hb => (hf b hb).1⟩⟩
    rw [Int.mul_one]
  done := by
    intro X hP hw hK hc i pins s σ H E I hf st hg
    subst hP hw hK
    obtain ⟨f0, f1, f2, f3, f4, f5⟩ := hf it (by simp)
    exact wpAny_pyNext_range_end (I.ok.hd hc) st (by have : n ≤ i := hg; omega) fun h' eb => ⟨rfl, I.turned (t' := s.toks) (fun b o hb e => eb b o hb e) f0 f1 f3 f4 f5⟩
  self := fun _ _ _ _ _ st h => wpAny_pyIter_rangeiter st h
end L2

namespace L2
open PySem PySem.Spec PyProof.Rows
section
variable {X : Cx} {tg : Expr}
def iList (K : PySem.W.Frag) (tl : TE) : TI := fun σ H R => tl σ H fun x H1 => ∃ a, x = .ref a ∧ (∃ xs, SqL K H1 a xs) ∧ R (Itl K a) H1
def iTup (K : PySem.W.Frag) (tl : TE) : TI := fun σ H R => tl σ H fun x H1 => ∃ a, x = .ref a ∧ (∃ xs, SqT K H1 a xs) ∧ R (Itt K a) H1
theorem pi_list {l : Expr} {tl : TE} (hl : PE X l tl) : PI X tg l (iList X.K tl) := by
  intro pins s σ H R I h
  refine thn (hl pins s σ H _ I h) fun v s1 ⟨x, H1, I1, r1, q1⟩ => ?_
  obtain ⟨a, e, ⟨xs, hq⟩, q⟩ := q1
  subst e
  cases r1
  obtain ⟨its, rv, p, hz⟩ := I1.list hq
  refine wpAny_pyIter_list p.isList ?_
  refine ⟨s1.heap.objs.size, [s1.heap.objs.size], _, _, H1, rfl, I1.kept (t' := s1.toks) fun b o e => Heap.get?_push_of_some _ e, turn_list a _, ⟨_, Heap.get?_push_size _ rfl, rfl, rfl⟩, fun b hb => ?_, q⟩
  have e : b = s1.heap.objs.size := by simpa using hb
  subst e
  exact I1.fpOk (Nat.le_refl _) (I1.hok.fresh (Nat.le_refl _))
theorem pi_tup {l : Expr} {tl : TE} (hl : PE X l tl) : PI X tg l (iTup X.K tl) := by
  intro pins s σ H R I h
  refine thn (hl pins s σ H _ I h) fun v s1 ⟨x, H1, I1, r1, q1⟩ => ?_
  obtain ⟨a, e, ⟨xs, hq⟩, q⟩ := q1
  subst e
  cases r1
  obtain ⟨its, rv, p, hz⟩ := I1.tuple hq
  refine wpAny_pyIter_tuple (show s1.heap.IsTuple a its.toArray from p) ?_
  refine ⟨s1.heap.objs.size, [s1.heap.objs.size], _, _, H1, rfl, I1.kept (t' := s1.toks) fun b o e => Heap.get?_push_of_some _ e, turn_tuple a _, ⟨_, Heap.get?_push_size _ rfl, rfl, rfl⟩, fun b hb => ?_, q⟩
  have e : b = s1.heap.objs.size := by simpa using hb
  subst e
  exact I1.fpOk (Nat.le_refl _) (I1.hok.fresh (Nat.le_refl _))
/-- a range object just made, walked -/
theorem range_it {pins : List (Addr × Obj)} {σ : St} {H : Hp} {s : Shared} {R : It → Hp → Prop} {E : Value → Shared → Prop} {lo hi : Int} {t u v : Tok} {tk : Nat} (I : Inv X pins σ H s) (h1 : -(2 ^ 62) ≤ lo) (h2 : lo < 2 ^ 62) (h3 : -(2 ^ 62) ≤ hi) (h4 : hi < 2 ^ 62)
    (q : R (Itr lo (hi - lo).toNat) H) : wpAny (model X.prog X.w) X.A (pyIter (.ref s.heap.objs.size)) (PIE X pins σ tg R) E { s with heap := s.heap.push { cls := .type "range", data := .fields #[.int lo t, .int hi u, .int 1 v] }, toks := tk } := by
  refine wpAny_pyIter_range (IsRange.new ..) (small_one h1 h2 h3 h4) ?_
  have I1 : Inv X pins σ H { s with heap := s.heap.push { cls := .type "range", data := .fields #[.int lo t, .int hi u, .int 1 v] }, toks := tk } := I.kept fun b o e => Heap.get?_push_of_some _ e
  refine ⟨(s.heap.push { cls := .type "range", data := .fields #[.int lo t, .int hi u, .int 1 v] }).objs.size, [(s.heap.push { cls := .type "range", data := .fields #[.int lo t, .int hi u, .int 1 v] }).objs.size], _, _, H, rfl,
    I1.kept (t' := tk) fun b o e => Heap.get?_push_of_some _ e, turn_range _ lo (hi - lo).toNat, ?_, fun b hb => ?_, q⟩
  · have e1 : lo + ((0 : Nat) : Int) * 1 = lo := by simp
    have e2 : (((hi - lo).toNat : Nat) : Int) - ((0 : Nat) : Int) = Builtin.Range.rangeSize lo hi 1 := by rw [rangeSize_one]; split <;> omega
    show IsRangeIter _ _ (lo + ((0 : Nat) : Int) * 1) ((((hi - lo).toNat : Nat) : Int) - ((0 : Nat) : Int)) 1
    rw [e1, e2]
    exact Heap.get?_push_size _ rfl
  · have e : b = (s.heap.push { cls := .type "range", data := .fields #[.int lo t, .int hi u, .int 1 v] }).objs.size := by simpa using hb
    subst e
    exact I1.fpOk (Nat.le_refl _) (I1.hok.fresh (Nat.le_refl _))
def iRng1 (ta : TA) : TI := fun σ H R => ta σ H fun vs H1 => ∃ j : Int, vs = [.int j] ∧ -(2 ^ 62) ≤ j ∧ j < 2 ^ 62 ∧ R (Itr 0 j.toNat) H1
def iRng2 (ta : TA) : TI := fun σ H R => ta σ H fun vs H1 => ∃ i j : Int, vs = [.int i, .int j] ∧ (-(2 ^ 62) ≤ i ∧ i < 2 ^ 62 ∧ -(2 ^ 62) ≤ j ∧ j < 2 ^ 62) ∧ R (Itr i (j - i).toNat) H1
theorem pi_range1 {a : Expr} {ta : TA} {p pos : Pos} (hg : Gl X "range") (hm : X.mg "range" = none) (ha : PA X [a] ta) (hs : starEach [a] X.env = [(false, eval a X.env)] := by rfl) : PI X tg (.Call (.Name "range" p) [a] [] pos) (iRng1 ta) := by
  intro pins s σ H R I h
  refine Call_ (ld_blt I hg hm boot_range (PyProof.Rows.callWith_type1 (thn (ha pos pins s σ H _ I h) fun us s1 ⟨vs, H1, I1, r1, q1⟩ => ?_) hs rfl))
  obtain ⟨j, e, q1, q2, q⟩ := q1
  subst e
  cases r1 with
  | cons r rr =>
    cases rr
    obtain ⟨t, rfl⟩ := r
    exact call_range_1 (range_it I1 (by omega) (by omega) q1 q2 (by simpa using q))
theorem pi_range2 {a b : Expr} {ta : TA} {p pos : Pos} (hg : Gl X "range") (hm : X.mg "range" = none) (ha : PA X [a, b] ta) (hs : starEach [a, b] X.env = [(false, eval a X.env), (false, eval b X.env)] := by rfl) (hs2 : starEach [b] X.env = [(false, eval b X.env)] := by rfl) :
    PI X tg (.Call (.Name "range" p) [a, b] [] pos) (iRng2 ta) := by
  intro pins s σ H R I h
  refine Call_ (ld_blt I hg hm boot_range (PyProof.Rows.callWith_type1 (thn (ha pos pins s σ H _ I h) fun us s1 ⟨vs, H1, I1, r1, q1⟩ => ?_) (by rw [hs, hs2]) (by rw [hs2]; rfl)))
  obtain ⟨i, j, e, ⟨q1, q2, q3, q4⟩, q⟩ := q1
  subst e
  cases r1 with
  | cons r rr =>
    cases rr with
    | cons r' rr =>
      cases rr
      obtain ⟨t, rfl⟩ := r
      obtain ⟨t', rfl⟩ := r'
      exact call_range_2 (range_it I1 q1 q2 q3 q4 q)

/-! ### for -/
/-- W: the invariant by the turn and a measure; N: what the body is to reach -/
def tFor (wi : TI) (g : TG) (tb : TS) : TS := fun D σ H => wi σ H fun J H1 => ∃ W : Nat → Nat → St → Hp → Prop, (∃ m, W 0 m σ H1) ∧ ∀ i m σ H, W i m σ H →
  (J.stop i H ∧ D.nx σ H) ∨ (J.go i H ∧ ∃ N : St → Hp → Prop, (∀ σ' H', N σ' H' → ∃ m', m' < m ∧ W (i + 1) m' σ' H') ∧ ∀ x H', J.yld i H x H' → g x σ H' fun σ2 H2 => tb { D with nx := N, ct := N, bk := D.nx } σ2 H2)
/-- the records at fp as they stand -/
def pinsAt (fp : List Addr) (h : Heap) : List (Addr × Obj) := fp.filterMap fun b => (h.get? b).map fun o => (b, o)
theorem mem_pinsAt {fp : List Addr} {h : Heap} {b : Addr} {o : Obj} (hb : b ∈ fp) (e : h.get? b = some o) : (b, o) ∈ pinsAt fp h := List.mem_filterMap.mpr ⟨b, hb, by rw [e]; rfl⟩
theorem of_pinsAt {fp : List Addr} {h : Heap} {p : Addr × Obj} (hp : p ∈ pinsAt fp h) : p.1 ∈ fp ∧ h.get? p.1 = some p.2 := by
  obtain ⟨b, hb, e⟩ := List.mem_filterMap.mp hp
  cases q : h.get? b with
  | none => rw [q] at e; cases e
  | some o =>
    rw [q] at e
    have e' : (b, o) = p := Option.some.inj e
    subst e'
    exact ⟨hb, q⟩
theorem Inv.pinned {pins : List (Addr × Obj)} {σ : St} {H : Hp} {s : Shared} {fp : List Addr} (I : Inv X pins σ H s) (hf : ∀ b ∈ fp, FpOk X pins H b) (ho : ∀ b ∈ fp, ∃ o, s.heap.get? b = some o ∧ ∀ v, o.data ≠ .cell v) : Inv X (pins ++ pinsAt fp s.heap) σ H s :=
  I.pins_of fun p hp => (List.mem_append.mp hp).elim (fun z => I.pin p (List.mem_append_right _ z)) fun z => by
    obtain ⟨hb, e⟩ := of_pinsAt z
    obtain ⟨f0, f1, f2, _⟩ := hf p.1 hb
    obtain ⟨o, e', d⟩ := ho p.1 hb
    rw [e] at e'; cases e'
    exact ⟨e, f0, f1, f2, d⟩
theorem Inv.unpinned {pins pl : List (Addr × Obj)} {σ : St} {H : Hp} {s : Shared} (I : Inv X (pins ++ pl) σ H s) : Inv X pins σ H s := I.pins_of fun p hp => I.pin p (List.mem_append_right _ (List.mem_append_left _ hp))
theorem ps_for {iter : Expr} {body : List Stmt} {wi : TI} {g : TG} {tb : TS} {pos : Pos} (hp : PassesOwn (model X.prog X.w) X.A X.env X.xe) (hc : X.calm = true) (hi : PI X tg iter wi) (hg : PG X tg g) (hb : PSs X body tb)
    (hs : ∀ x, foldedSetIterable iter X.env x = pure x := by intro _; rfl) : PS X (.For tg iter body [] pos) (tFor wi g tb) := by
  intro pins s σ H D I h
  refine wpAny_For (thn (hi pins s σ H _ I h) fun v s1 h1 => thn h1 fun itv s2 h2 => ?_) hs
  obtain ⟨it, fp, tn, J, H2, e, I2, T, st2, f2, W, ⟨m0, w0⟩, turn⟩ := h2
  subst e
  -- what stays true of the iterator's objects through the loop
  have stat : ∀ {H' : Hp}, (∀ b ∈ fp, H' b = none) → ∀ b ∈ fp, FpOk X pins H' b := fun hn b hb => ⟨hn b hb, (f2 b hb).2⟩
  refine codeAny_forLoop_any (fun n s' => ∃ i σ' H', Inv X pins σ' H' s' ∧ tn i s'.heap ∧ (∀ b ∈ fp, H' b = none) ∧ W i n σ' H') ?_ m0 ⟨0, σ, H2, I2, st2, fun b hb => (f2 b hb).1, w0⟩
  rintro n s3 ⟨i, σ3, H3, I3, st3, fr3, w3⟩
  rcases turn i n σ3 H3 w3 with ⟨stop, qn⟩ | ⟨go, N, hN, step⟩
  · refine wpAny_passesOwn hp (thn (T.done X rfl rfl rfl hc i pins s3 σ3 H3 X.xe I3 (stat fr3) st3 stop) fun r s4 ⟨hr, I4⟩ => ?_)
    subst hr
    exact wpAny_execs_nil ⟨σ3, H3, I4, qn⟩
  · refine wpAny_passesOwn hp (thn (T.item X rfl rfl rfl hc i pins s3 σ3 H3 X.xe I3 (stat fr3) st3 go) fun r s4 ⟨u, hr, h4⟩ => ?_)
    subst hr
    refine wpAny_passesOwn hp (thn h4 fun _ s5 ⟨x, H5, I5, r5, y5, st5, fr5⟩ => ?_)
    have I5' := I5.pinned (stat fr5) (T.obj _ _ st5)
    refine wpAny_passesOwn hp (thn (hg _ s5 σ3 H5 x u _ I5' r5 (step x H5 y5)) fun _ s6 ⟨σ6, H6, I6, q6⟩ => ?_)
    refine wpAny_passesOwn hp (thn (hb _ s6 σ6 H6 _ I6 q6) fun f s7 q7 => ?_)
    have again : ∀ {σ7 : St} {H7 : Hp}, Inv X (pins ++ pinsAt fp s5.heap) σ7 H7 s7 → N σ7 H7 → ∃ m, m < n ∧ ∃ i σ' H', Inv X pins σ' H' s7 ∧ tn i s7.heap ∧ (∀ b ∈ fp, H' b = none) ∧ W i m σ' H' := fun {σ7 H7} I7 n7 => by
      obtain ⟨m', hm, w7⟩ := hN σ7 H7 n7
      refine ⟨m', hm, i + 1, σ7, H7, I7.unpinned, T.keep _ _ _ st5 fun b hb o e => (I7.pin (b, o) (List.mem_append_right _ (List.mem_append_right _ (mem_pinsAt hb e)))).1, fun b hb => ?_, w7⟩
      obtain ⟨o, e, d⟩ := T.obj _ _ st5 b hb
      exact (I7.pin (b, o) (List.mem_append_right _ (List.mem_append_right _ (mem_pinsAt hb e)))).2.1
    cases f with
    | next => obtain ⟨σ7, H7, I7, n7⟩ := q7; exact again I7 n7
    | cont => obtain ⟨σ7, H7, I7, n7⟩ := q7; exact again I7 n7
    | brk => obtain ⟨σ7, H7, I7, q7⟩ := q7; exact ⟨σ7, H7, I7.unpinned, q7⟩
    | ret v => obtain ⟨x7, σ7, H7, I7, r7, q7⟩ := q7; exact ⟨x7, σ7, H7, I7.unpinned, r7, q7⟩
end

/-! ### the forms one uses -/
/-- over a list that the body leaves as it is -/
theorem for_list {K : PySem.W.Frag} {a : Addr} {xs : List V} {g : TG} {tb : TS} {D : Ends} {σ : St} {H : Hp} (Pv : Nat → St → Hp → Prop) (h0 : Pv 0 σ H) (hl : ∀ i σ H, i ≤ xs.length → Pv i σ H → SqL K H a xs)
    (hs : ∀ i x σ H, xs[i]? = some x → Pv i σ H → g x σ H fun σ2 H2 => tb { D with nx := Pv (i + 1), ct := Pv (i + 1), bk := D.nx } σ2 H2) (hd : ∀ σ H, Pv xs.length σ H → D.nx σ H) :
    ∃ W : Nat → Nat → St → Hp → Prop, (∃ m, W 0 m σ H) ∧ ∀ i m σ H, W i m σ H →
      ((Itl K a).stop i H ∧ D.nx σ H) ∨ ((Itl K a).go i H ∧ ∃ N : St → Hp → Prop, (∀ σ' H', N σ' H' → ∃ m', m' < m ∧ W (i + 1) m' σ' H') ∧ ∀ x H', (Itl K a).yld i H x H' → g x σ H' fun σ2 H2 => tb { D with nx := N, ct := N, bk := D.nx } σ2 H2) := by
  refine ⟨fun i m σ H => m = xs.length - i ∧ i ≤ xs.length ∧ Pv i σ H, ⟨xs.length, by simp, Nat.zero_le _, h0⟩, ?_⟩
  rintro i m σ H ⟨rfl, hi, p⟩
  have q := hl i σ H hi p
  by_cases hlt : i < xs.length
  · refine .inr ⟨⟨xs, xs[i], q, by simp [hlt]⟩, Pv (i + 1), fun σ' H' p' => ⟨xs.length - (i + 1), by omega, rfl, hlt, p'⟩, fun x H' y => ?_⟩
    obtain ⟨e, y⟩ := y
    subst e
    exact hs i x σ _ (y xs q) p
  · have e : i = xs.length := by omega
    subst e
    exact .inl ⟨⟨xs, q, Nat.le_refl _⟩, hd σ H p⟩
theorem for_tup {K : PySem.W.Frag} {a : Addr} {xs : List V} {g : TG} {tb : TS} {D : Ends} {σ : St} {H : Hp} (Pv : Nat → St → Hp → Prop) (h0 : Pv 0 σ H) (hl : ∀ i σ H, i ≤ xs.length → Pv i σ H → SqT K H a xs)
    (hs : ∀ i x σ H, xs[i]? = some x → Pv i σ H → g x σ H fun σ2 H2 => tb { D with nx := Pv (i + 1), ct := Pv (i + 1), bk := D.nx } σ2 H2) (hd : ∀ σ H, Pv xs.length σ H → D.nx σ H) :
    ∃ W : Nat → Nat → St → Hp → Prop, (∃ m, W 0 m σ H) ∧ ∀ i m σ H, W i m σ H →
      ((Itt K a).stop i H ∧ D.nx σ H) ∨ ((Itt K a).go i H ∧ ∃ N : St → Hp → Prop, (∀ σ' H', N σ' H' → ∃ m', m' < m ∧ W (i + 1) m' σ' H') ∧ ∀ x H', (Itt K a).yld i H x H' → g x σ H' fun σ2 H2 => tb { D with nx := N, ct := N, bk := D.nx } σ2 H2) := by
  refine ⟨fun i m σ H => m = xs.length - i ∧ i ≤ xs.length ∧ Pv i σ H, ⟨xs.length, by simp, Nat.zero_le _, h0⟩, ?_⟩
  rintro i m σ H ⟨rfl, hi, p⟩
  have q := hl i σ H hi p
  by_cases hlt : i < xs.length
  · refine .inr ⟨⟨xs, xs[i], q, by simp [hlt]⟩, Pv (i + 1), fun σ' H' p' => ⟨xs.length - (i + 1), by omega, rfl, hlt, p'⟩, fun x H' y => ?_⟩
    obtain ⟨e, y⟩ := y
    subst e
    exact hs i x σ _ (y xs q) p
  · have e : i = xs.length := by omega
    subst e
    exact .inl ⟨⟨xs, q, Nat.le_refl _⟩, hd σ H p⟩
theorem for_range {lo : Int} {n : Nat} {g : TG} {tb : TS} {D : Ends} {σ : St} {H : Hp} (Pv : Nat → St → Hp → Prop) (h0 : Pv 0 σ H)
    (hs : ∀ i σ H, i < n → Pv i σ H → g (.int (lo + i)) σ H fun σ2 H2 => tb { D with nx := Pv (i + 1), ct := Pv (i + 1), bk := D.nx } σ2 H2) (hd : ∀ σ H, Pv n σ H → D.nx σ H) :
    ∃ W : Nat → Nat → St → Hp → Prop, (∃ m, W 0 m σ H) ∧ ∀ i m σ H, W i m σ H →
      ((Itr lo n).stop i H ∧ D.nx σ H) ∨ ((Itr lo n).go i H ∧ ∃ N : St → Hp → Prop, (∀ σ' H', N σ' H' → ∃ m', m' < m ∧ W (i + 1) m' σ' H') ∧ ∀ x H', (Itr lo n).yld i H x H' → g x σ H' fun σ2 H2 => tb { D with nx := N, ct := N, bk := D.nx } σ2 H2) := by
  refine ⟨fun i m σ H => m = n - i ∧ i ≤ n ∧ Pv i σ H, ⟨n, by simp, Nat.zero_le _, h0⟩, ?_⟩
  rintro i m σ H ⟨rfl, hi, p⟩
  by_cases hlt : i < n
  · refine .inr ⟨hlt, Pv (i + 1), fun σ' H' p' => ⟨n - (i + 1), by omega, rfl, hlt, p'⟩, fun x H' y => ?_⟩
    obtain ⟨e, y⟩ := y
    subst e y
    exact hs i σ _ hlt p
  · have e : i = n := by omega
    subst e
    exact .inl ⟨Nat.le_refl _, hd σ H p⟩
/-- while, by a word and a measure of the state -/
theorem while_by {c : TT} {tb : TS} {D : Ends} {σ : St} {H : Hp} (Pv : St → Hp → Prop) (μ : St → Hp → Nat) (h0 : Pv σ H)
    (hs : ∀ σ H, Pv σ H → c σ H fun b H1 => if b = true then tb { D with nx := fun σ' H' => Pv σ' H' ∧ μ σ' H' < μ σ H, ct := fun σ' H' => Pv σ' H' ∧ μ σ' H' < μ σ H, bk := D.nx } σ H1 else D.nx σ H1)
    (mono : ∀ σ H Q Q', (∀ b H1, Q b H1 → Q' b H1) → c σ H Q → c σ H Q') : tWhile c tb D σ H := by
  refine ⟨fun m σ H => m = μ σ H ∧ Pv σ H, ⟨_, rfl, h0⟩, ?_⟩
  rintro m σ H ⟨rfl, p⟩
  refine mono σ H _ _ (fun b H1 q => ?_) (hs σ H p)
  cases b with
  | true => exact ⟨_, fun σ' H' ⟨p', l⟩ => ⟨_, l, rfl, p'⟩, q⟩
  | false => exact q
end L2

namespace L2
open PySem PySem.Spec PyProof.Rows

abbrev R2 := V → V → Hp → VK → Prop
/-- a two-place operation on values: f is binaryOp op, inplaceOp op or compareOp op -/
def OpR (X : Cx) (f : Value → Value → Sem Value) (r : R2) : Prop :=
  ∀ (pins : List (Addr × Obj)) (s : Shared) (σ : St) (H : Hp) (x y : V) (v u : Value) (Q : VK), Inv X pins σ H s → RelV x v → RelV y u → r x y H Q →
    wpAny (model X.prog X.w) X.A (f v u) (EP X pins σ Q) X.xe s
/-- a one-place operation -/
def UnR (X : Cx) (f : Value → Sem Value) (r : V → Hp → VK → Prop) : Prop :=
  ∀ (pins : List (Addr × Obj)) (s : Shared) (σ : St) (H : Hp) (x : V) (v : Value) (Q : VK), Inv X pins σ H s → RelV x v → r x H Q →
    wpAny (model X.prog X.w) X.A (f v) (EP X pins σ Q) X.xe s
/-- a call of a value that is known (a builtin, a type) with values -/
def CallR (X : Cx) (f : Value) (r : List V → Hp → VK → Prop) : Prop :=
  ∀ (pins : List (Addr × Obj)) (s : Shared) (σ : St) (H : Hp) (xs : List V) (us : List Value) (Q : VK), Inv X pins σ H s → Vals xs us → r xs H Q →
    wpAny (model X.prog X.w) X.A (call f us) (EP X pins σ Q) X.xe s
/-- a value's truth -/
def TruR (X : Cx) (r : V → Hp → (Bool → Hp → Prop) → Prop) : Prop :=
  ∀ (pins : List (Addr × Obj)) (s : Shared) (σ : St) (H : Hp) (x : V) (v : Value) (Q : Bool → Hp → Prop), Inv X pins σ H s → RelV x v → r x H Q →
    wpAny (model X.prog X.w) X.A (truthy v) (TP X pins σ Q) X.xe s

def tOp (r : R2) (ta tb : TE) : TE := fun σ H Q => ta σ H fun x H1 => tb σ H1 fun y H2 => r x y H2 Q
def tUn (r : V → Hp → VK → Prop) (ta : TE) : TE := fun σ H Q => ta σ H fun x H1 => r x H1 Q
/-- ints in, under C, and a value out -/
def rI (C : Int → Int → Prop) (g : Int → Int → V) : R2 := fun x y H Q => ∃ i j, x = .int i ∧ y = .int j ∧ C i j ∧ Q (g i j) H
def rI0 (g : Int → Int → V) : R2 := fun x y H Q => ∃ i j, x = .int i ∧ y = .int j ∧ Q (g i j) H
def rU (g : Int → V) : V → Hp → VK → Prop := fun x H Q => ∃ i, x = .int i ∧ Q (g i) H

section
variable {X : Cx} {a b c : Expr} {ta tb tc : TE} {pos : Pos}

theorem binT (ha : PE X a ta) (hb : PE X b tb) {pins : List (Addr × Obj)} {s : Shared} {σ : St} {H : Hp} {R : V → V → Hp → Prop} (I : Inv X pins σ H s)
    (h : ta σ H fun x H1 => tb σ H1 fun y H2 => R x y H2) {Q : Value → Shared → Prop} {f : Value → Value → Sem Value}
    (hf : ∀ v u s2 x y H2, Inv X pins σ H2 s2 → RelV x v → RelV y u → R x y H2 → wpAny (model X.prog X.w) X.A (f v u) Q X.xe s2) :
    wpAny (model X.prog X.w) X.A (eval a X.env) (fun v s₁ => wpAny (model X.prog X.w) X.A (eval b X.env) (fun u s₂ => wpAny (model X.prog X.w) X.A (f v u) Q X.xe s₂) X.xe s₁) X.xe s := by
  refine thn (ha pins s σ H _ I h) fun v s1 ⟨x, H1, I1, r1, q1⟩ => ?_
  refine thn (hb pins s1 σ H1 _ I1 q1) fun u s2 ⟨y, H2, I2, r2, q2⟩ => ?_
  exact hf v u s2 x y H2 I2 r1 r2 q2

theorem pe_op {op : Operator} {r : R2} (ho : OpR X (binaryOp op) r) (ha : PE X a ta) (hb : PE X b tb) : PE X (.BinOp a op b pos) (tOp r ta tb) := by
  intro pins s σ H Q I h
  exact wpAny_BinOp (binT ha hb I h fun v u s2 x y H2 I2 rx ry q => ho pins s2 σ H2 x y v u Q I2 rx ry q)
theorem pe_un {op : UnaryOp} {r : V → Hp → VK → Prop} (ho : UnR X (unaryOp op) r) (ha : PE X a ta) : PE X (.UnaryOp op a pos) (tUn r ta) := by
  intro pins s σ H Q I h
  exact UnaryOp_ (thn (ha pins s σ H _ I h) fun v s1 ⟨x, H1, I1, r1, q1⟩ => ho pins s1 σ H1 x v Q I1 r1 q1)
/-- a op= e at a name: the name's slot i -/
theorem augR {op : Operator} {r : R2} (ho : OpR X (inplaceOp op) r) {pins : List (Addr × Obj)} {s : Shared} {σ : St} {H : Hp} {x y : V} {v u : Value} {Q : VK} (I : Inv X pins σ H s)
    (rx : RelV x v) (ry : RelV y u) (q : r x y H Q) : wpAny (model X.prog X.w) X.A (inplaceOp op v u) (EP X pins σ Q) X.xe s := ho pins s σ H x y v u Q I rx ry q

/-! ### ints -/
theorem opI {f : Value → Value → Sem Value} {C : Int → Int → Prop} {g : Int → Int → Int}
    (rule : ∀ (i j : Int) (t u : Tok) (s : Shared) (Q : Value → Shared → Prop) (E : Value → Shared → Prop), C i j → Q (.int (g i j) s.toks) { s with toks := s.toks + 1 } → wpAny (model X.prog X.w) X.A (f (.int i t) (.int j u)) Q E s) :
    OpR X f (rI C fun i j => .int (g i j)) := by
  intro pins s σ H x y v u Q I rx ry h
  obtain ⟨i, j, rfl, rfl, hc, q⟩ := h
  obtain ⟨t, rfl⟩ := rx
  obtain ⟨t', rfl⟩ := ry
  exact rule i j t t' s _ _ hc ⟨.int (g i j), H, I.tok _, ⟨_, rfl⟩, q⟩
theorem opI0 {f : Value → Value → Sem Value} {g : Int → Int → Int}
    (rule : ∀ (i j : Int) (t u : Tok) (s : Shared) (Q : Value → Shared → Prop) (E : Value → Shared → Prop), Q (.int (g i j) s.toks) { s with toks := s.toks + 1 } → wpAny (model X.prog X.w) X.A (f (.int i t) (.int j u)) Q E s) :
    OpR X f (rI0 fun i j => .int (g i j)) := by
  intro pins s σ H x y v u Q I rx ry h
  obtain ⟨i, j, rfl, rfl, q⟩ := h
  obtain ⟨t, rfl⟩ := rx
  obtain ⟨t', rfl⟩ := ry
  exact rule i j t t' s _ _ ⟨.int (g i j), H, I.tok _, ⟨_, rfl⟩, q⟩
theorem opB0 {f : Value → Value → Sem Value} {g : Int → Int → Bool}
    (rule : ∀ (i j : Int) (t u : Tok) (s : Shared) (Q : Value → Shared → Prop) (E : Value → Shared → Prop), Q (.bool (g i j)) s → wpAny (model X.prog X.w) X.A (f (.int i t) (.int j u)) Q E s) :
    OpR X f (rI0 fun i j => .bl (g i j)) := by
  intro pins s σ H x y v u Q I rx ry h
  obtain ⟨i, j, rfl, rfl, q⟩ := h
  obtain ⟨t, rfl⟩ := rx
  obtain ⟨t', rfl⟩ := ry
  exact rule i j t t' s _ _ ⟨.bl (g i j), H, I, rfl, q⟩

def CDiv (i j : Int) : Prop := 0 < j ∧ j < 1073741824
def CDivN (i j : Int) : Prop := j ≠ 0 ∧ j.natAbs < 1073741824
def CPow (i j : Int) : Prop := 0 ≤ j ∧ j ≤ 1000000 ∧ i.natAbs < 2 ^ 64
def CMul (i j : Int) : Prop := (-(2 ^ 64) < i ∧ i < 2 ^ 64) ∨ (-(2 ^ 64) < j ∧ j < 2 ^ 64)
theorem CMul.ok {i j : Int} (h : CMul i j) : IntMulOk i j := by
  rcases h with ⟨h1, h2⟩ | ⟨h1, h2⟩
  · exact .of_left (intBits_le_64 h1 h2)
  · exact .of_right (intBits_le_64 h1 h2)
theorem two_pow_nn (k : Nat) : (0 : Int) ≤ 2 ^ k := by
  rw [two_pow_cast]
  exact Int.natCast_nonneg _

theorem op_add : OpR X (binaryOp .Add) (rI0 fun i j => .int (i + j)) := opI0 fun _ _ _ _ _ _ _ q => add_int q
theorem op_sub : OpR X (binaryOp .Sub) (rI0 fun i j => .int (i - j)) := opI0 fun _ _ _ _ _ _ _ q => sub_int q
theorem op_mul : OpR X (binaryOp .Mult) (rI CMul fun i j => .int (i * j)) := opI fun _ _ _ _ _ _ _ hc q => mul_int q hc.ok
/-- // by a positive divisor -/
theorem op_fdiv : OpR X (binaryOp .FloorDiv) (rI CDiv fun i j => .int (i / j)) := opI fun i j _ _ _ _ _ hc q => by
  have h1 : (0 : Int) < j := hc.1
  have h2 : j < 1073741824 := hc.2
  exact floordiv_int (by omega) (by rw [Int.fdiv_eq_ediv_of_nonneg i (by omega)]; exact q) (.inl (PyProof.noPylong_small (by omega)))
theorem op_fdivN : OpR X (binaryOp .FloorDiv) (rI CDivN fun i j => .int (i.fdiv j)) := opI fun _ _ _ _ _ _ _ hc q => floordiv_int hc.1 q (.inl (PyProof.noPylong_small hc.2))
/-- % by a positive divisor of any size -/
theorem op_mod : OpR X (binaryOp .Mod) (rI (fun _ j => 0 < j) fun i j => .int (i % j)) := opI fun i j _ _ _ _ _ hc q => by
  have h1 : (0 : Int) < j := hc
  exact mod_int' (by omega) (by rw [Int.fmod_eq_emod_of_nonneg i (by omega)]; exact q)
theorem op_modN : OpR X (binaryOp .Mod) (rI (fun _ j => j ≠ 0) fun i j => .int (i.fmod j)) := opI fun _ _ _ _ _ _ _ hc q => mod_int' hc q
theorem op_pow : OpR X (binaryOp .Pow) (rI CPow fun i j => .int (i ^ j.toNat)) := opI fun _ _ _ _ _ _ _ hc q => pow_int_small hc.1 hc.2.1 hc.2.2 q
theorem op_shl : OpR X (binaryOp .LShift) (rI CPow fun i j => .int (i * 2 ^ j.toNat)) := opI fun _ _ _ _ _ _ _ hc q => lshift_int_small hc.1 hc.2.1 hc.2.2 q
theorem op_shr : OpR X (binaryOp .RShift) (rI (fun _ j => 0 ≤ j) fun i j => .int (i / 2 ^ j.toNat)) := opI fun i j _ _ _ _ _ hc q =>
  rshift_int hc (by rw [Int.fdiv_eq_ediv_of_nonneg i (two_pow_nn _)]; exact q)
theorem op_and : OpR X (binaryOp .BitAnd) (rI0 fun i j => .int (Builtin.bitAnd i j)) := opI0 fun _ _ _ _ _ _ _ q => and_int q
theorem op_or : OpR X (binaryOp .BitOr) (rI0 fun i j => .int (Builtin.bitOr i j)) := opI0 fun _ _ _ _ _ _ _ q => or_int q
theorem op_xor : OpR X (binaryOp .BitXor) (rI0 fun i j => .int (Builtin.bitXor i j)) := opI0 fun _ _ _ _ _ _ _ q => xor_int q

theorem iop_add : OpR X (inplaceOp .Add) (rI0 fun i j => .int (i + j)) := opI0 fun _ _ _ _ _ _ _ q => iadd_int q
theorem iop_sub : OpR X (inplaceOp .Sub) (rI0 fun i j => .int (i - j)) := opI0 fun _ _ _ _ _ _ _ q => isub_int q
theorem iop_mul : OpR X (inplaceOp .Mult) (rI CMul fun i j => .int (i * j)) := opI fun _ _ _ _ _ _ _ hc q => imul_int q hc.ok
theorem iop_fdiv : OpR X (inplaceOp .FloorDiv) (rI CDiv fun i j => .int (i / j)) := opI fun i j _ _ _ _ _ hc q => by
  have h1 : (0 : Int) < j := hc.1
  have h2 : j < 1073741824 := hc.2
  exact ifloordiv_int (by omega) (by rw [Int.fdiv_eq_ediv_of_nonneg i (by omega)]; exact q) (.inl (PyProof.noPylong_small (by omega)))
theorem iop_mod : OpR X (inplaceOp .Mod) (rI (fun _ j => 0 < j) fun i j => .int (i % j)) := opI fun i j _ _ _ _ _ hc q => by
  have h1 : (0 : Int) < j := hc
  exact imod_int (by omega) (by rw [Int.fmod_eq_emod_of_nonneg i (by omega)]; exact q)
theorem iop_shl : OpR X (inplaceOp .LShift) (rI CPow fun i j => .int (i * 2 ^ j.toNat)) := opI fun _ _ _ _ _ _ _ hc q => ilshift_int_small hc.1 hc.2.1 hc.2.2 q
theorem iop_shr : OpR X (inplaceOp .RShift) (rI (fun _ j => 0 ≤ j) fun i j => .int (i / 2 ^ j.toNat)) := opI fun i j _ _ _ _ _ hc q =>
  irshift_int hc (by rw [Int.fdiv_eq_ediv_of_nonneg i (two_pow_nn _)]; exact q)
theorem iop_and : OpR X (inplaceOp .BitAnd) (rI0 fun i j => .int (Builtin.bitAnd i j)) := opI0 fun _ _ _ _ _ _ _ q => iand_int q
theorem iop_or : OpR X (inplaceOp .BitOr) (rI0 fun i j => .int (Builtin.bitOr i j)) := opI0 fun _ _ _ _ _ _ _ q => ior_int q
theorem iop_xor : OpR X (inplaceOp .BitXor) (rI0 fun i j => .int (Builtin.bitXor i j)) := opI0 fun _ _ _ _ _ _ _ q => ixor_int q

theorem unI {f : Value → Sem Value} {g : Int → Int}
    (rule : ∀ (i : Int) (t : Tok) (s : Shared) (Q : Value → Shared → Prop) (E : Value → Shared → Prop), Q (.int (g i) s.toks) { s with toks := s.toks + 1 } → wpAny (model X.prog X.w) X.A (f (.int i t)) Q E s) :
    UnR X f (rU fun i => .int (g i)) := by
  intro pins s σ H x v Q I rx h
  obtain ⟨i, rfl, q⟩ := h
  obtain ⟨t, rfl⟩ := rx
  exact rule i t s _ _ ⟨.int (g i), H, I.tok _, ⟨_, rfl⟩, q⟩
theorem un_neg : UnR X (unaryOp .USub) (rU fun i => .int (-i)) := unI fun _ _ _ _ _ q => neg_int q
theorem un_inv : UnR X (unaryOp .Invert) (rU fun i => .int (Builtin.bitNot i)) := unI fun _ _ _ _ _ q => invert_int q

/-! ### bools among ints: n += (a < b) -/
theorem op_add_ib : OpR X (binaryOp .Add) (fun x y H Q => ∃ i k, x = .int i ∧ y = .bl k ∧ Q (.int (i + b2i k)) H) := by
  intro pins s σ H x y v u Q I rx ry h
  obtain ⟨i, k, rfl, rfl, q⟩ := h
  obtain ⟨t, rfl⟩ := rx
  cases ry
  exact add_int_bool ⟨.int (i + b2i k), H, I.tok _, ⟨_, rfl⟩, q⟩
end

/-! ### comparisons -/
/-- the scalars that == tells apart as data does -/
def scal : V → V → Bool
  | .non, .non => true | .non, .int _ => true | .int _, .non => true | .non, .bl _ => true | .bl _, .non => true | .non, .str _ => true | .str _, .non => true
  | .int _, .int _ => true | .bl _, .bl _ => true | .str _, .str _ => true | .byt _, .byt _ => true
  | .int _, .str _ => true | .str _, .int _ => true | .bl _, .str _ => true | .str _, .bl _ => true
  | _, _ => false
def rEq : R2 := fun x y H Q => scal x y = true ∧ Q (.bl (decide (x = y))) H
def rNe : R2 := fun x y H Q => scal x y = true ∧ Q (.bl (!decide (x = y))) H

theorem dec_int {i j : Int} : decide (V.int i = V.int j) = (i == j) := by
  rw [Bool.eq_iff_iff]
  simp
theorem dec_bl {i j : Bool} : decide (V.bl i = V.bl j) = (i == j) := by
  rw [Bool.eq_iff_iff]
  simp
theorem dec_str {i j : Str} : decide (V.str i = V.str j) = (i == j) := by
  rw [Bool.eq_iff_iff]
  simp
theorem dec_byt {i j : Array UInt8} : decide (V.byt i = V.byt j) = (i.toList == j.toList) := by
  rw [Bool.eq_iff_iff]
  cases i
  cases j
  simp

section
variable {X : Cx} {a b c : Expr} {ta tb tc : TE} {pos : Pos}
theorem fin_bl {pins : List (Addr × Obj)} {σ : St} {H : Hp} {s : Shared} {Q : VK} {k k' : Bool} (I : Inv X pins σ H s) (q : Q (.bl k) H) (e : k = k') : EP X pins σ Q (.bool k') s := by
  subst e
  exact ⟨.bl k, H, I, rfl, q⟩
theorem op_eq : OpR X (compareOp .Eq) rEq := by
  intro pins s σ H x y v u Q I rx ry h
  obtain ⟨hs, q⟩ := h
  cases x with
  | non =>
    cases rx
    cases y with
    | non => cases ry; exact PySem.EqNone.eq_none_none (fin_bl I q (by simp))
    | bl j => cases ry; exact PySem.EqNone.eq_none_bool (fin_bl I q (by simp))
    | int j => obtain ⟨t', rfl⟩ := ry; exact PySem.EqNone.eq_none_int (fin_bl I q (by simp))
    | str j => obtain ⟨t', rfl⟩ := ry; exact PySem.EqNone.eq_none_str (fin_bl I q (by simp))
    | _ => exact absurd (show false = true from hs) Bool.false_ne_true
  | bl i =>
    cases rx
    cases y with
    | non => cases ry; exact PySem.EqNone.eq_bool_none (fin_bl I q (by simp))
    | bl j => cases ry; exact eq_bool (fin_bl I q dec_bl)
    | str j => obtain ⟨t', rfl⟩ := ry; exact PySem.EqMixed.eq_bool_str (fin_bl I q (by simp))
    | _ => exact absurd (show false = true from hs) Bool.false_ne_true
  | int i =>
    obtain ⟨t, rfl⟩ := rx
    cases y with
    | non => cases ry; exact PySem.EqNone.eq_int_none (fin_bl I q (by simp))
    | int j => obtain ⟨t', rfl⟩ := ry; exact eq_int (fin_bl I q dec_int)
    | str j => obtain ⟨t', rfl⟩ := ry; exact PySem.EqMixed.eq_int_str (fin_bl I q (by simp))
    | _ => exact absurd (show false = true from hs) Bool.false_ne_true
  | str i =>
    obtain ⟨t, rfl⟩ := rx
    cases y with
    | non => cases ry; exact PySem.EqNone.eq_str_none (fin_bl I q (by simp))
    | bl j => cases ry; exact PySem.EqMixed.eq_str_bool (fin_bl I q (by simp))
    | int j => obtain ⟨t', rfl⟩ := ry; exact PySem.EqMixed.eq_str_int (fin_bl I q (by simp))
    | str j => obtain ⟨t', rfl⟩ := ry; exact eq_str (fin_bl I q dec_str)
    | _ => exact absurd (show false = true from hs) Bool.false_ne_true
  | byt i =>
    obtain ⟨t, rfl⟩ := rx
    cases y with
    | byt j => obtain ⟨t', rfl⟩ := ry; exact PySem.W.eq_bytes (fin_bl I q dec_byt)
    | _ => exact absurd (show false = true from hs) Bool.false_ne_true
  | _ => cases y <;> exact absurd (show false = true from hs) Bool.false_ne_true
theorem op_ne : OpR X (compareOp .NotEq) rNe := by
  intro pins s σ H x y v u Q I rx ry h
  obtain ⟨hs, q⟩ := h
  cases x with
  | non =>
    cases rx
    cases y with
    | non => cases ry; exact PySem.EqNone.ne_none_none (fin_bl I q (by simp))
    | bl j => cases ry; exact PySem.EqNone.ne_none_bool (fin_bl I q (by simp))
    | int j => obtain ⟨t', rfl⟩ := ry; exact PySem.EqNone.ne_none_int (fin_bl I q (by simp))
    | str j => obtain ⟨t', rfl⟩ := ry; exact PySem.EqNone.ne_none_str (fin_bl I q (by simp))
    | _ => exact absurd (show false = true from hs) Bool.false_ne_true
  | bl i =>
    cases rx
    cases y with
    | non => cases ry; exact PySem.EqNone.ne_bool_none (fin_bl I q (by simp))
    | bl j => cases ry; exact ne_bool (fin_bl I q (congrArg not dec_bl))
    | str j => obtain ⟨t', rfl⟩ := ry; exact PySem.EqMixed.ne_bool_str (fin_bl I q (by simp))
    | _ => exact absurd (show false = true from hs) Bool.false_ne_true
  | int i =>
    obtain ⟨t, rfl⟩ := rx
    cases y with
    | non => cases ry; exact PySem.EqNone.ne_int_none (fin_bl I q (by simp))
    | int j => obtain ⟨t', rfl⟩ := ry; exact ne_int (fin_bl I q (congrArg not dec_int))
    | str j => obtain ⟨t', rfl⟩ := ry; exact PySem.EqMixed.ne_int_str (fin_bl I q (by simp))
    | _ => exact absurd (show false = true from hs) Bool.false_ne_true
  | str i =>
    obtain ⟨t, rfl⟩ := rx
    cases y with
    | non => cases ry; exact PySem.EqNone.ne_str_none (fin_bl I q (by simp))
    | bl j => cases ry; exact PySem.EqMixed.ne_str_bool (fin_bl I q (by simp))
    | int j => obtain ⟨t', rfl⟩ := ry; exact PySem.EqMixed.ne_str_int (fin_bl I q (by simp))
    | str j => obtain ⟨t', rfl⟩ := ry; exact ne_str (fin_bl I q (congrArg not dec_str))
    | _ => exact absurd (show false = true from hs) Bool.false_ne_true
  | byt i =>
    obtain ⟨t, rfl⟩ := rx
    cases y with
    | byt j => obtain ⟨t', rfl⟩ := ry; exact PySem.W.ne_bytes (fin_bl I q (congrArg not dec_byt))
    | _ => exact absurd (show false = true from hs) Bool.false_ne_true
  | _ => cases y <;> exact absurd (show false = true from hs) Bool.false_ne_true

theorem op_lt : OpR X (compareOp .Lt) (rI0 fun i j => .bl (decide (i < j))) := opB0 fun _ _ _ _ _ _ _ q => lt_int q
theorem op_le : OpR X (compareOp .LtE) (rI0 fun i j => .bl (decide (i ≤ j))) := opB0 fun _ _ _ _ _ _ _ q => le_int q
theorem op_gt : OpR X (compareOp .Gt) (rI0 fun i j => .bl (decide (j < i))) := opB0 fun _ _ _ _ _ _ _ q => gt_int q
theorem op_ge : OpR X (compareOp .GtE) (rI0 fun i j => .bl (decide (j ≤ i))) := opB0 fun _ _ _ _ _ _ _ q => ge_int q
theorem op_lt_str : OpR X (compareOp .Lt) (fun x y H Q => ∃ i j, x = .str i ∧ y = .str j ∧ Q (.bl (decide (i.cps.toList < j.cps.toList))) H) := by
  intro pins s σ H x y v u Q I rx ry h
  obtain ⟨i, j, rfl, rfl, q⟩ := h
  obtain ⟨t, rfl⟩ := rx
  obtain ⟨t', rfl⟩ := ry
  exact lt_str (fin_bl I q rfl)
/-- the one string within the other -/
theorem op_in_str : OpR X (compareOp .In) (fun x y H Q => ∃ i j, x = .str i ∧ y = .str j ∧ Q (.bl (!(Builtin.Str.occurrences j i 0 j.length 1).isEmpty)) H) := by
  intro pins s σ H x y v u Q I rx ry h
  obtain ⟨i, j, rfl, rfl, q⟩ := h
  obtain ⟨t, rfl⟩ := rx
  obtain ⟨t', rfl⟩ := ry
  exact in_str (fin_bl I q rfl)

/-- is None, is not None: the right side a value none -/
theorem op_isN : OpR X (compareOp .Is) (fun x y H Q => y = .non ∧ Q (.bl (decide (x = .non))) H) := by
  intro pins s σ H x y v u Q I rx ry h
  obtain ⟨rfl, q⟩ := h
  cases ry
  refine is_none_gen (fin_bl I q ?_)
  cases x <;> first
    | (cases rx; rfl)
    | (obtain ⟨t, rfl⟩ := rx; rfl)
theorem op_notN : OpR X (compareOp .IsNot) (fun x y H Q => y = .non ∧ Q (.bl (!decide (x = .non))) H) := by
  intro pins s σ H x y v u Q I rx ry h
  obtain ⟨rfl, q⟩ := h
  cases ry
  refine isnot_none_gen (fin_bl I q ?_)
  cases x <;> first
    | (cases rx; rfl)
    | (obtain ⟨t, rfl⟩ := rx; rfl)

theorem op_notin_str : OpR X (compareOp .NotIn) (fun x y H Q => ∃ i j, x = .str i ∧ y = .str j ∧ Q (.bl (!(!(Builtin.Str.occurrences j i 0 j.length 1).isEmpty))) H) := by
  intro pins s σ H x y v u Q I rx ry h
  obtain ⟨i, j, rfl, rfl, q⟩ := h
  obtain ⟨t, rfl⟩ := rx
  obtain ⟨t', rfl⟩ := ry
  exact notIn_str (fin_bl I q rfl)
/-- is, is not of two objects that are tracked lists or instances -/
def isObj : HO → Bool
  | .lst _ => true
  | .ins _ _ _ => true
  | _ => false
theorem obj_there {pins : List (Addr × Obj)} {s : Shared} {σ : St} {H : Hp} {a : Addr} {o : HO} (I : Inv X pins σ H s) (h : H a = some o) (p : isObj o = true) : ∃ ob, s.heap.get? a = some ob ∧ ob.cls ≠ .type "tuple" := by
  cases o with
  | lst xs =>
    obtain ⟨_, its, n, _, e⟩ : xs.length ≤ sizeLine ∧ ∃ (its : List Value) (n : Nat), Vals xs its ∧ s.heap.get? a = some { cls := .type "list", data := .seq its.toArray n } := I.hok a _ h
    exact ⟨_, e, (by show Value.type "list" ≠ .type "tuple"; decide +kernel)⟩
  | ins C dx fs =>
    have x := I.hok a _ h
    obtain ⟨_, _, _, e, _⟩ := x
    exact ⟨_, e, (by show Value.ref C ≠ .type "tuple"; exact fun z => by cases z)⟩
  | _ => exact absurd (show false = true from p) Bool.false_ne_true
theorem op_is_ref : OpR X (compareOp .Is) (fun x y H Q => ∃ a b oa ob, x = .ref a ∧ y = .ref b ∧ H a = some oa ∧ isObj oa = true ∧ H b = some ob ∧ isObj ob = true ∧ Q (.bl (decide (a = b))) H) := by
  intro pins s σ H x y v u Q I rx ry h
  obtain ⟨a, b, oa, ob, rfl, rfl, ha, pa, hb, pb, q⟩ := h
  cases rx
  cases ry
  obtain ⟨o1, e1, n1⟩ := obj_there I ha pa
  obtain ⟨o2, e2, _⟩ := obj_there I hb pb
  by_cases z : a = b
  · subst z
    exact wpAny_is_ref_self (fin_bl I q (by simp))
  · exact wpAny_is_ref_other z e1 e2 n1 (fin_bl I q (by simp [z]))
theorem op_isnot_ref : OpR X (compareOp .IsNot) (fun x y H Q => ∃ a b oa ob, x = .ref a ∧ y = .ref b ∧ H a = some oa ∧ isObj oa = true ∧ H b = some ob ∧ isObj ob = true ∧ Q (.bl (!decide (a = b))) H) := by
  intro pins s σ H x y v u Q I rx ry h
  obtain ⟨a, b, oa, ob, rfl, rfl, ha, pa, hb, pb, q⟩ := h
  cases rx
  cases ry
  obtain ⟨o1, e1, n1⟩ := obj_there I ha pa
  obtain ⟨o2, e2, _⟩ := obj_there I hb pb
  by_cases z : a = b
  · subst z
    exact wpAny_isNot_ref_self (fin_bl I q (by simp))
  · exact wpAny_isNot_ref_other z e1 e2 n1 (fin_bl I q (by simp [z]))

/-- two rules for one operation: by cases -/
theorem OpR.or {f : Value → Value → Sem Value} {r r' : R2} (h : OpR X f r) (h' : OpR X f r') : OpR X f (fun x y H Q => r x y H Q ∨ r' x y H Q) := by
  intro pins s σ H x y v u Q I rx ry q
  rcases q with q | q
  · exact h pins s σ H x y v u Q I rx ry q
  · exact h' pins s σ H x y v u Q I rx ry q

theorem nomark (b : Expr) {op : CmpOp} (h : op ≠ .In := by decide) (h2 : op ≠ .NotIn := by decide) : behindInMarks op b = false := by
  have e1 : (op == CmpOp.In) = false := by cases op <;> first | rfl | exact absurd rfl h
  have e2 : (op == CmpOp.NotIn) = false := by cases op <;> first | rfl | exact absurd rfl h2
  cases b <;> simp [behindInMarks, e1, e2]
/-- a comparison as a value; hm: nomark b, or (for in, not in) by with_unfolding_all rfl -/
theorem pe_cmpR {op : CmpOp} {r : R2} (ho : OpR X (compareOp op) r) (ha : PE X a ta) (hb : PE X b tb) (hm : behindInMarks op b = false) : PE X (.Compare a [op] [b] pos) (tOp r ta tb) := by
  intro pins s σ H Q I h
  exact wpAny_Compare1 (binT ha hb I h fun v u s2 x y H2 I2 rx ry q => ho pins s2 σ H2 x y v u Q I2 rx ry q) hm
/-- a reading of a value as a test -/
def tTest (t : TE) : TT := fun σ H Q => t σ H fun x H' => ∃ k, x = .bl k ∧ Q k H'
theorem pt_cmpR {op : CmpOp} {r : R2} (ho : OpR X (compareOp op) r) (ha : PE X a ta) (hb : PE X b tb) (hm : behindInMarks op b = false) : PT X (.Compare a [op] [b] pos) (tTest (tOp r ta tb)) := by
  intro pins s σ H Q I h
  refine wpAny_isTrue_Compare1 (thn (ha pins s σ H _ I h) fun v s1 ⟨x, H1, I1, r1, q1⟩ => thn (hb pins s1 σ H1 _ I1 q1) fun u s2 ⟨y, H2, I2, r2, q2⟩ =>
    thn (ho pins s2 σ H2 x y v u _ I2 r1 r2 q2) fun c s3 ⟨z, H3, I3, r3, k, e, q3⟩ => ?_) hm
  subst e
  cases r3
  exact wpAny_truthy_bool ⟨H3, I3, q3⟩
/-- a op1 b op2 c -/
def tChain (r r' : R2) (ta tb tc : TE) : TE := fun σ H Q => ta σ H fun x H1 => tb σ H1 fun y H2 => r x y H2 fun z H3 => ∃ k, z = .bl k ∧
  (if k = true then tc σ H3 fun w' H4 => r' y w' H4 Q else Q (.bl false) H3)
theorem pe_chain {op op' : CmpOp} {r r' : R2} (ho : OpR X (compareOp op) r) (ho' : OpR X (compareOp op') r') (ha : PE X a ta) (hb : PE X b tb) (hc : PE X c tc)
    (hm : lastMarks [op, op'] [b, c] = false := by with_unfolding_all rfl) : PE X (.Compare a [op, op'] [b, c] pos) (tChain r r' ta tb tc) := by
  intro pins s σ H Q I h
  refine Compare_chain (thn (ha pins s σ H _ I h) fun v s1 ⟨x, H1, I1, r1, q1⟩ => chain_link (thn (hb pins s1 σ H1 _ I1 q1) fun u s2 ⟨y, H2, I2, r2, q2⟩ =>
    thn (ho pins s2 σ H2 x y v u _ I2 r1 r2 q2) fun d s3 ⟨z, H3, I3, r3, k, e, q3⟩ => ?_)) hm
  subst e
  cases r3
  refine wpAny_truthy_bool ?_
  cases k with
  | false => exact ite_ff ⟨.bl false, H3, I3, rfl, q3⟩
  | true => exact ite_tt (chain_last (thn (hc pins s3 σ H3 _ I3 q3) fun w' s4 ⟨z', H4, I4, r4, q4⟩ => ho' pins s4 σ H4 y z' u w' Q I4 r2 r4 q4))
theorem pt_chain {op op' : CmpOp} {r r' : R2} (ho : OpR X (compareOp op) r) (ho' : OpR X (compareOp op') r') (ha : PE X a ta) (hb : PE X b tb) (hc : PE X c tc)
    (hm : lastMarks [op, op'] [b, c] = false := by with_unfolding_all rfl) : PT X (.Compare a [op, op'] [b, c] pos) (tTest (tChain r r' ta tb tc)) := by
  intro pins s σ H Q I h
  refine isTrue_chain (thn (ha pins s σ H _ I h) fun v s1 ⟨x, H1, I1, r1, q1⟩ => test_link (thn (hb pins s1 σ H1 _ I1 q1) fun u s2 ⟨y, H2, I2, r2, q2⟩ =>
    thn (ho pins s2 σ H2 x y v u _ I2 r1 r2 q2) fun d s3 ⟨z, H3, I3, r3, k, e, q3⟩ => ?_)) hm
  subst e
  cases r3
  refine wpAny_truthy_bool ?_
  cases k with
  | false =>
    obtain ⟨k', e', q'⟩ := q3
    cases e'
    exact ite_ff ⟨H3, I3, q'⟩
  | true =>
    refine ite_tt (test_last (thn (hc pins s3 σ H3 _ I3 q3) fun w' s4 ⟨z', H4, I4, r4, q4⟩ => thn (ho' pins s4 σ H4 y z' u w' _ I4 r2 r4 q4) fun d' s5 ⟨z2, H5, I5, r5, k2, e2, q5⟩ => ?_))
    subst e2
    cases r5
    exact wpAny_truthy_bool ⟨H5, I5, q5⟩

/-! ### truth -/
/-- a value's truth by the abstract heap -/
def TruV (K : PySem.W.Frag) (x : V) (H : Hp) (k : Bool) : Prop :=
  match x with
  | .non => k = false
  | .bl b => k = b
  | .int i => k = (i != 0)
  | .str y => y.length ≤ sizeLine ∧ k = ((y.length : Int) != 0)
  | .byt y => y.size ≤ sizeLine ∧ k = ((y.size : Int) != 0)
  | .ref p => (∃ xs, SqL K H p xs ∧ k = !xs.isEmpty) ∨ (∃ xs, SqT K H p xs ∧ k = !xs.isEmpty) ∨ ∃ kvs, H p = some (.dK kvs) ∧ k = !kvs.isEmpty
  | _ => False
theorem isEmpty_kv {κ : Type} {kvs : List (κ × V)} {vs : List (κ × Value)} (r : KV kvs vs) : (!vs.isEmpty) = !kvs.isEmpty := by
  cases r <;> rfl
theorem isEmpty_of {xs : List V} {its : List Value} (r : Vals xs its) : (!its.toArray.isEmpty) = !xs.isEmpty := by
  cases r <;> simp
theorem line63 : (sizeLine : Nat) < 2 ^ 63 := by rw [sizeLine_eq]; decide
theorem tru_ok : TruR X (fun x H Q => ∃ k, TruV X.K x H k ∧ Q k H) := by
  intro pins s σ H x v Q I rx h
  obtain ⟨k, e, q⟩ := h
  have hl := line63
  have hs : sizeLine = 16777216 := sizeLine_eq
  cases x with
  | non =>
    cases rx
    have e' : k = false := e
    subst e'
    exact truthy_none ⟨H, I, q⟩
  | bl b =>
    cases rx
    have e' : k = b := e
    subst e'
    exact wpAny_truthy_bool ⟨H, I, q⟩
  | int i =>
    obtain ⟨t, rfl⟩ := rx
    have e' : k = (i != 0) := e
    subst e'
    exact PySem.P.truthy_int ⟨H, I, q⟩
  | str y =>
    obtain ⟨t, rfl⟩ := rx
    obtain ⟨hy, e'⟩ : y.length ≤ sizeLine ∧ k = ((y.length : Int) != 0) := e
    subst e'
    exact PySem.P.truthy_str (by omega) ⟨H, I.tok _, q⟩
  | byt y =>
    obtain ⟨t, rfl⟩ := rx
    obtain ⟨hy, e'⟩ : y.size ≤ sizeLine ∧ k = ((y.size : Int) != 0) := e
    subst e'
    exact PySem.W.truthy_bytes (by omega) ⟨H, I.tok _, q⟩
  | ref p =>
    cases rx
    have e' : (∃ xs, SqL X.K H p xs ∧ k = !xs.isEmpty) ∨ (∃ xs, SqT X.K H p xs ∧ k = !xs.isEmpty) ∨ ∃ kvs, H p = some (.dK kvs) ∧ k = !kvs.isEmpty := e
    rcases e' with ⟨xs, hx, e'⟩ | ⟨xs, hx, e'⟩ | ⟨kvs, hx, e'⟩
    · subst e'
      obtain ⟨its, r, pl, hz⟩ := I.list hx
      have hlen := r.length
      exact wpAny_truthy_list pl.isList (by simp only [List.size_toArray]; omega) ⟨H, I.tok _, by rw [isEmpty_of r]; exact q⟩
    · subst e'
      obtain ⟨its, r, pl, hz⟩ := I.tuple hx
      have hlen := r.length
      exact truthy_tuple pl (by simp only [List.size_toArray]; omega) ⟨H, I.tok _, by rw [isEmpty_of r]; exact q⟩
    · subst e'
      obtain ⟨hz, hS, vs, r, m⟩ : kvs.length ≤ sizeLine ∧ (p == sysModules) = false ∧ ∃ vs, KV kvs vs ∧ s.heap.DictOf (mixKind X.prog X.w) p vs := I.hok p _ hx
      have hlen : kvs.length = vs.length := Paired.length r
      exact wpAny_truthy_dict hS m (by omega) ⟨H, I.tok _, by rw [isEmpty_kv r]; exact q⟩
  | _ => exact (show False from e).elim
/-- any expression whose test is its value's truth (a name, a call, a subscript, a field ..: he by fun _ => rfl) -/
theorem pt_truth (ha : PE X a ta) (he : ∀ whole, isTrue a X.env whole = (do let v ← whole; standAt a.pos; holding [v] (truthy v))) :
    PT X a (fun σ H Q => ta σ H fun x H' => ∃ k, TruV X.K x H' k ∧ Q k H') := by
  intro pins s σ H Q I h
  exact isTrue_plain (thn (ha pins s σ H _ I h) fun v s1 ⟨x, H1, I1, r1, q1⟩ => tru_ok pins s1 σ H1 x v Q I1 r1 q1) (he _)

/-! ### strs and bytes -/
theorem pe_byt {x : List UInt8} {k : Nat} : PE X (.Constant (.bytes x) k pos) (fun _ H Q => Q (.byt x.toArray) H) := fun _ _ _ H _ I h => PySem.W.Constant_bytes ⟨.byt x.toArray, H, I.tok _, ⟨_, rfl⟩, h⟩
theorem op_add_str : OpR X (binaryOp .Add) (fun x y H Q => ∃ i j, x = .str i ∧ y = .str j ∧ i.length + j.length ≤ sizeLine ∧ Q (.str (i ++ j)) H) := by
  intro pins s σ H x y v u Q I rx ry h
  obtain ⟨i, j, rfl, rfl, hz, q⟩ := h
  obtain ⟨t, rfl⟩ := rx
  obtain ⟨t', rfl⟩ := ry
  exact add_str (fun t' tk => ⟨.str (i ++ j), H, I.tok _, ⟨_, rfl⟩, q⟩) hz
theorem iop_add_str : OpR X (inplaceOp .Add) (fun x y H Q => ∃ i j, x = .str i ∧ y = .str j ∧ i.length + j.length ≤ sizeLine ∧ Q (.str (i ++ j)) H) := by
  intro pins s σ H x y v u Q I rx ry h
  obtain ⟨i, j, rfl, rfl, hz, q⟩ := h
  obtain ⟨t, rfl⟩ := rx
  obtain ⟨t', rfl⟩ := ry
  exact iadd_str (fun t' tk => ⟨.str (i ++ j), H, I.tok _, ⟨_, rfl⟩, q⟩) hz
theorem op_add_byt : OpR X (binaryOp .Add) (fun x y H Q => ∃ i j, x = .byt i ∧ y = .byt j ∧ i.size + j.size ≤ 16777216 ∧ Q (.byt (i ++ j)) H) := by
  intro pins s σ H x y v u Q I rx ry h
  obtain ⟨i, j, rfl, rfl, hz, q⟩ := h
  obtain ⟨t, rfl⟩ := rx
  obtain ⟨t', rfl⟩ := ry
  exact PySem.W.KBy.add_bytes hz (fun t' tk => ⟨.byt (i ++ j), H, I.tok _, ⟨_, rfl⟩, q⟩)

def PlainIxT (b : Expr) : Prop := ∀ o i, subscripted b false o i = operate [o, i] (getItem o i)
/-- s[i], 0 ≤ i < len -/
theorem pe_item_str (ha : PE X a ta) (hb : PE X b tb) (hs : PlainIxT b) :
    PE X (.Subscript a b pos) (tOp (fun x y H Q => ∃ z i c, x = .str z ∧ y = .int i ∧ 0 ≤ i ∧ i < 2 ^ 63 ∧ i < z.length ∧ z.cps[i.toNat]? = some c ∧ Q (.str ⟨#[c]⟩) H) ta tb) := by
  intro pins s σ H Q I h
  refine Subscript_ (binT ha hb I h fun v u s2 x y H2 I2 rx ry q => ?_)
  obtain ⟨z, i, c, rfl, rfl, h0, h63, h1, hc, q⟩ := q
  obtain ⟨t, rfl⟩ := rx
  obtain ⟨t', rfl⟩ := ry
  have e : seqIndex? i z.length = some i.toNat := PySem.StrLaws.seqIndex_nonneg h0 h1
  exact tail_any (typeIs_str s2 z t) slot_str_getitem.lookup (getItem_str (c := c) (by
    have e1 : decide (i < -(2 ^ 63 : Int)) = false := decide_eq_false (by omega)
    have e2 : decide (i ≥ 2 ^ 63) = false := decide_eq_false (by omega)
    rw [e1, e2] <;> rfl) (by rw [e]; exact hc) ⟨.str ⟨#[c]⟩, H2, I2.tok _, ⟨_, rfl⟩, q⟩) (hs _ _)
/-- b[i], 0 ≤ i < len -/
theorem pe_item_byt (ha : PE X a ta) (hb : PE X b tb) (hs : PlainIxT b) :
    PE X (.Subscript a b pos) (tOp (fun x y H Q => ∃ (z : List UInt8) (i : Int), x = .byt z.toArray ∧ y = .int i ∧ z.length ≤ sizeLine ∧ 0 ≤ i ∧ i < z.length ∧ Q (.int ((z.getD i.toNat 0).toNat : Nat)) H) ta tb) := by
  intro pins s σ H Q I h
  refine Subscript_ (binT ha hb I h fun v u s2 x y H2 I2 rx ry q => ?_)
  obtain ⟨z, i, rfl, rfl, hz, h0, h1, q⟩ := q
  obtain ⟨t, rfl⟩ := rx
  obtain ⟨t', rfl⟩ := ry
  have hl : sizeLine = 16777216 := sizeLine_eq
  exact tail_any (PySem.W.typeIs_bytes s2 z.toArray t) PySem.W.FB.slot_bytes_getitem.lookup (PySem.W.getItem_bytes (by omega) h0 h1 ⟨.int ((z.getD i.toNat 0).toNat : Nat), H2, I2.tok _, ⟨_, rfl⟩, q⟩) (hs _ _)

/-! ### scalar builtins, by CallR -/
theorem vals1 {x : V} {us : List Value} (r : Vals [x] us) : ∃ u, us = [u] ∧ RelV x u := by
  cases r with
  | cons r1 r2 => cases r2; exact ⟨_, rfl, r1⟩
theorem vals2 {x y : V} {us : List Value} (r : Vals [x, y] us) : ∃ u w', us = [u, w'] ∧ RelV x u ∧ RelV y w' := by
  cases r with
  | cons r1 r2 =>
    cases r2 with
    | cons r3 r4 => cases r4; exact ⟨_, _, rfl, r1, r3⟩
theorem call_abs : CallR X (.builtin "abs") (fun xs H Q => ∃ i, xs = [.int i] ∧ Q (.int (if i < 0 then -i else i)) H) := by
  intro pins s σ H xs us Q I r h
  obtain ⟨i, rfl, q⟩ := h
  obtain ⟨u, rfl, t, rfl⟩ := vals1 r
  exact call_abs_int fun u tk => ⟨.int (if i < 0 then -i else i), H, I.tok _, ⟨_, rfl⟩, q⟩
theorem call_max2 (hc : X.calm = true) : CallR X (.builtin "max") (fun xs H Q => ∃ i j, xs = [.int i, .int j] ∧ Q (.int (if j > i then j else i)) H) := by
  intro pins s σ H xs us Q I r h
  obtain ⟨i, j, rfl, q⟩ := h
  obtain ⟨u, w', rfl, ⟨t, rfl⟩, ⟨t', rfl⟩⟩ := vals2 r
  refine max_two_ints (I.ok.hd hc) fun h' tk k => ⟨_, H, I.kept k, ?_, q⟩
  by_cases hj : j > i
  · rw [if_pos hj, if_pos hj]; exact ⟨_, rfl⟩
  · rw [if_neg hj, if_neg hj]; exact ⟨_, rfl⟩
theorem call_min2 (hc : X.calm = true) : CallR X (.builtin "min") (fun xs H Q => ∃ i j, xs = [.int i, .int j] ∧ Q (.int (if j < i then j else i)) H) := by
  intro pins s σ H xs us Q I r h
  obtain ⟨i, j, rfl, q⟩ := h
  obtain ⟨u, w', rfl, ⟨t, rfl⟩, ⟨t', rfl⟩⟩ := vals2 r
  refine min_two_ints (I.ok.hd hc) fun h' tk k => ⟨_, H, I.kept k, ?_, q⟩
  by_cases hj : j < i
  · rw [if_pos hj, if_pos hj]; exact ⟨_, rfl⟩
  · rw [if_neg hj, if_neg hj]; exact ⟨_, rfl⟩
theorem call_int1 : CallR X (.type "int") (fun xs H Q => (∃ i, xs = [.int i] ∧ Q (.int i) H) ∨ ∃ k, xs = [.bl k] ∧ Q (.int (if k then 1 else 0)) H) := by
  intro pins s σ H xs us Q I r h
  rcases h with ⟨i, rfl, q⟩ | ⟨k, rfl, q⟩
  · obtain ⟨u, rfl, t, rfl⟩ := vals1 r
    exact call_int_int ⟨.int i, H, I, ⟨_, rfl⟩, q⟩
  · obtain ⟨u, rfl, r1⟩ := vals1 r
    cases r1
    exact call_int_bool ⟨.int (if k then 1 else 0), H, I.tok _, ⟨_, rfl⟩, q⟩
theorem call_bool1 : CallR X (.type "bool") (fun xs H Q => (∃ i, xs = [.int i] ∧ Q (.bl (i != 0)) H) ∨ ∃ k, xs = [.bl k] ∧ Q (.bl k) H) := by
  intro pins s σ H xs us Q I r h
  rcases h with ⟨i, rfl, q⟩ | ⟨k, rfl, q⟩
  · obtain ⟨u, rfl, t, rfl⟩ := vals1 r
    exact call_bool_int ⟨.bl (i != 0), H, I, rfl, q⟩
  · obtain ⟨u, rfl, r1⟩ := vals1 r
    cases r1
    exact call_bool_bool ⟨.bl k, H, I, rfl, q⟩
theorem call_str_int : CallR X (.type "str") (fun xs H Q => ∃ i, xs = [.int i] ∧ i.natAbs.log2 < 1920 ∧ Q (.str (toString i)) H) := by
  intro pins s σ H xs us Q I r h
  obtain ⟨i, rfl, hz, q⟩ := h
  obtain ⟨u, rfl, t, rfl⟩ := vals1 r
  exact PySem.P.str_of_int hz ⟨.str _, H, I.tok _, ⟨_, rfl⟩, q⟩
theorem call_ord : CallR X (.builtin "ord") (fun xs H Q => ∃ x, xs = [.str x] ∧ x.length = 1 ∧ Q (.int (x.cps.getD 0 0 : Nat)) H) := by
  intro pins s σ H xs us Q I r h
  obtain ⟨x, rfl, hz, q⟩ := h
  obtain ⟨u, rfl, t, rfl⟩ := vals1 r
  exact ord_of_one hz ⟨.int _, H, I.tok _, ⟨_, rfl⟩, q⟩
theorem call_chr : CallR X (.builtin "chr") (fun xs H Q => ∃ i, xs = [.int i] ∧ 0 ≤ i ∧ i ≤ 1114111 ∧ Q (.str ⟨#[i.toNat]⟩) H) := by
  intro pins s σ H xs us Q I r h
  obtain ⟨i, rfl, h0, h1, q⟩ := h
  obtain ⟨u, rfl, t, rfl⟩ := vals1 r
  exact chr_of_range h0 h1 ⟨.str _, H, I.tok _, ⟨_, rfl⟩, q⟩
/-- len of a str, a bytes, a list, a tuple -/
def LenV (K : PySem.W.Frag) (x : V) (H : Hp) (n : Nat) : Prop :=
  match x with
  | .str y => y.length ≤ sizeLine ∧ n = y.length
  | .byt y => y.size ≤ sizeLine ∧ n = y.size
  | .ref p => (∃ xs, SqL K H p xs ∧ n = xs.length) ∨ ∃ xs, SqT K H p xs ∧ n = xs.length
  | _ => False
theorem call_len : CallR X (.builtin "len") (fun xs H Q => ∃ x n, xs = [x] ∧ LenV X.K x H n ∧ Q (.int n) H) := by
  intro pins s σ H xs us Q I r h
  obtain ⟨x, n, rfl, e, q⟩ := h
  obtain ⟨u, rfl, rx⟩ := vals1 r
  have hl := line63
  have hs : sizeLine = 16777216 := sizeLine_eq
  cases x with
  | str y =>
    obtain ⟨t, rfl⟩ := rx
    obtain ⟨hy, e'⟩ : y.length ≤ sizeLine ∧ n = y.length := e
    subst e'
    exact len_str (by omega) ⟨.int _, H, I.tok _, ⟨_, rfl⟩, q⟩
  | byt y =>
    obtain ⟨t, rfl⟩ := rx
    obtain ⟨hy, e'⟩ : y.size ≤ sizeLine ∧ n = y.size := e
    subst e'
    exact PySem.W.len_bytes (by omega) ⟨.int _, H, I.tok _, ⟨_, rfl⟩, q⟩
  | ref p =>
    cases rx
    have e' : (∃ xs, SqL X.K H p xs ∧ n = xs.length) ∨ ∃ xs, SqT X.K H p xs ∧ n = xs.length := e
    rcases e' with ⟨xs, hx, e'⟩ | ⟨xs, hx, e'⟩
    · subst e'
      obtain ⟨its, r', pl, hz⟩ := I.list hx
      have hlen := r'.length
      exact Calls.call_len_list pl.isList (by simp only [List.size_toArray]; omega) ⟨.int xs.length, H, I.tok _, ⟨_, by simp only [List.size_toArray]; rw [hlen]⟩, q⟩
    · subst e'
      obtain ⟨its, r', pl, hz⟩ := I.tuple hx
      have hlen := r'.length
      exact len_tuple pl (by simp only [List.size_toArray]; omega) ⟨.int xs.length, H, I.tok _, ⟨_, by simp only [List.size_toArray]; rw [hlen]⟩, q⟩
  | _ => exact (show False from e).elim
/-- divmod: a new tuple -/
theorem call_divmod : CallR X (.builtin "divmod") (fun xs H Q => ∃ i j, xs = [.int i, .int j] ∧ CDiv i j ∧ ∀ p, H p = none → Q (.ref p) (upd H p (.tup [.int (i / j), .int (i % j)]))) := by
  intro pins s σ H xs us Q I r h
  obtain ⟨i, j, rfl, ⟨h1, h2⟩, q⟩ := h
  obtain ⟨u, w', rfl, ⟨t, rfl⟩, ⟨t', rfl⟩⟩ := vals2 r
  refine divmod_int (by omega) ?_ (.inl (PyProof.noPylong_small (by omega)))
  rw [Int.fdiv_eq_ediv_of_nonneg i (by omega), Int.fmod_eq_emod_of_nonneg i (by omega)]
  have hn : H s.heap.objs.size = none := I.hok.fresh (Nat.le_refl _)
  refine ⟨.ref s.heap.objs.size, _, ?_, rfl, q _ hn⟩
  refine I.laid (fun b o e => Heap.get?_push_of_some _ e) (Nat.le_refl _) ⟨by simp only [List.length_cons, List.length_nil]; rw [sizeLine_eq]; decide, [.int (i / j) s.toks, .int (i % j) (s.toks + 1)], .cons ⟨_, rfl⟩ (.cons ⟨_, rfl⟩ .nil), ?_⟩
  exact ⟨_, Heap.get?_push_size s.heap rfl, rfl, 0, rfl⟩
end
end L2

namespace L2
open PySem PySem.Spec PyProof.Rows

/-! ### an instance, its attributes a map -/
structure ObjM (h : Heap) (x dx C : Addr) (mA : Str → Option Value) : Prop where
  obj : h.get? x = some (PySem.W.instObj C dx)
  ns : h.Ns1 dx mA
  ne : dx ≠ x

theorem lookIn_ns {h : Heap} {dx : Addr} {mA : Str → Option Value} (n : h.Ns1 dx mA) : ∃ od, h.get? dx = some od ∧ ∀ name, PySem.W.lookIn name od = some (mA name) := by
  obtain ⟨o, es, ep, ho, hd, hk, _, hm⟩ := n
  refine ⟨o, ho, fun name => ?_⟩
  have e := hm name
  unfold nsFind findBy at e
  rw [← Array.find?_toList] at e
  unfold PySem.W.lookIn
  rw [hd]
  dsimp only
  split
  · rename_i y q
    rw [q] at e
    exact congrArg some e
  · rename_i q
    rw [q] at e
    have a : es.toList.any (·.refKey) = false := by
      rw [List.any_eq_false]
      intro y hy
      obtain ⟨z, t, hkey⟩ := hk y (Array.mem_toList_iff.mp hy)
      simp [DictEntry.refKey, hkey]
    have a' : ¬ es.toList.any (·.refKey) = true := by rw [a]; exact Bool.false_ne_true
    rw [if_neg a']
    exact congrArg some e

theorem ObjM.look {h : Heap} {x dx C : Addr} {mA : Str → Option Value} (I : ObjM h x dx C mA) : ∃ od, PySem.W.InstAt h x (PySem.W.instObj C dx) C (some od) ∧ ∀ name, PySem.W.lookIn name od = some (mA name) :=
  let ⟨od, ho, hl⟩ := lookIn_ns I.ns
  ⟨od, ⟨I.obj, rfl, rfl, ho⟩, hl⟩

section
variable {prog : Program} {w : World} {A : Around} {E : Value → Shared → Prop} {s : Shared} {K : PySem.W.Frag} {x dx C f : Addr} {mA : Str → Option Value} {name : Str} {v : Value}

theorem get_map {expr : Bool} {Q : Value → Shared → Prop} (X : K.In s.heap) (I : ObjM s.heap x dx C mA) (hg : PySem.W.plainGet K C name = true) (hh : PySem.W.hasDictIn K C = true)
    (ha : PySem.W.findIn K (.ref C) name = some none) (hv : mA name = some v) (hv' : PySem.W.handedIn v = true) (h : Q v { s with toks := s.toks + 1 }) :
    wpAny (model prog w) A (getAttr (.ref x) name expr) Q E s := by
  obtain ⟨od, J, hl⟩ := I.look
  exact PySem.W.get_value X J (PySem.W.plainGet_of hg).1 (PySem.W.findObj_own hh ha rfl (by rw [hl, hv])) hv' h

theorem get_const {expr : Bool} {a : Value} {Q : Value → Shared → Prop} (X : K.In s.heap) (I : ObjM s.heap x dx C mA) (hg : PySem.W.plainGet K C name = true) (hh : PySem.W.hasDictIn K C = true)
    (ha : PySem.W.findIn K (.ref C) name = some (some a)) (hn : PySem.W.specialIn K a "__get__" = some none) (hc : PySem.W.copiedNames.contains name = false) (hv : mA name = none) (hv' : PySem.W.handedIn a = true)
    (h : Q a { s with toks := s.toks + 1 }) : wpAny (model prog w) A (getAttr (.ref x) name expr) Q E s := by
  obtain ⟨od, J, hl⟩ := I.look
  exact PySem.W.get_value X J (PySem.W.plainGet_of hg).1 (PySem.W.findObj_cls hh ha hn hv' hc (by rw [hl, hv])) hv' h

theorem get_meth {pl : Sem Bool} {Q : Value × List Value → Shared → Prop} (X : K.In s.heap) (I : ObjM s.heap x dx C mA) (hg : PySem.W.plainGet K C name = true)
    (hf : PySem.W.findIn K (.ref C) name = some (some (.ref f))) (ht : PySem.W.isFn K (.ref f) = true) (hv : mA name = none) (h : Q (.ref f, [.ref x]) s) :
    wpAny (model prog w) A (getMethod (.ref x) name pl) Q E s := by
  obtain ⟨od, J, hl⟩ := I.look
  exact PySem.W.method_fn X J (PySem.W.plainGet_of hg).1 (PySem.W.plainGet_of hg).2 hf (beq_iff_eq.mp ht) (by show (PySem.W.lookIn name od).map (·.isSome) = some false; rw [hl, hv]; rfl) h

theorem set_map {ns : List Str} {Q : Unit → Shared → Prop} (X : K.In s.heap) (I : ObjM s.heap x dx C mA)
    (hs : PySem.W.findIn K (.ref C) "__setattr__" = some (some (.builtin "object.__setattr__"))) (hp : PySem.W.plainOver K C = true) (ht : PySem.W.takerIn K C name = some none) (hh : PySem.W.hasDictIn K C = true)
    (hw : PySem.Within mA ns) (hsz : ns.length ≤ sizeLine)
    (h : ∀ h', ObjM h' x dx C (fun y => if y = name then some v else mA y) → Heap.SameBut dx s.heap h' → Q () { s with heap := h', toks := s.toks + 2 }) :
    wpAny (model prog w) A (setAttr (.ref x) name v) Q E s := by
  obtain ⟨od, J, hl⟩ := I.look
  refine PySem.W.set_plain X J hs (PySem.W.osa_open (s := { s with toks := s.toks + 1 }) (r := none) X J hp ht fun b => ?_)
  obtain ⟨cd, hc, hd'⟩ := PySem.W.any_some hh
  have hx : s.heap.get? x = some ⟨.ref C, some dx, .plain, #[]⟩ := I.obj
  refine wpAny_bind (wpAny_pure (wpAny_bind (wpAny_bind (wpAny_loadPart hx (wpAny_bind (PySem.W.Looks.here (s := { s with toks := s.toks + 1 }) (PySem.W.looks_clsIn X hc) ?_))))))
  rw [hd']
  refine wpAny_pure (a := some dx) (wpAny_bind (wpAny_pure (wpAny_bind ?_)))
  refine wpAny_nsSet1 (s := { s with toks := s.toks + 1 }) I.ns fun h' hn2 hs2 => ?_
  obtain ⟨oD, esD, epD, hoD, hdD, hcD⟩ := hn2.count (PySem.Within.cons name v hw)
  refine wpAny_bind (wpAny_lookBehind hoD (by rw [hdD]; exact pastItsLine_dict (Nat.le_trans hcD (by rw [List.length_cons]; omega))) ?_)
  exact wpAny_pure (h _ ⟨(hs2.2 _ (Ne.symm I.ne)).trans I.obj, hn2, I.ne⟩ hs2)

/-- C(..): the dict at the heap's end, the instance behind it; then its __init__ -/
theorem make_map {R : Result → Shared → Prop} {vs : List Value} {kw : List (Str × Value)} (X : K.In s.heap) (hm : PySem.W.makesIn K C = true)
    (hi : PySem.W.findIn K (.ref C) "__init__" = some (some (.ref f))) (hf : PySem.W.typeIn K (.ref f) = some (.type "function"))
    (h : codeAny (model prog w) (A.under (.builtin "type.__call__" ⟨.ref C :: vs, kw⟩)) (.call (.ref f) ⟨.ref (s.heap.objs.size + 1) :: vs, kw⟩) (PySem.W.InitBack (s.heap.objs.size + 1) R)
      { s with heap := (s.heap.push PySem.W.emptyDict).push (PySem.W.instObj C s.heap.objs.size) }) :
    codeAny (model prog w) A (.call (.ref C) ⟨vs, kw⟩) R s := by
  obtain ⟨hh, g, d, t, os⟩ := s
  exact PySem.W.make_core (PySem.W.makes_of X hm) (PySem.W.looks_findIn X hi) (fun self => PySem.W.bind_fn X self hf) (.inl rfl) h
/-- C() where there is no __init__ but object's -/
theorem make_map0 {R : Result → Shared → Prop} (X : K.In s.heap) (hm : PySem.W.makesIn K C = true)
    (hi : PySem.W.findIn K (.ref C) "__init__" = some (some (.builtin "object.__init__")))
    (hb : ∀ self, PySem.W.Looks (model prog w) s.heap (bindSpecial (.builtin "object.__init__") self) (.builtin "object.__init__", [self]))
    (h : codeAny (model prog w) (A.under (.builtin "type.__call__" ⟨[.ref C], []⟩)) (.call (.builtin "object.__init__") ⟨[.ref (s.heap.objs.size + 1)], []⟩) (PySem.W.InitBack (s.heap.objs.size + 1) R)
      { s with heap := (s.heap.push PySem.W.emptyDict).push (PySem.W.instObj C s.heap.objs.size) }) :
    codeAny (model prog w) A (.call (.ref C) ⟨[], []⟩) R s := by
  obtain ⟨hh, g, d, t, os⟩ := s
  exact PySem.W.make_core (PySem.W.makes_of X hm) (PySem.W.looks_findIn X hi) hb (.inr ⟨rfl, rfl⟩) h
end

/-! ### the attributes as a list of pairs -/
def putF (f : Str) (v : V) : List (Str × V) → List (Str × V)
  | [] => [(f, v)]
  | (g, x) :: r => if g = f then (g, v) :: r else (g, x) :: putF f v r
theorem lookup_putF (f g : Str) (v : V) : ∀ fs : List (Str × V), (putF f v fs).lookup g = if g = f then some v else fs.lookup g
  | [] => by
    show List.lookup g [(f, v)] = _
    by_cases h : g = f
    · have hb : (g == f) = true := beq_iff_eq.mpr h
      simp only [List.lookup, hb, if_pos h]
    · have hb : (g == f) = false := beq_eq_false_iff_ne.mpr h
      simp only [List.lookup, hb, if_neg h]
  | (k, x) :: r => by
    have ih := lookup_putF f g v r
    rw [show putF f v ((k, x) :: r) = (if k = f then (k, v) :: r else (k, x) :: putF f v r) from rfl]
    by_cases hk : k = f
    · rw [if_pos hk]
      by_cases h : g = k
      · have hb : (g == k) = true := beq_iff_eq.mpr h
        simp only [List.lookup, hb, if_pos (h.trans hk)]
      · have hb : (g == k) = false := beq_eq_false_iff_ne.mpr h
        simp only [List.lookup, hb, if_neg (fun e : g = f => h (e.trans hk.symm))]
    · rw [if_neg hk]
      by_cases h : g = k
      · have hb : (g == k) = true := beq_iff_eq.mpr h
        simp only [List.lookup, hb, if_neg (fun e : g = f => hk (h.symm.trans e))]
      · have hb : (g == k) = false := beq_eq_false_iff_ne.mpr h
        simp only [List.lookup, hb]
        exact ih
theorem keys_putF (f : Str) (v : V) : ∀ fs : List (Str × V), f ∈ (putF f v fs).map (·.1) ∧ ∀ g, g ∈ fs.map (·.1) → g ∈ (putF f v fs).map (·.1)
  | [] => ⟨by simp [putF], fun g h => by simp at h⟩
  | (k, x) :: r => by
    obtain ⟨i1, i2⟩ := keys_putF f v r
    rw [show putF f v ((k, x) :: r) = (if k = f then (k, v) :: r else (k, x) :: putF f v r) from rfl]
    by_cases hk : k = f
    · rw [if_pos hk]
      subst hk
      exact ⟨by simp, fun g h => by simpa using h⟩
    · rw [if_neg hk]
      refine ⟨?_, fun g h => ?_⟩
      · rw [List.map_cons]
        exact List.mem_cons_of_mem _ i1
      · rw [List.map_cons] at h ⊢
        rcases List.mem_cons.mp h with e | e
        · exact List.mem_cons.mpr (.inl e)
        · exact List.mem_cons_of_mem _ (i2 g e)
theorem length_putF (f : Str) (v : V) : ∀ fs : List (Str × V), (putF f v fs).length ≤ fs.length + 1
  | [] => by simp [putF]
  | (k, x) :: r => by
    have ih := length_putF f v r
    rw [show putF f v ((k, x) :: r) = (if k = f then (k, v) :: r else (k, x) :: putF f v r) from rfl]
    by_cases hk : k = f
    · rw [if_pos hk, List.length_cons, List.length_cons]; omega
    · rw [if_neg hk, List.length_cons, List.length_cons]; omega

theorem RelO.some_of {v : V} {o : Option Value} (r : RelO (some v) o) : ∃ u, o = some u ∧ RelV v u := by
  cases o with
  | none => exact (show False from r).elim
  | some u => exact ⟨u, rfl, r⟩
theorem RelO.none_of {o : Option Value} (r : RelO none o) : o = none := by
  cases o with
  | none => rfl
  | some u => exact (show False from r).elim
theorem handed_of {v : V} {u : Value} (r : RelV v u) : PySem.W.handedIn u = true := by
  cases v with
  | non => cases (show u = Value.none from r); rfl
  | bl b => cases (show u = Value.bool b from r); rfl
  | int i => obtain ⟨t, e⟩ := (show ∃ t, u = Value.int i t from r); cases e; rfl
  | str x => obtain ⟨t, e⟩ := (show ∃ t, u = Value.str x t from r); cases e; rfl
  | byt b => obtain ⟨t, e⟩ := (show ∃ t, u = Value.bytes b t from r); cases e; rfl
  | flt b => obtain ⟨t, e⟩ := (show ∃ t, u = Value.float b t from r); cases e; rfl
  | ref a => cases (show u = Value.ref a from r); rfl
  | ty n => cases (show u = Value.type n from r); rfl

section
variable {P : Program} {w : World} {H H' : Hp} {h h' : Heap} {a C dx : Addr} {fs fs' : List (Str × V)}
theorem ins_get (hok : HOk P w H h) (e : H a = some (.ins C dx fs)) : ∃ mA, ObjM h a dx C mA ∧ (∀ f, RelO (fs.lookup f) (mA f)) ∧ PySem.Within mA (fs.map (·.1)) ∧ fs.length ≤ 1000 ∧ H dx = some (.own a) := by
  obtain ⟨d, z, ne, ob, mA, n, r, q⟩ := (show ObjOk P w H h a (.ins C dx fs) from hok a _ e)
  exact ⟨mA, ⟨ob, n, ne⟩, r, q, z, d⟩
end

/-! ### what of the text a class must have -/
structure Cls (K : PySem.W.Frag) (C : Addr) : Prop where
  pg : PySem.W.plainGet K C Str.empty = true
  hd : PySem.W.hasDictIn K C = true
  po : PySem.W.plainOver K C = true
  sa : PySem.W.findIn K (.ref C) "__setattr__" = some (some (.builtin "object.__setattr__"))
theorem Cls.get {K : PySem.W.Frag} {C : Addr} (c : Cls K C) (f : Str) : PySem.W.plainGet K C f = true := c.pg
/-- no class of it has the name -/
def NoAttr (K : PySem.W.Frag) (C : Addr) (f : Str) : Prop := PySem.W.findIn K (.ref C) f = some none
theorem NoAttr.taker {K : PySem.W.Frag} {C : Addr} {f : Str} (n : NoAttr K C f) : PySem.W.takerIn K C f = some none := by
  unfold PySem.W.takerIn
  rw [show PySem.W.findIn K (.ref C) f = some none from n]
  rfl
/-- a constant of the class -/
structure Con (K : PySem.W.Frag) (C : Addr) (f : Str) (v : V) (u : Value) : Prop where
  at_ : PySem.W.findIn K (.ref C) f = some (some u)
  rel : RelV v u
  get : PySem.W.specialIn K u "__get__" = some none
  cp : PySem.W.copiedNames.contains f = false
/-- a method: a plain def of the class or of one above it -/
structure Meth (K : PySem.W.Frag) (C : Addr) (m : Str) (f : Addr) : Prop where
  at_ : PySem.W.findIn K (.ref C) m = some (some (.ref f))
  fn : PySem.W.isFn K (.ref f) = true
  kp : PySem.W.keepIn K (.ref f) = true

section
variable {X : Cx} {pins : List (Addr × Obj)} {σ : St} {H : Hp} {s : Shared} {a C dx : Addr} {fs : List (Str × V)} {f : Str} {v : V} {A : Around} {E : Value → Shared → Prop}

theorem getattr_ok {b : Bool} {Q : Value → Shared → Prop} (I : Inv X pins σ H s) (e : H a = some (.ins C dx fs)) (c : Cls X.K C) (n : NoAttr X.K C f) (l : fs.lookup f = some v)
    (h : ∀ u s', Inv X pins σ H s' → RelV v u → Q u s') : wpAny (model X.prog X.w) A (getAttr (.ref a) f b) Q E s := by
  obtain ⟨mA, O, r, _, _, _⟩ := ins_get I.hok e
  obtain ⟨u, hu, ru⟩ := RelO.some_of (v := v) (o := mA f) (by rw [← l]; exact r f)
  exact get_map I.kIn O (c.get f) c.hd n hu (handed_of ru) (h u _ (I.tok _) ru)

theorem getcon_ok {b : Bool} {u : Value} {Q : Value → Shared → Prop} (I : Inv X pins σ H s) (e : H a = some (.ins C dx fs)) (c : Cls X.K C) (k : Con X.K C f v u) (l : fs.lookup f = none)
    (h : ∀ s', Inv X pins σ H s' → Q u s') : wpAny (model X.prog X.w) A (getAttr (.ref a) f b) Q E s := by
  obtain ⟨mA, O, r, _, _, _⟩ := ins_get I.hok e
  have hn : mA f = none := RelO.none_of (by rw [← l]; exact r f)
  exact get_const I.kIn O (c.get f) c.hd k.at_ k.get k.cp hn (handed_of k.rel) (h _ (I.tok _))

theorem getmeth_ok {m : Str} {g : Addr} {pl : Sem Bool} {Q : Value × List Value → Shared → Prop} (I : Inv X pins σ H s) (e : H a = some (.ins C dx fs)) (c : Cls X.K C) (k : Meth X.K C m g) (l : fs.lookup m = none)
    (h : Q (.ref g, [.ref a]) s) : wpAny (model X.prog X.w) A (getMethod (.ref a) m pl) Q E s := by
  obtain ⟨mA, O, r, _, _, _⟩ := ins_get I.hok e
  have hn : mA m = none := RelO.none_of (by rw [← l]; exact r m)
  exact get_meth I.kIn O (c.get m) k.at_ k.fn hn h

theorem setattr_ok {y : V} {u : Value} {Q : Unit → Shared → Prop} (I : Inv X pins σ H s) (e : H a = some (.ins C dx fs)) (c : Cls X.K C) (n : NoAttr X.K C f) (hl : fs.length < 1000) (ry : RelV y u)
    (h : ∀ s', Inv X pins σ (upd H a (.ins C dx (putF f y fs))) s' → Q () s') : wpAny (model X.prog X.w) A (setAttr (.ref a) f u) Q E s := by
  obtain ⟨mA, O, r, wi, _, ho⟩ := ins_get I.hok e
  have hz : (fs.map (·.1)).length ≤ sizeLine := by rw [List.length_map, sizeLine_eq]; omega
  refine set_map I.kIn O c.sa c.po n.taker c.hd wi hz fun h' O' sb => h _ ?_
  have hd : ∃ o, h'.get? dx = some o := let ⟨o, _, _, e', _⟩ := O'.ns; ⟨o, e'⟩
  refine I.write (x := a) (e := dx) (by rw [e]; exact True.intro) (.inr ho) (fun b q hb z => (sb.2 b hb).trans z) hd ?_
  refine ⟨by rw [upd_ne O.ne]; exact ho, ?_, O.ne, O'.obj, _, O'.ns, fun g => ?_, fun g hg => ?_⟩
  · have := length_putF f y fs; omega
  · show RelO ((putF f y fs).lookup g) (if g = f then some u else mA g)
    rw [lookup_putF]
    by_cases q : g = f
    · rw [if_pos q, if_pos q]; exact ry
    · rw [if_neg q, if_neg q]; exact r g
  · by_cases q : g = f
    · rw [q]; exact (keys_putF f y fs).1
    · refine (keys_putF f y fs).2 g (wi g fun z => hg ?_)
      show (if g = f then some u else mA g) = none
      rw [if_neg q]; exact z

/-- a new instance, tracked, without attributes -/
theorem Inv.made (I : Inv X pins σ H s) : Inv X pins σ (upd (upd H s.heap.objs.size (.own (s.heap.objs.size + 1))) (s.heap.objs.size + 1) (.ins C s.heap.objs.size []))
    { s with heap := (s.heap.push PySem.W.emptyDict).push (PySem.W.instObj C s.heap.objs.size) } := by
  have e1 : (s.heap.push PySem.W.emptyDict).get? s.heap.objs.size = some PySem.W.emptyDict := Heap.get?_push_size s.heap rfl
  have e2 : ((s.heap.push PySem.W.emptyDict).push (PySem.W.instObj C s.heap.objs.size)).get? (s.heap.objs.size + 1) = some (PySem.W.instObj C s.heap.objs.size) := by
    have := Heap.get?_push_size (s.heap.push PySem.W.emptyDict) (o := PySem.W.instObj C s.heap.objs.size) rfl
    rwa [Heap.size_push] at this
  have e3 : (s.heap.push PySem.W.emptyDict).Ns s.heap.objs.size (fun _ => none) := ⟨PySem.W.emptyDict, #[], _, e1, rfl, (fun e he => absurd he (by simp)), fun _ => rfl⟩
  have I1 := I.laid (a := s.heap.objs.size) (o := .own (s.heap.objs.size + 1)) (h' := s.heap.push PySem.W.emptyDict) (t' := s.toks) (fun b u q => Heap.get?_push_of_some _ q) (Nat.le_refl _) ⟨_, e1⟩
  refine I1.laid (a := s.heap.objs.size + 1) (o := .ins C s.heap.objs.size []) (t' := s.toks) (fun b u q => Heap.get?_push_of_some _ q) (Nat.le_of_eq (Heap.size_push _ _)) ?_
  have ne : s.heap.objs.size ≠ s.heap.objs.size + 1 := Nat.ne_of_lt (Nat.lt_succ_self _)
  refine ⟨by rw [upd_ne ne, upd_same], Nat.zero_le _, ne, e2, fun _ => none, (Heap.Ns1.of_empty e3).at fun o q => Heap.get?_push_of_some _ q, fun _ => True.intro, fun y hy => absurd rfl hy⟩

/-- e.f where nothing but the object is asked: through attributeBase (super) and the last hold -/
theorem attr_of {prog : Program} {w : World} {env : Env} {e : Expr} {f : Str} {pos : Pos} {s : Shared} {Q : Value → Shared → Prop} (hb : attributeBase e f env (eval e env) = eval e env)
    (h : wpAny (model prog w) A (eval e env) (fun o s₁ => wpAny (model prog w) A (getAttr o f true) Q E s₁) E s) : wpAny (model prog w) A (eval (.Attribute e f pos) env) Q E s :=
  Attribute_any_ h (by rw [arm_eval_Attribute, hb])
end

/-! ### readings and rules -/
/-- e.f, an attribute of the instance -/
def tFld (K : PySem.W.Frag) (ta : TE) (f : Str) : TE := fun σ H Q => ta σ H fun x H1 => ∃ a C dx fs v, x = .ref a ∧ H1 a = some (.ins C dx fs) ∧ Cls K C ∧ NoAttr K C f ∧ fs.lookup f = some v ∧ Q v H1
/-- e.f, a constant of the class -/
def tCon (K : PySem.W.Frag) (ta : TE) (f : Str) : TE := fun σ H Q => ta σ H fun x H1 => ∃ a C dx fs v u, x = .ref a ∧ H1 a = some (.ins C dx fs) ∧ Cls K C ∧ Con K C f v u ∧ fs.lookup f = none ∧ Q v H1
/-- e.f = value -/
def sFld (K : PySem.W.Frag) (ta tv : TE) (f : Str) : TS := fun D σ H => tv σ H fun y H1 => ta σ H1 fun x H2 => ∃ a C dx fs, x = .ref a ∧ H2 a = some (.ins C dx fs) ∧ Cls K C ∧ NoAttr K C f ∧ fs.length < 1000 ∧
  D.nx σ (upd H2 a (.ins C dx (putF f y fs)))
/-- an augmented operator on two values -/
def InOp (X : Cx) (op : Operator) (rd : V → V → Hp → VK → Prop) : Prop :=
  ∀ (pins : List (Addr × Obj)) (s : Shared) (σ : St) (H : Hp) (x y : V) (u v : Value) (Q : VK), Inv X pins σ H s → RelV x u → RelV y v → rd x y H Q → wpAny (model X.prog X.w) X.A (inplaceOp op u v) (EP X pins σ Q) X.xe s
/-- e.f op= value -/
def sFldAug (K : PySem.W.Frag) (ta tv : TE) (rd : V → V → Hp → VK → Prop) (f : Str) : TS := fun D σ H => ta σ H fun x H1 => ∃ a C dx fs v, x = .ref a ∧ H1 a = some (.ins C dx fs) ∧ Cls K C ∧ NoAttr K C f ∧ fs.lookup f = some v ∧
  tv σ H1 fun y H2 => rd v y H2 fun z H3 => ∃ dx' fs', H3 a = some (.ins C dx' fs') ∧ fs'.length < 1000 ∧ D.nx σ (upd H3 a (.ins C dx' (putF f z fs')))

section
variable {X : Cx} {o e value : Expr} {f : Str} {pos pos' tpos : Pos} {ta tv : TE}
theorem pe_fld (he : PE X e ta) (hb : attributeBase e f X.env (eval e X.env) = eval e X.env) : PE X (.Attribute e f pos) (tFld X.K ta f) := by
  intro pins s σ H Q I h
  refine attr_of hb (thn (he pins s σ H _ I h) fun u s1 ⟨x, H1, I1, rx, a, C, dx, fs, v, ex, ea, c, n, l, q⟩ => ?_)
  subst ex
  obtain rfl : u = Value.ref a := rx
  exact getattr_ok I1 ea c n l fun u' s2 I2 ru => ⟨v, H1, I2, ru, q⟩
theorem pe_con (he : PE X e ta) (hb : attributeBase e f X.env (eval e X.env) = eval e X.env) : PE X (.Attribute e f pos) (tCon X.K ta f) := by
  intro pins s σ H Q I h
  refine attr_of hb (thn (he pins s σ H _ I h) fun u s1 ⟨x, H1, I1, rx, a, C, dx, fs, v, u0, ex, ea, c, k, l, q⟩ => ?_)
  subst ex
  obtain rfl : u = Value.ref a := rx
  exact getcon_ok I1 ea c k l fun s2 I2 => ⟨v, H1, I2, k.rel, q⟩
theorem ps_fld (ha : PE X o ta) (hv : PE X value tv) (hs : swapsWith value (some (.Attribute o f pos')) pos.line X.env = pure false) : PS X (.Assign [.Attribute o f pos'] value pos) (sFld X.K ta tv f) := by
  intro pins s σ H D I h
  refine plainObj_wpAny_Assign_Attribute (thn (hv pins s σ H _ I h) fun u s1 ⟨y, H1, I1, ry, q⟩ => thn (ha pins s1 σ H1 _ I1 q) fun ov s2 ⟨x, H2, I2, rx, a, C, dx, fs, ex, ea, c, n, l, q2⟩ => ?_) hs
  subst ex
  obtain rfl : ov = Value.ref a := rx
  exact setattr_ok I2 ea c n l ry fun s3 I3 => ⟨σ, _, I3, q2⟩
theorem ps_fldaug {op : Operator} {rd : V → V → Hp → VK → Prop} (ha : PE X o ta) (hv : PE X value tv) (hop : InOp X op rd) : PS X (.AugAssign (.Attribute o f tpos) op value pos) (sFldAug X.K ta tv rd f) := by
  intro pins s σ H D I h
  refine wpAny_AugAssign_AttributeAny (thn (ha pins s σ H _ I h) fun ov s1 ⟨x, H1, I1, rx, a, C, dx, fs, v, ex, ea, c, n, l, q⟩ => ?_)
  subst ex
  obtain rfl : ov = Value.ref a := rx
  refine getattr_ok I1 ea c n l fun u s2 I2 ru => thn (hv pins s2 σ H1 _ I2 q) fun w3 s3 ⟨y, H2, I3, ry, q3⟩ => thn (hop pins s3 σ H2 v y u w3 _ I3 ru ry q3) fun w4 s4 ⟨z, H3, I4, rz, dx', fs', ea', l', q4⟩ => ?_
  exact setattr_ok I4 ea' c n l' rz fun s5 I5 => ⟨σ, _, I5, q4⟩
def rAdd : V → V → Hp → VK → Prop := fun x y H Q => ∃ i j, x = .int i ∧ y = .int j ∧ Q (.int (i + j)) H
def rSub : V → V → Hp → VK → Prop := fun x y H Q => ∃ i j, x = .int i ∧ y = .int j ∧ Q (.int (i - j)) H
theorem in_add : InOp X .Add rAdd := by
  rintro pins s σ H x y u v Q I rx ry ⟨i, j, rfl, rfl, q⟩
  obtain ⟨t, rfl⟩ := (show ∃ t, u = Value.int i t from rx)
  obtain ⟨t', rfl⟩ := (show ∃ t', v = Value.int j t' from ry)
  exact PyProof.Rows.iadd_int ⟨.int (i + j), H, I.tok _, ⟨_, rfl⟩, q⟩
theorem in_sub : InOp X .Sub rSub := by
  rintro pins s σ H x y u v Q I rx ry ⟨i, j, rfl, rfl, q⟩
  obtain ⟨t, rfl⟩ := (show ∃ t, u = Value.int i t from rx)
  obtain ⟨t', rfl⟩ := (show ∃ t', v = Value.int j t' from ry)
  exact PyProof.Rows.isub_int ⟨.int (i - j), H, I.tok _, ⟨_, rfl⟩, q⟩

/-- what is between an instance and its method: the tree of a method call -/
theorem methcall_of {pl : Sem Bool} {m : Str} {apos : Pos} {args : List Expr} {pins : List (Addr × Obj)} {s : Shared} {σ : St} {H : Hp} {Q : Value → Shared → Prop} {te : TE} (he : PE X e te) (I : Inv X pins σ H s)
    (h : te σ H fun x H1 => ∃ a C dx fs g, x = .ref a ∧ H1 a = some (.ins C dx fs) ∧ Cls X.K C ∧ Meth X.K C m g ∧ fs.lookup m = none ∧
      ∀ s1, Inv X pins σ H1 s1 → wpAny (model X.prog X.w) X.A (callWith pos (.ref g) [.ref a] (backTo pos (starEach args X.env)) (backToKw pos (keywordEach [] X.env))) Q X.xe s1)
    (ht : eval (.Call (.Attribute e m apos) args [] pos) X.env = (do
      let ov ← eval e X.env
      standAt apos.atName
      let (f, first) ← holding [ov] (getMethod ov m pl)
      callWith pos f first (backTo pos (starEach args X.env)) (backToKw pos (keywordEach [] X.env)))) :
    wpAny (model X.prog X.w) X.A (eval (.Call (.Attribute e m apos) args [] pos) X.env) Q X.xe s := by
  refine PySem.W.methodCall_KW (pl := pl) (thn (he pins s σ H _ I h) fun u s1 ⟨x, H1, I1, rx, a, C, dx, fs, g, ex, ea, c, k, l, q⟩ => ?_) ht
  subst ex
  obtain rfl : u = Value.ref a := rx
  exact getmeth_ok I1 ea c k l (q s1 I1)
end

/-! ### isinstance -/
section
variable {X : Cx} {pins : List (Addr × Obj)} {σ : St} {H : Hp} {s : Shared} {A : Around} {E : Value → Shared → Prop} {Q : Value → Shared → Prop} {c : Value} {b : Bool}
/-- the type of a value, as the fragment's deciders take it; for an instance its class -/
inductive TyOf (K : PySem.W.Frag) (H : Hp) : V → Value → Prop where
  | non : TyOf K H .non (.type "NoneType")
  | bl (x : Bool) : TyOf K H (.bl x) (.type "bool")
  | int (i : Int) : TyOf K H (.int i) (.type "int")
  | str (x : Str) : TyOf K H (.str x) (.type "str")
  | flt (x : UInt64) : TyOf K H (.flt x) (.type "float")
  | lst {a : Addr} {xs : List V} (e : H a = some (.lst xs)) : TyOf K H (.ref a) (.type "list")
  | frz {a : Addr} {o : Obj} {xs : List V} (e : H a = some (.frz o (.lst xs))) : TyOf K H (.ref a) (.type "list")
  | tup {a : Addr} {xs : List V} (e : H a = some (.tup xs)) : TyOf K H (.ref a) (.type "tuple")
  | dK {a : Addr} {kvs : List (Key × V)} (e : H a = some (.dK kvs)) : TyOf K H (.ref a) (.type "dict")
  | dT {a : Addr} {kvs : List (List Key × V)} (e : H a = some (.dT kvs)) : TyOf K H (.ref a) (.type "dict")
  | ins {a C dx : Addr} {fs : List (Str × V)} (e : H a = some (.ins C dx fs)) (cl : Cls K C) (ha : PySem.W.findIn K (.ref C) "__class__" = some (some (.builtin "object.__class__")))
      (hn : PySem.W.specialIn K (.builtin "object.__class__") "__get__" = some (some (.builtin "getset_descriptor.__get__"))) (htk : PySem.W.takesIn K (.builtin "object.__class__") = some true)
      (hm : PySem.W.mroIn K C (.type "object") = some true) : TyOf K H (.ref a) (.ref C)
/-- isinstance(x, c) for one class c, a built-in or an own one: kitOne's answer -/
theorem isinst_ok {x : V} {u t : Value} (I : Inv X pins σ H s) (rx : RelV x u) (ty : TyOf X.K H x t) (e : PySem.W.kitOne X.K t c = some b) (h : ∀ tk, Q (.bool b) { s with toks := tk }) :
    wpAny (model X.prog X.w) A (call (.builtin "isinstance") [u, c]) Q E s := by
  cases ty with
  | non => cases (show u = Value.none from rx); exact PySem.W.kia_one PySem.W.kitx_none I.kIn True.intro e (fun z => nomatch z) h
  | bl y => cases (show u = Value.bool y from rx); exact PySem.W.kia_one PySem.W.kitx_bool I.kIn True.intro e (fun z => nomatch z) h
  | int i => obtain ⟨t, q⟩ := (show ∃ t, u = Value.int i t from rx); cases q; exact PySem.W.kia_one PySem.W.kitx_int I.kIn True.intro e (fun z => nomatch z) h
  | str y => obtain ⟨t, q⟩ := (show ∃ t, u = Value.str y t from rx); cases q; exact PySem.W.kia_one PySem.W.kitx_str I.kIn True.intro e (fun z => nomatch z) h
  | flt y => obtain ⟨t, q⟩ := (show ∃ t, u = Value.float y t from rx); cases q; exact PySem.W.kia_one PySem.W.kitx_float I.kIn True.intro e (fun z => nomatch z) h
  | @lst a xs ea =>
    cases (show u = Value.ref a from rx)
    obtain ⟨_, _, n, _, h1⟩ := (show ObjOk X.prog X.w H s.heap a (.lst xs) from I.hok a _ ea)
    exact PySem.W.kia_one PySem.W.kitx_list I.kIn ⟨_, h1, rfl⟩ e (fun z => nomatch z) h
  | @frz a ob xs ea =>
    cases (show u = Value.ref a from rx)
    obtain ⟨_, _, _, n, _, h1⟩ := (show ObjOk X.prog X.w H s.heap a (.frz ob (.lst xs)) from I.hok a _ ea)
    exact PySem.W.kia_one PySem.W.kitx_list I.kIn ⟨_, h1, rfl⟩ e (fun z => nomatch z) h
  | @tup a xs ea =>
    cases (show u = Value.ref a from rx)
    obtain ⟨_, _, _, p⟩ := (show ObjOk X.prog X.w H s.heap a (.tup xs) from I.hok a _ ea)
    obtain ⟨o, h1, h2, _⟩ := p
    exact PySem.W.kia_one PySem.W.kitx_tuple I.kIn ⟨o, h1, h2⟩ e (fun z => nomatch z) h
  | @dK a kvs ea =>
    cases (show u = Value.ref a from rx)
    obtain ⟨_, _, vs, _, p⟩ := (show ObjOk X.prog X.w H s.heap a (.dK kvs) from I.hok a _ ea)
    obtain ⟨o, es, ep, h1, h2, _⟩ := p
    exact PySem.W.kia_one PySem.W.kitx_dict I.kIn ⟨o, h1, h2.1⟩ e (fun z => nomatch z) h
  | @dT a kvs ea =>
    cases (show u = Value.ref a from rx)
    obtain ⟨_, _, xs, _, o, es, ep, h1, h2, _⟩ := (show ObjOk X.prog X.w H s.heap a (.dT kvs) from I.hok a _ ea)
    exact PySem.W.kia_one PySem.W.kitx_dict I.kIn ⟨o, h1, h2.1⟩ e (fun z => nomatch z) h
  | @ins a C dx fs ea cl ha hn htk hm =>
    cases (show u = Value.ref a from rx)
    obtain ⟨mA, O, _⟩ := ins_get I.hok ea
    obtain ⟨od, J, _⟩ := O.look
    exact PySem.W.kia_one (PySem.W.kitx_own (cl.get _) cl.hd ha hn htk hm) I.kIn J e (fun z => nomatch z) h
end
end L2

namespace L2
open PySem PySem.Spec PyProof.Rows

/-! ### room -/
structure Room (k : Nat) (A : Around) : Prop where
  hd : A.handled = none
  dp : A.depth + 3 * k + 5 < recursionLimit
  un : A.units + 16 * k + 200 < cLine
  gd : A.guards = some []
theorem Room.mono {j k : Nat} {A : Around} (r : Room k A) (h : j ≤ k) : Room j A := ⟨r.hd, by have := r.dp; omega, by have := r.un; omega, r.gd⟩
theorem Room.deeper {k : Nat} {A : Around} (r : Room (k + 1) A) (env : Env) : Room k (A.deeper env) :=
  ⟨r.hd, by have := r.dp; show A.depth + 1 + 3 * k + 5 < _; omega, by have := r.un; show A.units + 3 + 16 * k + 200 < _; omega, r.gd⟩
theorem Room.in1 {k : Nat} {A : Around} (r : Room (k + 1) A) : Room k A.in1 :=
  ⟨r.hd, by have := r.dp; show A.depth + 3 * k + 5 < _; omega, by have := r.un; show A.units + 1 + 16 * k + 200 < _; omega, r.gd⟩
theorem make_depth {A : Around} {C : Addr} {us : List Value} {kw : List (Str × Value)} : (A.under (.builtin "type.__call__" ⟨.ref C :: us, kw⟩)).depth = A.depth + 1 := by
  first | rfl | simp [Around.under, Code.weight, Code.isCreation, Code.isGuard, Code.isCaller, Code.frames, Code.isFrame, guardIds]
theorem make_units {A : Around} {C : Addr} {us : List Value} {kw : List (Str × Value)} : (A.under (.builtin "type.__call__" ⟨.ref C :: us, kw⟩)).units = A.units + 1 := by
  first | rfl | simp [Around.under, Code.cUnits, Code.frames, Code.isFrame]
theorem make_guards {A : Around} {C : Addr} {us : List Value} {kw : List (Str × Value)} : (A.under (.builtin "type.__call__" ⟨.ref C :: us, kw⟩)).guards = A.guards := by
  first | rfl | simp [Around.under, Code.isGuard, guardIds]
theorem Room.make {k : Nat} {A : Around} (r : Room (k + 1) A) (C : Addr) (us : List Value) (kw : List (Str × Value)) : Room k (A.under (.builtin "type.__call__" ⟨.ref C :: us, kw⟩)) :=
  ⟨r.hd, by have := r.dp; rw [make_depth]; omega, by have := r.un; rw [make_units]; omega, by rw [make_guards]; exact r.gd⟩
theorem Room.depth {k : Nat} {A : Around} (r : Room k A) : A.depth < recursionLimit := by have := r.dp; omega
theorem Room.units {k : Nat} {A : Around} (r : Room k A) : A.units + 64 < cLine := by have := r.un; omega
theorem Room.units0 {k : Nat} {A : Around} (r : Room k A) : A.units < cLine := by have := r.un; omega

/-! ### argument lists and displays -/
def tNil : TA := fun _ H Q => Q [] H
def tCons (ta : TE) (tr : TA) : TA := fun σ H Q => ta σ H fun x H1 => tr σ H1 fun xs H2 => Q (x :: xs) H2
section
variable {X : Cx} {e : Expr} {es : List Expr} {te : TE} {t : TA} {pos : Pos}
theorem pa_nil : PA X [] tNil := fun _ _ _ _ H Q I h => Calls.spliced_nil ⟨[], H, I, .nil, h⟩
theorem pa_cons (ha : PE X e te) (hr : PA X es t) (hs : starEach (e :: es) X.env = (false, eval e X.env) :: starEach es X.env := by rfl) : PA X (e :: es) (tCons te t) := by
  intro pos pins s σ H Q I h
  rw [hs]
  show wpAny _ _ (spliced ((false, eval e X.env) :: backTo pos (starEach es X.env))) _ _ s
  refine Calls.spliced_cons (thn (ha pins s σ H _ I h) fun u s1 ⟨x, H1, I1, r1, q1⟩ => ?_)
  exact thn (hr pos pins s1 σ H1 _ I1 q1) fun us s2 ⟨xs, H2, I2, r2, q2⟩ => ⟨x :: xs, H2, I2, .cons r1 r2, q2⟩

/-- a tuple, a list of written items -/
def tTup (t : TA) : TE := fun σ H Q => t σ H fun xs H1 => xs.length ≤ sizeLine ∧ ∀ p, H1 p = none → Q (.ref p) (upd H1 p (.tup xs))
def tLst (t : TA) : TE := fun σ H Q => t σ H fun xs H1 => xs.length ≤ sizeLine ∧ ∀ p, H1 p = none → Q (.ref p) (upd H1 p (.lst xs))
theorem pe_tup {x1} (h : PA X es t) : PE X (.Tuple es x1 pos) (tTup t) := by
  intro pins s σ H Q I hq
  refine wpAny_Tuple_spliced (thn (h pos pins s σ H _ I hq) fun us s1 ⟨xs, H1, I1, r, z, q⟩ => ⟨by rw [← r.length]; exact z, ?_⟩)
  have hf : H1 s1.heap.objs.size = none := I1.hok.fresh (Nat.le_refl _)
  refine ⟨.ref s1.heap.objs.size, upd H1 s1.heap.objs.size (.tup xs), I1.laid (t' := s1.toks) (fun b u e => Heap.get?_push_of_some _ e) (Nat.le_refl _) ?_, rfl, q _ hf⟩
  exact ⟨z, us, r, ⟨_, Heap.get?_push_size _ rfl, rfl, _, rfl⟩⟩
theorem pe_lst (h : PA X es t) : PE X (.List es pos) (tLst t) := by
  intro pins s σ H Q I hq
  refine wpAny_List_spliced (thn (h pos pins s σ H _ I hq) fun us s1 ⟨xs, H1, I1, r, z, q⟩ => ⟨by rw [← r.length]; exact z, ?_⟩)
  have hf : H1 s1.heap.objs.size = none := I1.hok.fresh (Nat.le_refl _)
  refine ⟨.ref s1.heap.objs.size, upd H1 s1.heap.objs.size (.lst xs), I1.laid (t' := s1.toks) (fun b u e => Heap.get?_push_of_some _ e) (Nat.le_refl _) ?_, rfl, q _ hf⟩
  exact ⟨z, us, 0, r, Heap.get?_push_size _ rfl⟩
end

/-! ### what a def promises -/
/-- a def's promise: the bound arguments in the parameters' order, the heap, the wanted end, the wanted exception -/
abbrev Sp := List V → Hp → VK → XK → Prop
/-- how an exception lies behind a call (file 08 gives it): the callers' frames, abstract heap and state ahead of the call, the wish, the exception, the state -/
abbrev CXT := List Env → Hp → Shared → XK → Value → Shared → Prop

/-- the state at a call -/
structure Env0 (P : Program) (w : World) (K : PySem.W.Frag) (mg : Str → Option Value) (base : Heap) (A : Around) (outer : List Env) (s : Shared) (H : Hp) : Prop where
  frames : A.frames = some outer
  mod : Mod K mg base
  bs : ∀ b o, base.get? b = some o → s.heap.get? b = some o ∧ H b = none
  bsz : base.objs.size ≤ s.heap.objs.size
  funs : s.heap.FunFrames base outer
  frf : ∀ b ∈ frs outer, H b = none
  hok : HOk P w H s.heap
  bare : AllBare s.gens
/-- a call's end -/
def CE (outer : List Env) (P : Program) (w : World) (H : Hp) (s : Shared) (Q : VK) (u : Value) (s' : Shared) : Prop :=
  ∃ v H', s'.os = s.os ∧ AllBare s'.gens ∧ Un (frs outer) [] H H' s.heap s'.heap ∧ HOk P w H' s'.heap ∧ RelV v u ∧ Q v H'
def CR (CX : CXT) (outer : List Env) (P : Program) (w : World) (H : Hp) (s : Shared) (Q : VK) (E : XK) (r : Result) (s' : Shared) : Prop :=
  match r with
  | .ok (.ret u) => CE outer P w H s Q u s'
  | .ok _ => False
  | .error e => CX outer H s E e s'
structure FnOk (P : Program) (w : World) (K : PySem.W.Frag) (mg : Str → Option Value) (base : Heap) (CX : CXT) (k : Nat) (f : Addr) (fd : FuncData) (ps : List Str) (sp : Sp) : Prop where
  len : ∀ vs H Q E, sp vs H Q E → vs.length = ps.length
  run : ∀ (A : Around) (outer : List Env) (s : Shared) (H : Hp) (args : Args) (us : List Value) (vs : List V) (Q : VK) (E : XK), Room k A → Env0 P w K mg base A outer s H → BindsTo s fd args (ps.zip us) → Vals vs us → sp vs H Q E →
    codeAny (model P w) A (.call (.ref f) args) (CR CX outer P w H s Q E) s
theorem FnOk.mono {P : Program} {w : World} {K : PySem.W.Frag} {mg : Str → Option Value} {base : Heap} {CX : CXT} {j k : Nat} {f : Addr} {fd : FuncData} {ps : List Str} {sp : Sp} (F : FnOk P w K mg base CX j f fd ps sp) (h : j ≤ k) :
    FnOk P w K mg base CX k f fd ps sp := ⟨F.len, fun A outer s H args us vs Q E hr => F.run A outer s H args us vs Q E (hr.mono h)⟩
/-- a weaker promise -/
theorem FnOk.imp {P : Program} {w : World} {K : PySem.W.Frag} {mg : Str → Option Value} {base : Heap} {CX : CXT} {k : Nat} {f : Addr} {fd : FuncData} {ps : List Str} {sp sp' : Sp} (F : FnOk P w K mg base CX k f fd ps sp)
    (h : ∀ vs H Q E, sp' vs H Q E → sp vs H Q E) : FnOk P w K mg base CX k f fd ps sp' :=
  ⟨fun vs H Q E q => F.len vs H Q E (h _ _ _ _ q), fun A outer s H args us vs Q E hr he hb hv hs => F.run A outer s H args us vs Q E hr he hb hv (h _ _ _ _ hs)⟩

theorem Env0.make {P : Program} {w : World} {K : PySem.W.Frag} {mg : Str → Option Value} {base : Heap} {A : Around} {outer : List Env} {s : Shared} {H : Hp} (e : Env0 P w K mg base A outer s H) (C : Addr) (us : List Value) (kw : List (Str × Value)) :
    Env0 P w K mg base (A.under (.builtin "type.__call__" ⟨.ref C :: us, kw⟩)) outer s H := ⟨by first | exact e.frames | (simpa [Around.under, Code.envs, Code.isFrame, pushEnvs] using e.frames), e.mod, e.bs, e.bsz, e.funs, e.frf, e.hok, e.bare⟩
theorem Env0.in1 {P : Program} {w : World} {K : PySem.W.Frag} {mg : Str → Option Value} {base : Heap} {A : Around} {outer : List Env} {s : Shared} {H : Hp} (e : Env0 P w K mg base A outer s H) :
    Env0 P w K mg base A.in1 outer s H := ⟨e.frames, e.mod, e.bs, e.bsz, e.funs, e.frf, e.hok, e.bare⟩

section
variable {X : Cx} {pins : List (Addr × Obj)} {σ : St} {H : Hp} {s s' : Shared}
/-- from a body: what a callee wants -/
theorem Inv.env0 (I : Inv X pins σ H s) : Env0 X.prog X.w X.K X.mg X.base X.A X.stack s H :=
  ⟨I.ok.frames, I.ok.mod, I.bs, Nat.le_trans I.ok.bsz I.sz, I.stack, I.stkFree, I.hok, I.bare⟩
/-- behind a call -/
theorem Inv.after {Q : VK} {u : Value} (I : Inv X pins σ H s) (h : CE X.stack X.prog X.w H s Q u s') : EP X pins σ Q u s' := by
  obtain ⟨v, H', os, bare, un, hok, r, q⟩ := h
  obtain ⟨hh, g, d, t, os'⟩ := s'
  obtain rfl : os' = s.os := os
  exact ⟨v, H', I.call (h' := hh) (g' := g) (d' := d) (t' := t) (ch := []) un hok bare (fun b z => absurd z (by simp)), r, q⟩
end

/-! ### calls -/
/-- f(..): the written arguments, then the defaults dvs; E: what is wanted of an exception -/
def tCall (sp : Sp) (dvs : List V) (E : XK) (t : TA) : TE := fun σ H Q => t σ H fun vs H1 => sp (vs ++ dvs) H1 Q E
/-- o.m(..) of an instance of the class at C -/
def tMeth (C : Addr) (m : Str) (sp : Sp) (dvs : List V) (E : XK) (ta : TE) (t : TA) : TE := fun σ H Q => ta σ H fun x H1 => ∃ a dx fs, x = .ref a ∧ H1 a = some (.ins C dx fs) ∧ fs.lookup m = none ∧
  t σ H1 fun vs H2 => sp (x :: (vs ++ dvs)) H2 Q E
/-- C(..): a new instance and its dict, then __init__ -/
def tMake (C : Addr) (sp : Sp) (dvs : List V) (E : XK) (t : TA) : TE := fun σ H Q => t σ H fun vs H1 => ∀ x dx, H1 x = none → H1 dx = none → dx ≠ x →
  sp (.ref x :: (vs ++ dvs)) (upd (upd H1 dx (.own x)) x (.ins C dx [])) (fun v H2 => v = .non ∧ Q (.ref x) H2) E

/-- how the parameters are bound: us the positional arguments, kw the keywords' values by name, ds the defaults that fill up -/
def Binds (K : PySem.W.Frag) (fd : FuncData) (ps : List Str) (ds : List Value) : Prop :=
  ∀ (s : Shared) (us : List Value), K.In s.heap → (us ++ ds).length = ps.length → BindsTo s fd ⟨us, []⟩ (ps.zip (us ++ ds))
/-- every parameter is given -/
theorem Binds.all {K : PySem.W.Frag} {fd : FuncData} {ps : List Str} (h : ∀ us : List Value, us.length = ps.length → bindArgs fd ⟨us, []⟩ = pure (ps.zip us)) : Binds K fd ps [] := fun s us _ hl => by
  rw [List.append_nil] at hl ⊢
  exact .of_eq (h us hl)

/-- an exception of a callee reaches what this body wants of exceptions -/
def Passes (CX : CXT) (X : Cx) (E : XK) : Prop := ∀ (pins : List (Addr × Obj)) (σ : St) (H : Hp) (s : Shared) (e : Value) (s' : Shared), Inv X pins σ H s → CX X.stack H s E e s' → X.xe e s'

section
variable {X : Cx} {CX : CXT} {k : Nat} {f C : Addr} {fd : FuncData} {ps : List Str} {sp : Sp} {dvs : List V} {ds : List Value} {E : XK} {x m : Str} {p pos apos : Pos} {e o : Expr} {es : List Expr} {ta : TE} {t : TA}

/-- the callee runs -/
theorem run_fn {pins : List (Addr × Obj)} {σ : St} {H : Hp} {s : Shared} {Q : VK} {us : List Value} {vs : List V} (F : FnOk X.prog X.w X.K X.mg X.base CX k f fd ps sp) (hr : Room k X.A) (hb : Binds X.K fd ps ds) (hd : Vals dvs ds) (hx : Passes CX X E)
    (I : Inv X pins σ H s) (r : Vals vs us) (h : sp (vs ++ dvs) H Q E) : wpAny (model X.prog X.w) X.A (call (.ref f) us) (EP X pins σ Q) X.xe s := by
  have r2 : Vals (vs ++ dvs) (us ++ ds) := r.append hd
  have hl : (us ++ ds).length = ps.length := by rw [← r2.length]; exact F.len _ _ _ _ h
  refine wpAny_call (codeAny_mono (F.run X.A X.stack s H ⟨us, []⟩ (us ++ ds) (vs ++ dvs) Q E hr I.env0 (hb s us I.kIn hl) r2 h) fun r s' hq => ?_)
  cases r with
  | error e => exact hx pins σ H s e s' I hq
  | ok fl =>
    cases fl with
    | ret u => exact I.after hq
    | next => exact False.elim hq
    | brk => exact False.elim hq
    | cont => exact False.elim hq

theorem pe_call (F : FnOk X.prog X.w X.K X.mg X.base CX k f fd ps sp) (hr : Room k X.A) (hg : Gl X x) (hm : X.mg x = some (.ref f)) (hk : PySem.W.keepIn X.K (.ref f) = true) (hb : Binds X.K fd ps ds) (hd : Vals dvs ds) (hx : Passes CX X E)
    (ha : PA X (e :: es) t) (hdb : (x == ("__debug__" : Str)) = false := by decide) (he : starEach (e :: es) X.env = (false, eval e X.env) :: starEach es X.env := by rfl) (hpl : (backTo pos (starEach es X.env)).any (·.1) = false := by rfl) :
    PE X (.Call (.Name x p) (e :: es) [] pos) (tCall sp dvs E t) := by
  intro pins s σ H Q I h
  refine wpAny_Call_Name_kw (ld_glob I hg hm ?_ hdb)
  refine PySem.W.callWith_K (h₀ := X.base) I.ok.mod.kin hk (thn (ha pos pins s σ H _ I h) fun us s1 ⟨vs, H1, I1, r, q⟩ => ⟨I1.kIn, ?_⟩) he hpl
  exact run_fn F hr hb hd hx I1 r q
theorem pe_call0 (F : FnOk X.prog X.w X.K X.mg X.base CX k f fd ps sp) (hr : Room k X.A) (hg : Gl X x) (hm : X.mg x = some (.ref f)) (hk : PySem.W.keepIn X.K (.ref f) = true) (hb : Binds X.K fd ps ds) (hd : Vals dvs ds) (hx : Passes CX X E)
    (hdb : (x == ("__debug__" : Str)) = false := by decide) : PE X (.Call (.Name x p) [] [] pos) (tCall sp dvs E tNil) := by
  intro pins s σ H Q I h
  refine wpAny_Call_Name_kw (ld_glob I hg hm ?_ hdb)
  exact PySem.W.callWith_K0 I.kIn hk (run_fn (us := []) F hr hb hd hx I .nil h)

/-- o.m(e, ..) -/
theorem pe_meth {pl : Sem Bool} (he : PE X o ta) (c : Cls X.K C) (hm : Meth X.K C m f) (F : FnOk X.prog X.w X.K X.mg X.base CX k f fd ps sp) (hr : Room k X.A) (hb : Binds X.K fd ps ds) (hd : Vals dvs ds) (hx : Passes CX X E) (ha : PA X (e :: es) t)
    (hst : starEach (e :: es) X.env = (false, eval e X.env) :: starEach es X.env := by rfl) (hpl : (backTo pos (starEach es X.env)).any (·.1) = false := by rfl)
    (ht : eval (.Call (.Attribute o m apos) (e :: es) [] pos) X.env = (do
      let ov ← eval o X.env
      standAt apos.atName
      let (f, first) ← holding [ov] (getMethod ov m pl)
      callWith pos f first (backTo pos (starEach (e :: es) X.env)) (backToKw pos (keywordEach [] X.env))) := by rfl) :
    PE X (.Call (.Attribute o m apos) (e :: es) [] pos) (tMeth C m sp dvs E ta t) := by
  intro pins s σ H Q I h
  refine PySem.W.methodCall_KW (pl := pl) (thn (he pins s σ H _ I h) fun u s1 ⟨x, H1, I1, rx, a, dx, fs, ex, ea, l, q⟩ => ?_) ht
  subst ex
  obtain rfl : u = Value.ref a := rx
  refine getmeth_ok I1 ea c hm l ?_
  refine PySem.W.callWith_K (first := [.ref a]) (h₀ := X.base) I.ok.mod.kin hm.kp (thn (ha pos pins s1 σ H1 _ I1 q) fun us s2 ⟨vs, H2, I2, r, q2⟩ => ⟨I2.kIn, ?_⟩) hst hpl
  exact run_fn (us := .ref a :: us) (vs := .ref a :: vs) F hr hb hd hx I2 (.cons rfl r) q2
/-- o.m() -/
theorem pe_meth0 {pl : Sem Bool} (he : PE X o ta) (c : Cls X.K C) (hm : Meth X.K C m f) (F : FnOk X.prog X.w X.K X.mg X.base CX k f fd ps sp) (hr : Room k X.A) (hb : Binds X.K fd ps ds) (hd : Vals dvs ds) (hx : Passes CX X E)
    (ht : eval (.Call (.Attribute o m apos) [] [] pos) X.env = (do
      let ov ← eval o X.env
      standAt apos.atName
      let (f, first) ← holding [ov] (getMethod ov m pl)
      callWith pos f first (backTo pos (starEach [] X.env)) (backToKw pos (keywordEach [] X.env))) := by rfl) :
    PE X (.Call (.Attribute o m apos) [] [] pos) (tMeth C m sp dvs E ta tNil) := by
  intro pins s σ H Q I h
  refine PySem.W.methodCall_KW (pl := pl) (thn (he pins s σ H _ I h) fun u s1 ⟨x, H1, I1, rx, a, dx, fs, ex, ea, l, q⟩ => ?_) ht
  subst ex
  obtain rfl : u = Value.ref a := rx
  refine getmeth_ok I1 ea c hm l ?_
  exact PySem.W.callWith_K0 (first := [.ref a]) I1.kIn hm.kp (run_fn (us := [.ref a]) (vs := [.ref a]) F hr hb hd hx I1 (.cons rfl .nil) q)

/-- what a class must have to be made -/
structure Mk (K : PySem.W.Frag) (C f : Addr) : Prop where
  makes : PySem.W.makesIn K C = true
  init : PySem.W.findIn K (.ref C) "__init__" = some (some (.ref f))
  fn : PySem.W.isFn K (.ref f) = true
  kp : PySem.W.keepIn K (.ref C) = true

theorem run_make {pins : List (Addr × Obj)} {σ : St} {H : Hp} {s : Shared} {Q : VK} {us : List Value} {vs : List V} (M : Mk X.K C f) (F : FnOk X.prog X.w X.K X.mg X.base CX k f fd ps sp) (hr : Room (k + 1) X.A) (hb : Binds X.K fd ps ds) (hd : Vals dvs ds)
    (hx : Passes CX X E) (I : Inv X pins σ H s) (r : Vals vs us)
    (h : ∀ x dx, H x = none → H dx = none → dx ≠ x → sp (.ref x :: (vs ++ dvs)) (upd (upd H dx (.own x)) x (.ins C dx [])) (fun v H2 => v = .non ∧ Q (.ref x) H2) E) :
    wpAny (model X.prog X.w) X.A (call (.ref C) us) (EP X pins σ Q) X.xe s := by
  have hq := h (s.heap.objs.size + 1) s.heap.objs.size (I.hok.fresh (Nat.le_succ _)) (I.hok.fresh (Nat.le_refl _)) (Nat.ne_of_lt (Nat.lt_succ_self _))
  have I2 := Inv.made (C := C) I
  have r2 : Vals (V.ref (s.heap.objs.size + 1) :: (vs ++ dvs)) (Value.ref (s.heap.objs.size + 1) :: (us ++ ds)) := .cons rfl (r.append hd)
  have hl : (Value.ref (s.heap.objs.size + 1) :: us ++ ds).length = ps.length := by
    have e := r2.length
    rw [F.len _ _ _ _ hq] at e
    exact e.symm
  refine wpAny_call (make_map (f := f) I.kIn M.makes M.init (beq_iff_eq.mp M.fn) (codeAny_mono (F.run _ X.stack _ _ ⟨Value.ref (s.heap.objs.size + 1) :: us, []⟩ (Value.ref (s.heap.objs.size + 1) :: (us ++ ds)) _ _ E (hr.make C us [])
    (I2.env0.make C us []) (hb _ (Value.ref (s.heap.objs.size + 1) :: us) I2.kIn hl) r2 hq) fun r s' hq' => ?_))
  cases r with
  | error e => exact hx pins σ _ _ e s' I2 hq'
  | ok fl =>
    cases fl with
    | ret u =>
      obtain ⟨v, H', I3, rv, ev, q3⟩ := I2.after hq'
      subst ev
      exact ⟨rv, ⟨V.ref (s.heap.objs.size + 1), H', I3, rfl, q3⟩⟩
    | next => exact False.elim hq'
    | brk => exact False.elim hq'
    | cont => exact False.elim hq'
theorem pe_make (M : Mk X.K C f) (F : FnOk X.prog X.w X.K X.mg X.base CX k f fd ps sp) (hr : Room (k + 1) X.A) (hg : Gl X x) (hm : X.mg x = some (.ref C)) (hb : Binds X.K fd ps ds) (hd : Vals dvs ds) (hx : Passes CX X E)
    (ha : PA X (e :: es) t) (hdb : (x == ("__debug__" : Str)) = false := by decide) (he : starEach (e :: es) X.env = (false, eval e X.env) :: starEach es X.env := by rfl) (hpl : (backTo pos (starEach es X.env)).any (·.1) = false := by rfl) :
    PE X (.Call (.Name x p) (e :: es) [] pos) (tMake C sp dvs E t) := by
  intro pins s σ H Q I h
  refine wpAny_Call_Name_kw (ld_glob I hg hm ?_ hdb)
  refine PySem.W.callWith_K (h₀ := X.base) I.ok.mod.kin M.kp (thn (ha pos pins s σ H _ I h) fun us s1 ⟨vs, H1, I1, r, q⟩ => ⟨I1.kIn, ?_⟩) he hpl
  exact run_make M F hr hb hd hx I1 r q
theorem pe_make0 (M : Mk X.K C f) (F : FnOk X.prog X.w X.K X.mg X.base CX k f fd ps sp) (hr : Room (k + 1) X.A) (hg : Gl X x) (hm : X.mg x = some (.ref C)) (hb : Binds X.K fd ps ds) (hd : Vals dvs ds) (hx : Passes CX X E)
    (hdb : (x == ("__debug__" : Str)) = false := by decide) : PE X (.Call (.Name x p) [] [] pos) (tMake C sp dvs E tNil) := by
  intro pins s σ H Q I h
  refine wpAny_Call_Name_kw (ld_glob I hg hm ?_ hdb)
  exact PySem.W.callWith_K0 I.kIn M.kp (run_make (us := []) M F hr hb hd hx I .nil h)
end

/-! ### keywords -/
/-- the values of the keywords, from the left -/
def PK (X : Cx) (kws : List Keyword) (t : TA) : Prop :=
  ∀ (pos : Pos) (pins : List (Addr × Obj)) (s : Shared) (σ : St) (H : Hp) (Q : List V → Hp → Prop), Inv X pins σ H s → t σ H Q → wpAny (model X.prog X.w) X.A (evalAll ((backToKw pos (keywordEach kws X.env)).map (·.2))) (AP X pins σ Q) X.xe s
section
variable {X : Cx} {CX : CXT} {k : Nat} {f C : Addr} {fd : FuncData} {ps ks : List Str} {sp : Sp} {E : XK} {x m : Str} {p pos apos kpos : Pos} {e o : Expr} {es : List Expr} {kws : List Keyword} {te ta : TE} {t tk : TA} {nm : Option Str}
theorem pk_nil : PK X [] tNil := fun _ _ _ _ H Q I h => wpAny_evalAll_nil ⟨[], H, I, .nil, h⟩
theorem pk_cons (ha : PE X e te) (hr : PK X kws t) : PK X (⟨nm, e, kpos⟩ :: kws) (tCons te t) := by
  intro pos pins s σ H Q I h
  show wpAny _ _ (evalAll ((do let v ← eval e X.env; standAt pos; pure v) :: (backToKw pos (keywordEach kws X.env)).map (·.2))) _ _ s
  refine wpAny_evalAll_cons (wpAny_bind (thn (ha pins s σ H _ I h) fun u s1 ⟨x, H1, I1, r1, q1⟩ => wpAny_bind (wpAny_standAt (wpAny_pure ?_))))
  exact thn (hr pos pins s1 σ H1 _ I1 q1) fun us s2 ⟨xs, H2, I2, r2, q2⟩ => ⟨x :: xs, H2, I2, .cons r1 r2, q2⟩

/-- how a call with keywords binds: g puts the positional values us and the keywords' values ws (names ks) in the parameters' order, defaults among them -/
structure KBinds (K : PySem.W.Frag) (fd : FuncData) (ps ks : List Str) (g : List Value → List Value → List Value) (gV : List V → List V → List V) : Prop where
  to : ∀ (s : Shared) (us ws : List Value), K.In s.heap → (g us ws).length = ps.length → BindsTo s fd ⟨us, ks.zip ws⟩ (ps.zip (g us ws))
  rel : ∀ {vs : List V} {us : List Value} {zs : List V} {ws : List Value}, Vals vs us → Vals zs ws → Vals (gV vs zs) (g us ws)
def tCallK (sp : Sp) (gV : List V → List V → List V) (E : XK) (t tk : TA) : TE := fun σ H Q => t σ H fun vs H1 => tk σ H1 fun zs H2 => sp (gV vs zs) H2 Q E
variable {g : List Value → List Value → List Value} {gV : List V → List V → List V}
theorem run_fnk {pins : List (Addr × Obj)} {σ : St} {H : Hp} {s : Shared} {Q : VK} {us ws : List Value} {vs zs : List V} (F : FnOk X.prog X.w X.K X.mg X.base CX k f fd ps sp) (hr : Room k X.A) (hb : KBinds X.K fd ps ks g gV) (hx : Passes CX X E)
    (I : Inv X pins σ H s) (r : Vals vs us) (rz : Vals zs ws) (h : sp (gV vs zs) H Q E) : wpAny (model X.prog X.w) X.A (call (.ref f) us (ks.zip ws)) (EP X pins σ Q) X.xe s := by
  have r2 := hb.rel r rz
  have hl : (g us ws).length = ps.length := by rw [← r2.length]; exact F.len _ _ _ _ h
  refine wpAny_call (codeAny_mono (F.run X.A X.stack s H ⟨us, ks.zip ws⟩ (g us ws) (gV vs zs) Q E hr I.env0 (hb.to s us ws I.kIn hl) r2 h) fun r s' hq => ?_)
  cases r with
  | error e => exact hx pins σ H s e s' I hq
  | ok fl =>
    cases fl with
    | ret u => exact I.after hq
    | next => exact False.elim hq
    | brk => exact False.elim hq
    | cont => exact False.elim hq
/-- f(e, .., k = v, ..) -/
theorem pe_callK (F : FnOk X.prog X.w X.K X.mg X.base CX k f fd ps sp) (hr : Room k X.A) (hg : Gl X x) (hm : X.mg x = some (.ref f)) (hk : PySem.W.keepIn X.K (.ref f) = true) (hb : KBinds X.K fd ps ks g gV) (hx : Passes CX X E)
    (ha : PA X (e :: es) t) (hkw : PK X kws tk) (hall : (backToKw pos (keywordEach kws X.env)).all (·.1.isSome) = true := by rfl) (hks : (backToKw pos (keywordEach kws X.env)).filterMap (·.1) = ks := by rfl)
    (hdb : (x == ("__debug__" : Str)) = false := by decide) (he : starEach (e :: es) X.env = (false, eval e X.env) :: starEach es X.env := by rfl)
    (hpl : ((backTo pos (starEach (e :: es) X.env)).any (·.1) || (backToKw pos (keywordEach kws X.env)).any (·.1.isNone)) = false := by rfl) :
    PE X (.Call (.Name x p) (e :: es) kws pos) (tCallK sp gV E t tk) := by
  intro pins s σ H Q I h
  refine wpAny_Call_Name_kw (ld_glob I hg hm ?_ hdb)
  refine PySem.W.callWith_KW (h₀ := X.base) I.ok.mod.kin hk hall (thn (ha pos pins s σ H _ I h) fun us s1 ⟨vs, H1, I1, r, q⟩ => ?_) hpl he
  refine thn (hkw pos pins s1 σ H1 _ I1 q) fun ws s2 ⟨zs, H2, I2, rz, q2⟩ => ⟨I2.kIn, ?_⟩
  rw [hks]
  exact run_fnk F hr hb hx I2 r rz q2
end

/-! ### a def's body keeps its promise -/
/-- names: the parameters first -/
structure FnScope (N P : List Str) (sc : Scope) : Prop where
  kind : sc.kind = .function
  co : sc.isCoroutine = false
  gen : sc.isGenerator = false
  nd : N.Nodup
  pre : N.take P.length = P
  par : ∀ x ∈ P, sc.names.lookup x = some .local ∨ sc.names.lookup x = some .cell
  nofree : ∀ y ∈ sc.names, y.2 ≠ .free

theorem bindL_out {kindOf : Str → Option NameKind} {x : Str} : ∀ {binds : List (Str × Value)} {m : Str → Option Value}, (∀ v, (x, v) ∉ binds) → bindL kindOf binds m x = m x
  | [], _, _ => rfl
  | (n, v) :: r, m, h => by
    unfold bindL
    rw [bindL_out fun w hw => h w (List.mem_cons_of_mem _ hw)]
    split
    · have : x ≠ n := by rintro rfl; exact h v List.mem_cons_self
      simp [this]
    · rfl
theorem bindC_out {kindOf : Str → Option NameKind} {x : Str} : ∀ {binds : List (Str × Value)} {m : Str → Option Value}, (∀ v, (x, v) ∉ binds) → bindC kindOf binds m x = m x
  | [], _, _ => rfl
  | (n, v) :: r, m, h => by
    unfold bindC
    rw [bindC_out fun w hw => h w (List.mem_cons_of_mem _ hw)]
    split
    · rfl
    · have : x ≠ n := by rintro rfl; exact h v List.mem_cons_self
      simp [this]
theorem bindL_get {kindOf : Str → Option NameKind} {x : Str} {v : Value} : ∀ {P : List Str} {vs : List Value} {i : Nat} {m : Str → Option Value}, P.Nodup → P[i]? = some x → vs[i]? = some v → kindOf x = some .local →
    bindL kindOf (P.zip vs) m x = some v
  | [], _, _, _, _, h, _, _ => by simp at h
  | _ :: _, [], _, _, _, _, h, _ => by simp at h
  | p :: P, w :: vs, 0, m, nd, h1, h2, hk => by
    simp at h1 h2; subst h1; subst h2
    show bindL kindOf ((p, w) :: P.zip vs) m p = _
    unfold bindL
    rw [bindL_out fun v hv => (List.nodup_cons.mp nd).1 (List.of_mem_zip hv).1, if_pos hk]
    simp
  | p :: P, w :: vs, i + 1, m, nd, h1, h2, hk => by
    show bindL kindOf ((p, w) :: P.zip vs) m x = _
    unfold bindL
    exact bindL_get (i := i) (List.nodup_cons.mp nd).2 (by simpa using h1) (by simpa using h2) hk
theorem bindC_get {kindOf : Str → Option NameKind} {x : Str} {v : Value} : ∀ {P : List Str} {vs : List Value} {i : Nat} {m : Str → Option Value}, P.Nodup → P[i]? = some x → vs[i]? = some v → kindOf x ≠ some .local →
    bindC kindOf (P.zip vs) m x = some v
  | [], _, _, _, _, h, _, _ => by simp at h
  | _ :: _, [], _, _, _, _, h, _ => by simp at h
  | p :: P, w :: vs, 0, m, nd, h1, h2, hk => by
    simp at h1 h2; subst h1; subst h2
    show bindC kindOf ((p, w) :: P.zip vs) m p = _
    unfold bindC
    rw [bindC_out fun v hv => (List.nodup_cons.mp nd).1 (List.of_mem_zip hv).1, if_neg hk]
    simp
  | p :: P, w :: vs, i + 1, m, nd, h1, h2, hk => by
    show bindC kindOf ((p, w) :: P.zip vs) m x = _
    unfold bindC
    exact bindC_get (i := i) (List.nodup_cons.mp nd).2 (by simpa using h1) (by simpa using h2) hk

/-- the names' values at the entry -/
def start (N : List Str) (vs : List V) : St := vs.map some ++ List.replicate (N.length - vs.length) none

/-- the context of a def's body, at its entry; an exception leaves the frame, then lies as CX says -/
def cxOf (CX : CXT) (P : Program) (w : World) (K : PySem.W.Frag) (mg : Str → Option Value) (base : Heap) (N : List Str) (qual : Str) (scope : Scope) (f : Addr) (cd : Value) (A : Around) (outer : List Env) (s : Shared) (H : Hp) (E : XK) : Cx where
  prog := P
  w := w
  K := K
  mg := mg
  base := base
  A := A.deeper (envOfC qual scope s.heap.objs.size f cd)
  N := N
  s₀ := s
  H₀ := H
  env := envOfC qual scope s.heap.objs.size f cd
  outer := outer
  stack := envOfC qual scope s.heap.objs.size f cd :: outer
  ex := []
  calm := true
  fn := fun _ => true
  pn := []
  xe := fun e s' => wpAny (model P w) (A.deeper (envOfC qual scope s.heap.objs.size f cd)) (leaving (envOfC qual scope s.heap.objs.size f cd) e) (fun _ s'' => CX outer H s E e s'') (fun e' s'' => CX outer H s E e' s'') s'

theorem cell_has {sc : Scope} {n : Nat} {x : Str} (h : sc.names.lookup x = some .cell) : ∃ c, (cellsFrom n sc.names []).lookup x = some c := by
  have q := PySem.W.cellsFrom_some sc.names n [] (.inl h)
  exact Option.isSome_iff_exists.mp q

theorem inv_start {CX : CXT} {P : Program} {w : World} {K : PySem.W.Frag} {mg : Str → Option Value} {base : Heap} {N ps : List Str} {qual : Str} {scope : Scope} {f : Addr} {cd : Value} {A : Around} {outer : List Env} {s s1 : Shared} {H : Hp} {E : XK} {us : List Value} {vs : List V}
    (S : FnScope N ps scope) (hd : A.handled = none) (e0 : Env0 P w K mg base A outer s H) (hl : vs.length = ps.length) (r : Vals vs us)
    (x : InCallC s s.heap.objs.size (bindL (envOfC qual scope s.heap.objs.size f cd).kindOf (ps.zip us) fun _ => none) (cellsFrom (s.heap.objs.size + 1) scope.names []) (bindC (envOfC qual scope s.heap.objs.size f cd).kindOf (ps.zip us) fun _ => none) s1) :
    Inv (cxOf CX P w K mg base N qual scope f cd A outer s H E) [] (start N vs) H s1 := by
  have hpl : ps.length ≤ N.length := by have := congrArg List.length S.pre; rw [List.length_take] at this; omega
  obtain ⟨h1, tk, rfl, hk⟩ := x.done
  have noA : ∀ b : Addr, b ∉ (cxOf CX P w K mg base N qual scope f cd A outer s H E).ex := fun b z => absurd (show b ∈ ([] : List Addr) from z) (by simp)
  refine ⟨⟨e0.mod, S.kind, rfl, rfl, Nat.le_refl _, fun y z c h1 h2 => ?_, fun y hy => ?_, fun y c _ h => ?_, fun _ => hd, Around.frames_deeper e0.frames, .inr ⟨rfl, rfl⟩, fun b z => absurd z (noA b), e0.bs, e0.bsz, fun b _ _ => noA b, fun b z => absurd z (noA b), e0.funs, e0.frf⟩,
    rfl, e0.bare, Un.kept hk, ⟨_, x.toInCall.ns, fun i y v h1 h2 h3 => ?_⟩, fun y c h => ⟨_, x.cell y c h⟩, e0.hok.fresh (Nat.le_refl _), fun y c h => ?_, fun p hp => absurd (show p ∈ ([] : List (Addr × Obj)) from hp) (by simp), e0.hok.kept hk, ?_⟩
  · exact name_of_addr x.apart (PySem.mem_of_lookup h1) (PySem.mem_of_lookup h2)
  · have hy : scope.names.lookup y = some .cell ∨ scope.names.lookup y = some .free := hy
    rcases hy with hy | hy
    · exact cell_has hy
    · exact absurd rfl (S.nofree _ (PySem.mem_of_lookup hy))
  · exact Nat.le_of_lt (x.above y c (PySem.mem_of_lookup h))
  · have hi : i < vs.length := by
      unfold start at h2
      by_cases hi : i < vs.length
      · exact hi
      · rw [List.getElem?_append_right (by simpa using hi)] at h2
        rw [List.getElem?_replicate] at h2
        split at h2 <;> cases h2
    have ha : vs[i]? = some v := by
      unfold start at h2
      rw [List.getElem?_append_left (by simpa using hi), List.getElem?_map] at h2
      cases e : vs[i]? with
      | none => rw [e] at h2; cases h2
      | some a => rw [e] at h2; cases h2; rfl
    obtain ⟨u, hu, rv⟩ := r.get ha
    have hp : ps[i]? = some y := by
      rw [← S.pre, List.getElem?_take_of_lt (by omega)]; exact h1
    have ndP : ps.Nodup := by rw [← S.pre]; exact S.nd.sublist (List.take_sublist _ _)
    refine ⟨u, rv, ?_⟩
    rcases S.par y (List.mem_of_getElem? hp) with k | k
    · exact .inl ⟨k, bindL_get ndP hp hu k⟩
    · obtain ⟨c, e⟩ := cell_has (n := s.heap.objs.size + 1) k
      refine .inr ⟨.inl k, c, e, ?_⟩
      have q := x.cell y c e
      rw [bindC_get ndP hp hu (by show scope.names.lookup y ≠ _; rw [k]; decide)] at q
      exact q
  · exact e0.hok.fresh (Nat.le_of_lt (x.above y c (PySem.mem_of_lookup h)))
  · unfold start
    show _ = N.length
    rw [List.length_append, List.length_map, List.length_replicate]
    omega

/-- THE RULE: a def (or a method) of the text, by its body. The body's reading t is chosen for each entry; it is run at the parameters' values -/
theorem fn_of {CX : CXT} {P : Program} {w : World} {K : PySem.W.Frag} {mg : Str → Option Value} {base : Heap} {k : Nat} {f : Addr} {name qual : Str} {params : Arguments} {body : List Stmt} {scope : Scope} {dV kV doc pm cdv ct oc : Value} {an od : Option Addr}
    {osl : Array (Option Value)} {N ps : List Str} {sp : Sp} (lk : K.lookup f = some ⟨oc, od, .func (PySem.W.fnOf name qual params body scope dV kV doc pm an cdv ct), osl⟩) (hcd : PySem.W.codeIn K cdv qual = true) (S : FnScope N ps scope)
    (len : ∀ vs H Q E, sp vs H Q E → vs.length = ps.length)
    (hbody : ∀ (A : Around) (outer : List Env) (s : Shared) (H : Hp) (vs : List V) (Q : VK) (E : XK), Room k (A.deeper (envOfC qual scope s.heap.objs.size f cdv)) → sp vs H Q E →
      ∃ t, PSs (cxOf CX P w K mg base N qual scope f cdv A outer s H E) body t ∧ t { nx := fun _ H' => Q .non H', rt := Q } (start N vs) H) :
    FnOk P w K mg base CX (k + 1) f (PySem.W.fnOf name qual params body scope dV kV doc pm an cdv ct) ps sp := by
  refine ⟨len, fun A outer s H args us vs Q E hr e0 hb r hsp => ?_⟩
  have hl := len _ _ _ _ hsp
  have KX : K.In s.heap := e0.mod.kin.keeps fun b o e => (e0.bs b o e).1
  have lim : s.heap.NoLimit := e0.mod.nolimit.keeps fun b o e => (e0.bs b o e).1
  have hkind : ∀ y ∈ ps.zip us, scope.names.lookup y.1 = some .local ∨ (scope.names.lookup y.1 = some .cell ∧ ((cellsFrom (s.heap.objs.size + 1) scope.names []).lookup y.1).isSome = true) := fun ⟨n, v⟩ hy => by
    rcases S.par n (List.of_mem_zip hy).1 with q | q
    · exact .inl q
    · exact .inr ⟨q, PySem.W.cellsFrom_some _ _ _ (.inl q)⟩
  refine codeAny_call_function hr.depth (KX _ _ lk) rfl S.co S.gen rfl (PySem.W.codeRec_of KX hcd) (hb _ _ _ _ ?_)
  refine wpAny_newFunctionEnv_cells S.kind hkind fun env he s1 x => ?_
  subst he
  refine ⟨lim.keeps x.toInCall.keep, codeAny_func ?_⟩
  obtain ⟨t, ht, hq⟩ := hbody A outer s H vs Q E (hr.deeper _) hsp
  have I : Inv (cxOf CX P w K mg base N qual scope f cdv A outer s H E) [] (start N vs) H s1 := inv_start S hr.hd e0 hl r x
  refine wpAny_mono (ht [] s1 (start N vs) H _ I hq) (fun fl s' hs => ?_) fun e s' hs => hs
  have fin : ∀ {σ' : St} {H' : Hp} {v : V} {u : Value}, Inv (cxOf CX P w K mg base N qual scope f cdv A outer s H E) [] σ' H' s' → RelV v u → Q v H' → CE outer P w H s Q u s' :=
    fun {σ' H' v u} J rv q => ⟨v, H', J.os, J.bare, J.base, J.hok, rv, q⟩
  cases fl with
  | ret u =>
    obtain ⟨v, σ', H', J, rv, q⟩ := hs
    exact fin J rv q
  | next =>
    obtain ⟨σ', H', J, q⟩ := hs
    exact fin (v := V.non) (u := Value.none) J rfl q
  | brk =>
    obtain ⟨_, _, _, q⟩ := hs
    exact False.elim q
  | cont =>
    obtain ⟨_, _, _, q⟩ := hs
    exact False.elim q
end L2

namespace L2
open PySem PySem.Spec PyProof.Rows
section
variable {X : Cx} {x : Str} {p pos : Pos} {e : Expr} {es : List Expr} {t : TA} {id T : String} {r : List V → Hp → VK → Prop}

def tCB (r : List V → Hp → VK → Prop) (t : TA) : TE := fun σ H Q => t σ H fun vs H1 => r vs H1 Q
/-- f(e, ..), f a built-in function -/
theorem pe_callB (hc : CallR X (.builtin id) r) (hg : Gl X x) (hm : X.mg x = none) (hv : bootBuiltins x = some (.builtin id)) (ha : PA X (e :: es) t) (hn : x ≠ "__name__" := by decide) (hdb : (x == ("__debug__" : Str)) = false := by decide)
    (he : starEach (e :: es) X.env = (false, eval e X.env) :: starEach es X.env := by rfl) (hpl : (backTo pos (starEach es X.env)).any (·.1) = false := by rfl) : PE X (.Call (.Name x p) (e :: es) [] pos) (tCB r t) := by
  intro pins s σ H Q I h
  refine wpAny_Call_Name_kw (ld_blt I hg hm hv ?_ hn hdb)
  exact PyProof.Rows.callWith_builtin1 (thn (ha pos pins s σ H _ I h) fun us s1 ⟨vs, H1, I1, r1, q1⟩ => hc pins s1 σ H1 vs us Q I1 r1 q1) he hpl
/-- T(e, ..), T a built-in type -/
theorem pe_callTy (hc : CallR X (.type T) r) (hg : Gl X x) (hm : X.mg x = none) (hv : bootBuiltins x = some (.type T)) (ha : PA X (e :: es) t) (hn : x ≠ "__name__" := by decide) (hdb : (x == ("__debug__" : Str)) = false := by decide)
    (he : starEach (e :: es) X.env = (false, eval e X.env) :: starEach es X.env := by rfl) (hpl : (backTo pos (starEach es X.env)).any (·.1) = false := by rfl) : PE X (.Call (.Name x p) (e :: es) [] pos) (tCB r t) := by
  intro pins s σ H Q I h
  refine wpAny_Call_Name_kw (ld_blt I hg hm hv ?_ hn hdb)
  exact PyProof.Rows.callWith_type1 (thn (ha pos pins s σ H _ I h) fun us s1 ⟨vs, H1, I1, r1, q1⟩ => hc pins s1 σ H1 vs us Q I1 r1 q1) he hpl
/-- T() -/
theorem pe_callTy0 (hc : CallR X (.type T) r) (hg : Gl X x) (hm : X.mg x = none) (hv : bootBuiltins x = some (.type T)) (hn : x ≠ "__name__" := by decide) (hdb : (x == ("__debug__" : Str)) = false := by decide) :
    PE X (.Call (.Name x p) [] [] pos) (tCB r tNil) := by
  intro pins s σ H Q I h
  refine wpAny_Call_Name_kw (ld_blt I hg hm hv ?_ hn hdb)
  exact PyProof.Rows.callWith_type0 (hc pins s σ H [] [] Q I .nil h)
end
end L2

namespace HT
open PySem PyProof.Rows

/-- t < u of tuples of ints -/
def lexLt : List Int → List Int → Bool
  | [], [] => false
  | [], _ :: _ => true
  | _ :: _, [] => false
  | x :: xs, y :: ys => if x = y then lexLt xs ys else decide (x < y)
theorem lexLt_cons (x y : Int) (xs ys : List Int) : lexLt (x :: xs) (y :: ys) = if x = y then lexLt xs ys else decide (x < y) := rfl
theorem lexLt_nil_nil : lexLt [] [] = false := rfl
theorem lexLt_nil_cons (y : Int) (ys : List Int) : lexLt [] (y :: ys) = true := rfl
theorem lexLt_cons_nil (x : Int) (xs : List Int) : lexLt (x :: xs) [] = false := rfl

theorem eqAt_int (A : Around) (s : Shared) (a : Int) (t : Tok) (c : Int) (u : Tok) : ∃ e, SeqAt.EqAt A s (.int a t) (.int c u) e ∧ (e = true ↔ a = c) :=
  ⟨(a == c), SeqAt.EqAt.int_int a t c u, by simp⟩
theorem rcLt_int (A : Around) (s : Shared) (a : Int) (t : Tok) (c : Int) (u : Tok) (prog : Program) (w : World) (E : Value → Shared → Prop) (Q : Value → Shared → Prop) (h : Q (.bool (decide (a < c))) s) :
    wpAny (model prog w) A (richCompare .Lt (.int a t) (.int c u)) Q E s :=
  (PyProof.Rows.lt_int h : wpAny (model prog w) A (compareOp .Lt (.int a t) (.int c u)) Q E s)

section
open PySem.SeqAt
open PySem.AutoSeq1 (wpAny_loadPart')
open PySem.MeetsSeq PySem.MeetsSeq2 PySem.MeetsSeq3

theorem tuple_lt_ints (l b : Addr) (items items2 : Array Value) (n n2 : Nat) (dd dd2 : Option Addr) (sl sl2 : Array (Option Value)) (ns ms : List Int) (hi : IntsAre items.toList ns) (hj : IntsAre items2.toList ms) :
    Meets (Builtin.«tuple.__lt__» ⟨[.ref l, .ref b], []⟩)
      (fun _ R s => s.heap.get? l = some { cls := .type "tuple", dict := dd, data := .seq items n, slots := sl } ∧ s.heap.get? b = some { cls := .type "tuple", dict := dd2, data := .seq items2 n2, slots := sl2 } ∧
        R (.ok (.ret (.bool (lexLt ns ms)))) s) :=
  .of_wp fun prog w A R s h => by
    obtain ⟨hp, g, d, tk, os⟩ := s; obtain ⟨hl, hb, h⟩ := h
    have f2 := AutoSeq1.sub_tuple_tuple
    have z1 : items.size = ns.length := by rw [← hi.length]; simp
    have z2 : items2.size = ms.length := by rw [← hj.length]; simp
    wp_walk using wpAny_loadPart' hl, wpAny_loadPart' hb, wpAny_forIn_list _ (fun rest b s' => b.1 = none ∧ s' = ⟨hp, g, d, tk, os⟩ ∧ ∃ (vs ws : List Value) (ns' ms' : List Int), rest = vs.zip ws ∧
      IntsAre vs ns' ∧ IntsAre ws ms' ∧ ns'.length + items2.size = ms'.length + items.size ∧ R (.ok (.ret (.bool (lexLt ns' ms')))) ⟨hp, g, d, tk, os⟩) _
    case turn =>
      rintro ⟨y, x⟩ rest b s' ⟨hb', rfl, vs, ws, ns', ms', hz, hvi, hwi, hlen, hR⟩
      cases hvi with
      | nil => rw [List.zip_nil_left] at hz; cases hz
      | cons a t hvi' =>
        cases hwi with
        | nil => rw [List.zip_nil_right] at hz; cases hz
        | cons c u hwi' =>
          rw [List.zip_cons_cons] at hz
          injection hz with hyx hrest
          injection hyx with hy hx
          subst hy hx
          rw [lexLt_cons] at hR
          simp only [List.length_cons] at hlen
          obtain ⟨e, he, hiff⟩ := eqAt_int A.in1 ⟨hp, g, d, tk, os⟩ a t c u
          refine wpAny_bind (he prog w _ _ ?_)
          cases e with
          | true =>
            rw [if_pos (hiff.mp rfl)] at hR
            wp_walk
            exact ⟨rfl, rfl, _, _, _, _, hrest, hvi', hwi', by omega, hR⟩
          | false =>
            rw [if_neg (fun q => absurd (hiff.mpr q) Bool.false_ne_true)] at hR
            have hri := rcLt_int A.in1 ⟨hp, g, d, tk, os⟩ a t c u prog w
            wp_walk using hri
            exact ⟨_, rfl, by simpa using hR⟩
    case fin =>
      rintro ⟨b1, b2⟩ s' ⟨hb', rfl, vs, ws, ns', ms', hz, hvi, hwi, hlen, hR⟩
      simp only at hb'
      subst hb'
      have hv : lexLt ns' ms' = decide (items.size < items2.size) := by
        cases hvi with
        | nil =>
          cases hwi with
          | nil =>
            simp only [List.length_nil] at hlen
            rw [lexLt_nil_nil]
            exact (decide_eq_false (by omega)).symm
          | cons c u hw =>
            simp only [List.length_nil, List.length_cons] at hlen
            rw [lexLt_nil_cons]
            exact (decide_eq_true (by omega)).symm
        | cons a t hv =>
          cases hwi with
          | nil =>
            simp only [List.length_nil, List.length_cons] at hlen
            rw [lexLt_cons_nil]
            exact (decide_eq_false (by omega)).symm
          | cons c u hw =>
            rw [List.zip_cons_cons] at hz
            cases hz
      rw [hv] at hR
      wp_walk
      exact ⟨_, rfl, by simpa [Builtin.Tuple.tupleCompareSizes] using hR⟩
    case h =>
      exact ⟨rfl, rfl, items.toList, items2.toList, ns, ms, rfl, hi, hj, by omega, h⟩
end

section
variable {prog : Program} {w : World} {A : Around} {E : Value → Shared → Prop} {s : Shared}

theorem lt_tupInts {l b : Addr} {items items2 : Array Value} {ns ms : List Int} {Q : Value → Shared → Prop} (hl : IsTup s.heap l items) (hb : IsTup s.heap b items2) (hi : IntsAre items.toList ns) (hj : IntsAre items2.toList ms)
    (hu : A.units < cLine) (h : Q (.bool (lexLt ns ms)) s) : wpAny (model prog w) A (compareOp .Lt (.ref l) (.ref b)) Q E s := by
  obtain ⟨⟨cls, dd, data, sl⟩, ho, hc, n, hd⟩ := id hl
  obtain ⟨⟨cls2, dd2, data2, sl2⟩, ho2, hc2, n2, hd2⟩ := id hb
  simp only at hc hd hc2 hd2
  subst hc hd hc2 hd2
  exact richCompare_meets_room (op := .Lt) ⟨_, ho, rfl⟩ ⟨_, ho2, rfl⟩ PySem.F.slot_tuple_lt PySem.F.entry_tuple_lt (PySem.F.args_tuple_lt_2 _ _) (tuple_lt_ints l b items items2 n n2 dd dd2 sl sl2 ns ms hi hj)
    ⟨ho, ho2, show Value.bool (lexLt ns ms) ≠ Value.notImplemented ∧ Q (.bool (lexLt ns ms)) s from ⟨(fun x => nomatch x), h⟩⟩ hu

/-- t + u, t not empty -/
theorem cat_tup {t b : Addr} {vs ws : List Value} {Q : Value → Shared → Prop} (ht : IsTup s.heap t vs.toArray) (hb : IsTup s.heap b ws.toArray) (hv : vs ≠ [])
    (h1 : ws = [] → Q (.ref t) s) (h2 : ws ≠ [] → Q (.ref s.heap.objs.size) { s with heap := s.heap.push { cls := .type "tuple", data := .seq (vs ++ ws).toArray } })
    (hsz : vs.length + ws.length ≤ sizeLine) : wpAny (model prog w) A (binaryOp .Add (.ref t) (.ref b)) Q E s := by
  obtain ⟨⟨cls, dd, data, sl⟩, ho, hc, n, hd⟩ := id ht
  obtain ⟨⟨cls2, dd2, data2, sl2⟩, ho2, hc2, n2, hd2⟩ := id hb
  simp only at hc hd hc2 hd2
  subst hc hd hc2 hd2
  have e : vs.toArray ++ ws.toArray = (vs ++ ws).toArray := by simp
  by_cases hw : ws = []
  · exact concat_meets ⟨_, ho, rfl⟩ ⟨_, ho2, rfl⟩ noFill_tuple_add seq_tuple_add PySem.F.slot_tuple_add PySem.F.entry_tuple_add (PySem.F.args_tuple_add_2 _ _)
      (tuple_addW1 t b vs.toArray ws.toArray n n2 dd dd2 sl sl2 (by simpa using hv) (by simp [hw])) ⟨ho, ho2, h1 hw⟩
  · refine concat_meets ⟨_, ho, rfl⟩ ⟨_, ho2, rfl⟩ noFill_tuple_add seq_tuple_add PySem.F.slot_tuple_add PySem.F.entry_tuple_add (PySem.F.args_tuple_add_2 _ _)
      (tuple_addW2 t b vs.toArray ws.toArray n n2 dd dd2 sl sl2 (by simpa using hv) (by simpa using hw) (by rw [List.size_toArray, List.size_toArray]; exact hsz)) ⟨ho, ho2, ?_⟩
    rw [e]
    exact h2 hw

/-! ### t[a:b], not the whole -/
/-- a slice's bound as a place among n (d where it is left out) -/
def sIx (n d : Nat) : Option Int → Nat
  | none => d
  | some v => if v < 0 then (v + (n : Int)).toNat else min v.toNat n
theorem sIx_none (n d : Nat) : sIx n d none = d := rfl
theorem sIx_nat (n d k : Nat) : sIx n d (some (k : Int)) = min k n := by
  show (if (k : Int) < 0 then ((k : Int) + (n : Int)).toNat else min (k : Int).toNat n) = min k n
  rw [if_neg (by omega), Int.toNat_natCast]
theorem sIx_le (n d : Nat) (hd : d ≤ n) (o : Option Int) : sIx n d o ≤ n := by
  cases o with
  | none => exact hd
  | some v =>
    show (if v < 0 then (v + (n : Int)).toNat else min v.toNat n) ≤ n
    by_cases hv : v < 0
    · rw [if_pos hv]; omega
    · rw [if_neg hv]; exact Nat.min_le_right _ _
theorem clip_eq (v : Int) (n d : Nat) : (if v < 0 then max (v + (n : Int)) 0 else min v (n : Int)) = ((sIx n d (some v) : Nat) : Int) := by
  show (if v < 0 then max (v + (n : Int)) 0 else min v (n : Int)) = (((if v < 0 then (v + (n : Int)).toNat else min v.toNat n) : Nat) : Int)
  by_cases hv : v < 0
  · simp only [if_pos hv]; omega
  · simp only [if_neg hv]; omega
theorem adjust_gen (lo hi : Option Int) (n : Nat) : Builtin.Slice.sliceAdjust lo hi 1 (n : Int) = (((sIx n 0 lo : Nat) : Int), ((sIx n n hi : Nat) : Int)) := by
  have h1 : ¬ ((1 : Int) < 0) := by omega
  unfold Builtin.Slice.sliceAdjust
  simp only [h1, if_false]
  refine Prod.ext ?_ ?_
  · cases lo with
    | none => rfl
    | some v => exact clip_eq v n 0
  · cases hi with
    | none => rfl
    | some v => exact clip_eq v n n
theorem places_gen (i j : Nat) : Builtin.Slice.slicePlaces (i : Int) (j : Int) 1 = j - i := by
  unfold Builtin.Slice.slicePlaces
  have h1 : (1 : Int) > 0 := by omega
  simp only [h1, if_true, Int.ediv_one]
  split <;> omega
theorem slicePart_ {v : Value} {o : Option Int} {Q : Option Int → Shared → Prop} (p : IsPart v o) (h : Q o s) : wpAny (model prog w) A (Builtin.Slice.slicePartIndex v) Q E s := by
  cases p with
  | none => exact slicePart_none h
  | int i t => exact slicePart_int h
theorem sliceApplied_gen {sl : Addr} {vl vu : Value} {lo hi : Option Int} {n : Nat} {Q : Int × Int × Nat → Shared → Prop} (hs : s.heap.IsSliceOf sl vl vu .none) (pl : IsPart vl lo) (pu : IsPart vu hi)
    (h : Q (((sIx n 0 lo : Nat) : Int), 1, sIx n n hi - sIx n 0 lo) s) : wpAny (model prog w) A (Builtin.Slice.sliceApplied (.ref sl) (pure (n : Int))) Q E s := by
  obtain ⟨os, hos, hcs, hds⟩ := id hs
  unfold Builtin.Slice.sliceApplied Builtin.Slice.sliceFields
  refine wpAny_bind (wpAny_bind (wpAny_field hos hds (x := vl) rfl (wpAny_bind (wpAny_field hos hds (x := vu) rfl (wpAny_bind (wpAny_field hos hds (x := .none) rfl (wpAny_pure ?_)))))))
  refine wpAny_bind (slicePart_none ?_)
  show wpAny _ _ (if ((1 : Int) == 0) = true then _ else _) _ _ s
  rw [if_neg (by decide)]
  refine wpAny_bind (slicePart_ pl (wpAny_bind (slicePart_ pu (wpAny_bind (wpAny_pure ?_)))))
  show wpAny _ _ (match Builtin.Slice.sliceAdjust lo hi 1 (n : Int) with | (lo, hi) => pure (lo, (1 : Int), Builtin.Slice.slicePlaces lo hi 1)) _ _ s
  rw [adjust_gen lo hi n]
  show wpAny _ _ (pure (((sIx n 0 lo : Nat) : Int), (1 : Int), Builtin.Slice.slicePlaces ((sIx n 0 lo : Nat) : Int) ((sIx n n hi : Nat) : Int) 1)) _ _ s
  rw [places_gen]
  exact wpAny_pure h
theorem pick_gen (xs : Array Value) (i k : Nat) : ((List.range k).filterMap fun (m : Nat) => xs[((i : Int) + (m : Int) * 1).toNat]?).toArray = ((xs.toList.drop i).take k).toArray := by
  have e : (fun (m : Nat) => xs[((i : Int) + (m : Int) * 1).toNat]?) = fun m => xs[i + m]? := by
    funext m
    have : ((i : Int) + (m : Int) * 1).toNat = i + m := by omega
    rw [this]
  rw [e]
  have := pick_run xs i k
  rw [List.filterMap_map] at this
  have e2 : ((fun x => xs[x]?) ∘ fun x => i + x) = fun m => xs[i + m]? := rfl
  rw [e2] at this
  rw [this]

theorem getItem_tuple_cut {t sl : Addr} {items : Array Value} {vl vu : Value} {lo hi : Option Int} {Q : Value → Shared → Prop} (ht : IsTup s.heap t items) (hs : s.heap.IsSliceOf sl vl vu .none) (pl : IsPart vl lo) (pu : IsPart vu hi)
    (hw : ¬ (sIx items.size 0 lo = 0 ∧ sIx items.size items.size hi = items.size))
    (h : Q (.ref s.heap.objs.size) { s with heap := s.heap.push { cls := .type "tuple", data := .seq ((items.toList.drop (sIx items.size 0 lo)).take (sIx items.size items.size hi - sIx items.size 0 lo)).toArray } })
    (hsz : items.size ≤ sizeLine) : wpAny (model prog w) A (getItem (.ref t) (.ref sl)) Q E s := by
  have htake : sizeOk (.seq ((items.toList.drop (sIx items.size 0 lo)).take (sIx items.size items.size hi - sIx items.size 0 lo)).toArray) := by
    show ((items.toList.drop (sIx items.size 0 lo)).take (sIx items.size items.size hi - sIx items.size 0 lo)).toArray.size ≤ sizeLine
    rw [List.size_toArray, List.length_take, List.length_drop, Array.length_toList]
    omega
  have hj : sIx items.size items.size hi ≤ items.size := sIx_le _ _ (Nat.le_refl _) hi
  obtain ⟨os, hos, hcs, hds⟩ := id hs
  have hTs : s.TypeIs (.ref sl) "slice" := ⟨os, hos, hcs⟩
  unfold getItem
  try with_reducible refine wpAny_holding ?_
  first | refine wpAny_bind (wpAny_pure ?_) | skip
  refine wpAny_bind (wpAny_sequenceKey ht.typeIs (by decide) ?_)
  refine wpAny_bind (wpAny_callSpecial?_slot (name := Str.ofString "__getitem__") ht.typeIs PyProof.Rows.slot_tuple_getitem
    (wpAny_call_entry PyProof.Rows.slot_tuple_getitem ht.typeIs entry_tuple_getitem ?_ (args_tuple_getitem _ _)))
  show wpAny _ _ (Builtin.Tuple.tupleItemsOf (.ref t) >>= _) _ _ s
  refine wpAny_bind (tupleItemsOf_ ht ?_)
  refine wpAny_bind (wpAny_typeOf hTs ?_)
  rw [if_pos (by decide)]
  refine wpAny_bind (sliceApplied_gen hs pl pu ?_)
  have hno : ¬ ((((sIx items.size 0 lo : Nat) : Int) == 0 && (1 : Int) == 1 && (sIx items.size items.size hi - sIx items.size 0 lo) == items.size) = true) := by
    intro q
    rw [Bool.and_eq_true, Bool.and_eq_true] at q
    have q1 : ((sIx items.size 0 lo : Nat) : Int) = 0 := eq_of_beq q.1.1
    have q2 : sIx items.size items.size hi - sIx items.size 0 lo = items.size := eq_of_beq q.2
    exact hw ⟨by omega, by omega⟩
  show wpAny _ _ (if (((sIx items.size 0 lo : Nat) : Int) == 0 && (1 : Int) == 1 && (sIx items.size items.size hi - sIx items.size 0 lo) == items.size) = true then _ else _) _ _ s
  rw [if_neg hno, pick_gen]
  first
    | exact wpAny_bind (m := Builtin.Tuple.tupleExact _) (wpAny_newObj_type (wpAny_pure ⟨_, rfl, wpAny_pure h⟩) htake)
    | exact wpAny_bind (m := Builtin.Tuple.tupleExact _) (wpAny_newObj_type (wpAny_bind (wpAny_pure (wpAny_pure ⟨_, rfl, wpAny_pure h⟩))) htake)
    | exact wpAny_bind (wpAny_bind (m := Builtin.Tuple.tupleExact _) (wpAny_newObj_type (wpAny_pure (wpAny_pure ⟨_, rfl, wpAny_pure h⟩)) htake))
    | exact wpAny_bind (wpAny_bind (m := Builtin.Tuple.tupleExact _) (wpAny_newObj_type (wpAny_pure ⟨_, rfl, wpAny_pure h⟩) htake))
end
end HT

namespace L2
open PySem PySem.Spec PyProof.Rows

/-! ### the parts of a slice -/
abbrev TO := St → Hp → (Option Int → Hp → Prop) → Prop
/-- a slice's part (left out, or an int) -/
def PO (X : Cx) (e : Option Expr) (t : TO) : Prop :=
  ∀ (pins : List (Addr × Obj)) (s : Shared) (σ : St) (H : Hp) (Q : Option Int → Hp → Prop), Inv X pins σ H s → t σ H Q →
    wpAny (model X.prog X.w) X.A (evalPart e X.env) (fun u s' => ∃ o H', Inv X pins σ H' s' ∧ IsPart u o ∧ Q o H') X.xe s
def tNoPart : TO := fun _ H Q => Q none H
def tPart (t : TE) : TO := fun σ H Q => t σ H fun x H1 => ∃ i, x = .int i ∧ Q (some i) H1

theorem intsAre_of {ns : List Int} : ∀ {us : List Value}, Vals (ns.map V.int) us → IntsAre us ns := by
  induction ns with
  | nil => intro us r; rw [List.map_nil] at r; cases r; exact .nil
  | cons n ns ih =>
    intro us r
    rw [List.map_cons] at r
    cases r with
    | cons r1 r2 =>
      obtain ⟨t, e⟩ := r1
      subst e
      exact .cons n t (ih r2)

section
variable {X : Cx} {e : Expr} {te : TE} {lo hi : Option Expr} {tl th : TO} {pos p2 : Pos}

theorem po_none : PO X none tNoPart := by
  intro pins s σ H Q I h
  rw [evalPart_none]
  exact wpAny_pure ⟨none, H, I, .none, h⟩
theorem po_some (h : PE X e te) : PO X (some e) (tPart te) := by
  intro pins s σ H Q I hw
  rw [evalPart_some]
  refine thn (h pins s σ H _ I hw) fun u s1 ⟨x, H1, I1, r1, q1⟩ => ?_
  obtain ⟨i, rfl, q⟩ := q1
  obtain ⟨t, rfl⟩ := r1
  exact ⟨some i, H1, I1, .int i t, q⟩

/-- what a slice of a value is, by values: the slice object stands at sl -/
def SlR (X : Cx) (r : V → Option Int → Option Int → Hp → VK → Prop) : Prop :=
  ∀ (pins : List (Addr × Obj)) (s : Shared) (σ : St) (H : Hp) (x : V) (v vl vu : Value) (lo hi : Option Int) (sl : Addr) (Q : VK), Inv X pins σ H s → RelV x v → s.heap.IsSliceOf sl vl vu .none → IsPart vl lo → IsPart vu hi → r x lo hi H Q →
    ∃ T id, typeLookup (.type T) "__getitem__" = pure (some (.builtin id)) ∧ s.TypeIs v T ∧ wpAny (model X.prog X.w) X.A (getItem v (.ref sl)) (EP X pins σ Q) X.xe s
theorem SlR.or {r r' : V → Option Int → Option Int → Hp → VK → Prop} (h : SlR X r) (h' : SlR X r') : SlR X (fun x lo hi H Q => r x lo hi H Q ∨ r' x lo hi H Q) := by
  intro pins s σ H x v vl vu lo hi sl Q I rx hs pl pu q
  rcases q with q | q
  · exact h pins s σ H x v vl vu lo hi sl Q I rx hs pl pu q
  · exact h' pins s σ H x v vl vu lo hi sl Q I rx hs pl pu q
def tSl (r : V → Option Int → Option Int → Hp → VK → Prop) (te : TE) (tl th : TO) : TE := fun σ H Q => te σ H fun x H1 => tl σ H1 fun l H2 => th σ H2 fun u H3 => r x l u H3 Q
/-- a[lo:hi], any a -/
theorem pe_slice {r : V → Option Int → Option Int → Hp → VK → Prop} (hr : SlR X r) (he : PE X e te) (hl : PO X lo tl) (hu : PO X hi th) : PE X (.Subscript e (.Slice lo hi none p2) pos) (tSl r te tl th) := by
  intro pins s σ H Q I h
  refine Subscript_ (thn (he pins s σ H _ I h) fun v s1 ⟨x, H1, I1, r1, q1⟩ => ?_)
  refine wpAny_Slice (thn (hl pins s1 σ H1 _ I1 q1) fun vl s2 ⟨l, H2, I2, pl, q2⟩ => thn (hu pins s2 σ H2 _ I2 q2) fun vu s3 ⟨u, H3, I3, pu, q3⟩ => ?_)
  rw [evalPart_none]
  refine wpAny_pure ?_
  have I4 : Inv X pins σ H3 { s3 with heap := s3.heap.push { cls := .type "slice", data := .fields #[vl, vu, .none] } } := I3.kept (t' := s3.toks) fun b ob q => Heap.get?_push_of_some _ q
  obtain ⟨T, id, hT, ht, hg⟩ := hr pins { s3 with heap := s3.heap.push { cls := .type "slice", data := .fields #[vl, vu, .none] } } σ H3 x v vl vu l u s3.heap.objs.size Q I4 r1 (Heap.IsSliceOf.new ..) pl pu q3
  show wpAny (model X.prog X.w) X.A (subscriptTail e (.Slice lo hi none p2) v (.ref s3.heap.objs.size)) (EP X pins σ Q) X.xe { s3 with heap := s3.heap.push { cls := .type "slice", data := .fields #[vl, vu, .none] } }
  exact tail_any (ops := [.ref s3.heap.objs.size, v]) ht hT hg (by with_unfolding_all rfl)

/-- the items of xs[lo:hi] -/
def cutV (xs : List V) (lo hi : Option Int) : List V := (xs.drop (HT.sIx xs.length 0 lo)).take (HT.sIx xs.length xs.length hi - HT.sIx xs.length 0 lo)
theorem cutV_length (xs : List V) (lo hi : Option Int) : (cutV xs lo hi).length ≤ xs.length := by
  unfold cutV
  rw [List.length_take, List.length_drop]
  omega
/-- t[lo:hi], not the whole of it (the whole would be t itself) -/
def rSlT (K : PySem.W.Frag) : V → Option Int → Option Int → Hp → VK → Prop := fun x lo hi H Q => ∃ a xs, x = .ref a ∧ SqT K H a xs ∧
  ¬ (HT.sIx xs.length 0 lo = 0 ∧ HT.sIx xs.length xs.length hi = xs.length) ∧ ∀ p, H p = none → Q (.ref p) (upd H p (.tup (cutV xs lo hi)))
theorem sl_tup : SlR X (rSlT X.K) := by
  intro pins s σ H x v vl vu lo hi sl Q I rx hs pl pu h
  obtain ⟨a, xs, rfl, hx, hw, q⟩ := h
  cases rx
  obtain ⟨its, r, ht, hz⟩ := I.tuple hx
  have hlen : its.toArray.size = xs.length := by rw [List.size_toArray]; exact r.length.symm
  refine ⟨"tuple", _, PyProof.Rows.slot_tuple_getitem.lookup, ht.typeIs, ?_⟩
  refine HT.getItem_tuple_cut ht hs pl pu (by rw [hlen]; exact hw) ?_ (by rw [hlen]; exact hz)
  rw [hlen]
  refine ⟨.ref s.heap.objs.size, _, I.laid (t' := s.toks) (o := .tup (cutV xs lo hi)) (fun b ob q => Heap.get?_push_of_some _ q) (Nat.le_refl _) ?_, rfl, q _ (I.hok.fresh (Nat.le_refl _))⟩
  exact ⟨Nat.le_trans (cutV_length xs lo hi) hz, _, (r.drop (HT.sIx xs.length 0 lo)).take (HT.sIx xs.length xs.length hi - HT.sIx xs.length 0 lo), IsTup.new _ _⟩

/-! ### t < u, t + u -/
def rLtT (K : PySem.W.Frag) : R2 := fun x y H Q => ∃ a b ns ms, x = .ref a ∧ y = .ref b ∧ SqT K H a (ns.map V.int) ∧ SqT K H b (ms.map V.int) ∧ Q (.bl (HT.lexLt ns ms)) H
theorem op_ltT (hu : X.A.units < cLine) : OpR X (compareOp .Lt) (rLtT X.K) := by
  intro pins s σ H x y v u Q I rx ry h
  obtain ⟨a, b, ns, ms, rfl, rfl, ha, hb, q⟩ := h
  cases rx
  cases ry
  obtain ⟨its, r1, p1, _⟩ := I.tuple ha
  obtain ⟨its2, r2, p2, _⟩ := I.tuple hb
  have i1 : IntsAre its.toArray.toList ns := intsAre_of r1
  have i2 : IntsAre its2.toArray.toList ms := intsAre_of r2
  exact HT.lt_tupInts p1 p2 i1 i2 hu ⟨.bl (HT.lexLt ns ms), H, I, rfl, q⟩
/-- t + u, t not empty: u empty gives t itself -/
def rCatT (K : PySem.W.Frag) : R2 := fun x y H Q => ∃ a b xs ys, x = .ref a ∧ y = .ref b ∧ SqT K H a xs ∧ SqT K H b ys ∧ xs ≠ [] ∧ xs.length + ys.length ≤ sizeLine ∧
  (ys = [] → Q (.ref a) H) ∧ (ys ≠ [] → ∀ p, H p = none → Q (.ref p) (upd H p (.tup (xs ++ ys))))
theorem Vals.nil_iff {xs : List V} {us : List Value} (r : Vals xs us) : us = [] ↔ xs = [] := by
  cases r with
  | nil => simp
  | cons _ _ => simp
theorem op_catT : OpR X (binaryOp .Add) (rCatT X.K) := by
  intro pins s σ H x y v u Q I rx ry h
  obtain ⟨a, b, xs, ys, rfl, rfl, ha, hb, hx, hz, q1, q2⟩ := h
  cases rx
  cases ry
  obtain ⟨its, r1, p1, _⟩ := I.tuple ha
  obtain ⟨its2, r2, p2, _⟩ := I.tuple hb
  refine HT.cat_tup p1 p2 (fun z => hx (r1.nil_iff.mp z)) (fun z => ⟨.ref a, H, I, rfl, q1 (r2.nil_iff.mp z)⟩) (fun z => ?_) (by rw [← r1.length, ← r2.length]; exact hz)
  refine ⟨.ref s.heap.objs.size, _, I.laid (t' := s.toks) (o := .tup (xs ++ ys)) (fun b ob q => Heap.get?_push_of_some _ q) (Nat.le_refl _) ?_, rfl, q2 (fun w => z (r2.nil_iff.mpr w)) _ (I.hok.fresh (Nat.le_refl _))⟩
  exact ⟨by rw [List.length_append]; exact hz, _, r1.append r2, IsTup.new _ _⟩
/-- tuple(t) -/
theorem call_tupleT : CallR X (.type "tuple") (fun xs H Q => ∃ a ys, xs = [.ref a] ∧ SqT X.K H a ys ∧ Q (.ref a) H) := by
  intro pins s σ H xs us Q I r h
  obtain ⟨a, ys, rfl, ha, q⟩ := h
  obtain ⟨u, rfl, ru⟩ := vals1 r
  cases ru
  obtain ⟨its, _, p1, _⟩ := I.tuple ha
  exact call_tuple_same (items := its.toArray) p1 ⟨.ref a, H, I, rfl, q⟩
end
end L2

namespace L2
open PySem PySem.Spec PyProof.Rows

/-! ### places -/
/-- the place that an index of any sign means -/
def ixN (n : Nat) (i : Int) : Option Nat := if 0 ≤ i then (if i < n then some i.toNat else none) else if -(n : Int) ≤ i then some (i + n).toNat else none
def atI {α : Type} (xs : List α) (i : Int) : Option α := (ixN xs.length i).bind fun j => xs[j]?
theorem ixN_seq {n : Nat} {i : Int} {j : Nat} (h : ixN n i = some j) : seqIndex? i n = some j ∧ j < n ∧ -(n : Int) ≤ i ∧ i < n := by
  unfold ixN at h
  by_cases h0 : 0 ≤ i
  · rw [if_pos h0] at h
    by_cases h1 : i < n
    · rw [if_pos h1] at h
      have e : i.toNat = j := Option.some.inj h
      exact ⟨by rw [seqIndex_of h0 h1, e], by omega, by omega, h1⟩
    · rw [if_neg h1] at h; cases h
  · rw [if_neg h0] at h
    by_cases h1 : -(n : Int) ≤ i
    · rw [if_pos h1] at h
      have e : (i + n).toNat = j := Option.some.inj h
      exact ⟨by rw [seqIndex_neg (by omega) h1, e], by omega, h1, by omega⟩
    · rw [if_neg h1] at h; cases h
theorem atI_get {α : Type} {xs : List α} {i : Int} {v : α} (h : atI xs i = some v) : ∃ j, seqIndex? i xs.length = some j ∧ xs[j]? = some v ∧ j < xs.length ∧ -(xs.length : Int) ≤ i ∧ i < xs.length := by
  unfold atI at h
  cases e : ixN xs.length i with
  | none => rw [e] at h; cases h
  | some j =>
    rw [e] at h
    obtain ⟨h1, h2, h3, h4⟩ := ixN_seq e
    exact ⟨j, h1, h, h2, h3, h4⟩
theorem atI_nat {α : Type} {xs : List α} {j : Nat} {v : α} (h : xs[j]? = some v) : atI xs (j : Int) = some v := by
  have hj : j < xs.length := (List.getElem?_eq_some_iff.mp h).1
  have e : ixN xs.length (j : Int) = some j := by
    unfold ixN
    rw [if_pos (by omega), if_pos (by omega)]; simp
  unfold atI; rw [e]; exact h
theorem atI_last {α : Type} (xs : List α) (v : α) : atI (xs ++ [v]) (-1) = some v := by
  have hl : (xs ++ [v]).length = xs.length + 1 := by simp
  have e : ixN (xs ++ [v]).length (-1) = some xs.length := by
    unfold ixN
    rw [hl, if_neg (by decide), if_pos (by omega)]
    congr 1
    omega
  unfold atI
  rw [e]
  show (xs ++ [v])[xs.length]? = some v
  simp

/-! ### what may be subscripted -/
/-- what stands as an index of a plain subscript -/
def PlainIx (b : Expr) : Prop := ∀ o i, subscripted b false o i = operate [o, i] (getItem o i)
/-- a subscript by values -/
def IxR (X : Cx) (r : R2) : Prop :=
  ∀ (value slice : Expr) (pins : List (Addr × Obj)) (s : Shared) (σ : St) (H : Hp) (x y : V) (v u : Value) (Q : VK), Inv X pins σ H s → RelV x v → RelV y u → r x y H Q →
    subscripted slice false v u = operate [v, u] (getItem v u) → wpAny (model X.prog X.w) X.A (subscriptTail value slice v u) (EP X pins σ Q) X.xe s
/-- a call of a builtin's method by values: the receiver, the arguments -/
def MtR (X : Cx) (id : String) (r : V → List V → Hp → VK → Prop) : Prop :=
  ∀ (pins : List (Addr × Obj)) (s : Shared) (σ : St) (H : Hp) (x : V) (xs : List V) (v : Value) (us : List Value) (Q : VK), Inv X pins σ H s → RelV x v → Vals xs us → r x xs H Q →
    wpAny (model X.prog X.w) X.A (call (.builtin id) (v :: us)) (EP X pins σ Q) X.xe s
section
variable {X : Cx} {a b : Expr} {ta tb : TE} {pos : Pos}
theorem IxR.or {r r' : R2} (h : IxR X r) (h' : IxR X r') : IxR X (fun x y H Q => r x y H Q ∨ r' x y H Q) := by
  intro value slice pins s σ H x y v u Q I rx ry q hs
  rcases q with q | q
  · exact h value slice pins s σ H x y v u Q I rx ry q hs
  · exact h' value slice pins s σ H x y v u Q I rx ry q hs
theorem MtR.or {id : String} {r r' : V → List V → Hp → VK → Prop} (h : MtR X id r) (h' : MtR X id r') : MtR X id (fun x xs H Q => r x xs H Q ∨ r' x xs H Q) := by
  intro pins s σ H x xs v us Q I rx rs q
  rcases q with q | q
  · exact h pins s σ H x xs v us Q I rx rs q
  · exact h' pins s σ H x xs v us Q I rx rs q
/-- a[b] -/
theorem pe_ix {r : R2} (hr : IxR X r) (ha : PE X a ta) (hb : PE X b tb) (hs : PlainIx b) : PE X (.Subscript a b pos) (tOp r ta tb) := by
  intro pins s σ H Q I h
  exact Subscript_ (binT ha hb I h fun v u s2 x y H2 I2 rx ry q => hr a b pins s2 σ H2 x y v u Q I2 rx ry q (hs _ _))

def rIxL (K : PySem.W.Frag) : R2 := fun x y H Q => ∃ p xs i v, x = .ref p ∧ y = .int i ∧ SqL K H p xs ∧ atI xs i = some v ∧ Q v H
def rIxT (K : PySem.W.Frag) : R2 := fun x y H Q => ∃ p xs i v, x = .ref p ∧ y = .int i ∧ SqT K H p xs ∧ atI xs i = some v ∧ Q v H
def rIxS : R2 := fun x y H Q => ∃ z i c, x = .str z ∧ y = .int i ∧ z.length ≤ sizeLine ∧ atI z.cps.toList i = some c ∧ Q (.str ⟨#[c]⟩) H
theorem ix_list : IxR X (rIxL X.K) := by
  intro value slice pins s σ H x y v u Q I rx ry h hs
  obtain ⟨p, xs, i, z, rfl, rfl, hq, he, q⟩ := h
  cases rx
  obtain ⟨t, rfl⟩ := ry
  obtain ⟨its, r, pl, hz⟩ := I.list hq
  obtain ⟨j, h1, h2, h3, h4, h5⟩ := atI_get he
  obtain ⟨w, ew, rw'⟩ := r.get h2
  have hl := r.length
  have hn := line63
  have fin : EP X pins σ Q w s := ⟨z, H, I, rw', q⟩
  by_cases h0 : 0 ≤ i
  · have hj : i.toNat = j := by
      rw [seqIndex_of h0 h5] at h1
      exact Option.some.inj h1
    exact item_listR pl.isList h0 (by omega) (by rw [hj]; simpa using ew) fin hs
  · have hj : (i + (its.toArray.size : Int)).toNat = j := by
      rw [seqIndex_neg (by omega) h4] at h1
      rw [List.size_toArray, ← hl]
      exact Option.some.inj h1
    exact subscriptTail_builtinR (x := w) pl.isList.typeIs slot_list_getitem.lookup
      (wpAny_getItem_list_neg (Q := fun r s' => r = w ∧ EP X pins σ Q r s') pl.isList (by omega) (by rw [List.size_toArray] <;> omega) (by omega) (by rw [hj]; simpa using ew) ⟨rfl, fin⟩) hs
theorem ix_tup : IxR X (rIxT X.K) := by
  intro value slice pins s σ H x y v u Q I rx ry h hs
  obtain ⟨p, xs, i, z, rfl, rfl, hq, he, q⟩ := h
  cases rx
  obtain ⟨t, rfl⟩ := ry
  obtain ⟨its, r, pl, hz⟩ := I.tuple hq
  obtain ⟨j, h1, h2, h3, h4, h5⟩ := atI_get he
  obtain ⟨w, ew, rw'⟩ := r.get h2
  have hl := r.length
  have hn := line63
  have fin : EP X pins σ Q w s := ⟨z, H, I, rw', q⟩
  exact subscriptTail_builtinR (x := w) pl.typeIs slot_tuple_getitem.lookup
    (getItem_tuple (j := j) (Q := fun r s' => r = w ∧ EP X pins σ Q r s') pl (by omega) (by omega) (by rw [List.size_toArray, ← hl]; exact h1) (by simpa using ew) ⟨rfl, fin⟩) hs
theorem ix_str : IxR X rIxS := by
  intro value slice pins s σ H x y v u Q I rx ry h hs
  obtain ⟨z, i, c, rfl, rfl, hz, he, q⟩ := h
  obtain ⟨t, rfl⟩ := rx
  obtain ⟨t', rfl⟩ := ry
  obtain ⟨j, h1, h2, h3, h4, h5⟩ := atI_get he
  have hl : z.cps.toList.length = z.length := by simp [Str.length]
  rw [hl] at h1 h4 h5
  have hn := line63
  exact tail_any (typeIs_str s z t) slot_str_getitem.lookup (getItem_str (c := c) (by
    have e1 : decide (i < -(2 ^ 63 : Int)) = false := decide_eq_false (by omega)
    have e2 : decide (i ≥ 2 ^ 63) = false := decide_eq_false (by omega)
    rw [e1, e2, Bool.or_false]) (by rw [h1]; simpa using h2) ⟨.str ⟨#[c]⟩, H, I.tok _, ⟨_, rfl⟩, q⟩) hs
/-- list, tuple or str -/
def rIx (K : PySem.W.Frag) : R2 := fun x y H Q => rIxL K x y H Q ∨ rIxT K x y H Q ∨ rIxS x y H Q
theorem ix_seq : IxR X (rIx X.K) := ix_list.or (ix_tup.or ix_str)

/-! ### xs[i] = v, any sign -/
/-- the list's object behind a store -/
theorem mapSeq_set (its : List Value) (n j : Nat) (u : Value) : Obj.mapSeq (·.setIfInBounds j u) { cls := .type "list", data := .seq its.toArray n } = { cls := .type "list", data := .seq (its.set j u).toArray n } := by
  simp [Obj.mapSeq]
theorem Inv.lst {pins : List (Addr × Obj)} {σ : St} {H : Hp} {s : Shared} {p : Addr} {xs : List V} (I : Inv X pins σ H s) (h : H p = some (.lst xs)) :
    ∃ (its : List Value) (n : Nat), Vals xs its ∧ s.heap.get? p = some { cls := .type "list", data := .seq its.toArray n } ∧ xs.length ≤ sizeLine := by
  obtain ⟨z, its, n, r, e⟩ := I.hok p _ h
  exact ⟨its, n, r, e, z⟩
/-- the list at p is written by an update of its object -/
theorem Inv.lstUpd {pins : List (Addr × Obj)} {σ : St} {H : Hp} {s : Shared} {p : Addr} {xs ys : List V} {its its' : List Value} {n n' : Nat} {f : Obj → Obj} (I : Inv X pins σ H s) (h : H p = some (.lst xs))
    (ho : s.heap.get? p = some { cls := .type "list", data := .seq its.toArray n }) (hf : f { cls := .type "list", data := .seq its.toArray n } = { cls := .type "list", data := .seq its'.toArray n' }) (r : Vals ys its') (hz : ys.length ≤ sizeLine) (t : Nat) :
    Inv X pins σ (upd H p (.lst ys)) { s with heap := s.heap.update p f, toks := t } := by
  have e : (s.heap.update p f).get? p = some { cls := .type "list", data := .seq its'.toArray n' } := by
    rw [Heap.get?_update_self f ho (by rw [hf] <;> rfl), hf]
  refine I.write (x := p) (e := p) (by rw [h]; trivial) (.inl rfl) (fun b u hb q => (Heap.get?_update_other _ _ (Ne.symm hb)).trans q) ⟨_, e⟩ ?_
  exact ⟨hz, its', n', r, e⟩
def rSetL : V → V → V → Hp → (Hp → Prop) → Prop := fun o i v H Q => ∃ p xs k j, o = .ref p ∧ i = .int k ∧ H p = some (.lst xs) ∧ ixN xs.length k = some j ∧ Q (upd H p (.lst (xs.set j v)))
theorem set_list : PSet X rSetL := by
  intro pins s σ H o i v ov iv u Q I ro ri rv h
  obtain ⟨p, xs, k, j, rfl, rfl, hp, hj, q⟩ := h
  cases ro
  obtain ⟨t, rfl⟩ := ri
  obtain ⟨its, n, r, ho, hz⟩ := I.lst hp
  obtain ⟨h1, h2, h3, h4⟩ := ixN_seq hj
  have hl := r.length
  have hn := line63
  have I' : Inv X pins σ (upd H p (.lst (xs.set j v))) { s with heap := s.heap.update p (Obj.mapSeq (·.setIfInBounds j u)) } :=
    I.lstUpd hp ho (mapSeq_set its n j u) (r.set rv j) (by rw [List.length_set]; exact hz) s.toks
  by_cases h0 : 0 ≤ k
  · have hk : k.toNat = j := by
      rw [seqIndex_of h0 h4] at h1
      exact Option.some.inj h1
    exact PySem.W.ki_setAt ho h0 (by omega) (by rw [List.size_toArray, ← hl]; exact h4) (by rw [hk]; exact ⟨_, I', q⟩)
  · have hk : (k + (its.toArray.size : Int)).toNat = j := by
      rw [seqIndex_neg (by omega) h3] at h1
      rw [List.size_toArray, ← hl]
      exact Option.some.inj h1
    exact PySem.W.ki_setBack ho (by omega) (by rw [List.size_toArray, ← hl]; exact h3) (by omega) (by rw [hk]; exact ⟨_, I', q⟩)

/-! ### slices -/
theorem slice_bounds (lo hi : Option Int) (n : Nat) : (sliceBounds lo hi none n).1 = ((HT.sIx n 0 lo : Nat) : Int) ∧ (sliceBounds lo hi none n).2.1 = ((HT.sIx n n hi : Nat) : Int) ∧ (sliceBounds lo hi none n).2.2 = 1 := by
  refine ⟨?_, ?_, rfl⟩
  · cases lo with
    | none => simp [sliceBounds, HT.sIx]
    | some i =>
      simp only [sliceBounds, HT.sIx, Option.getD_none, show (1 : Int) > 0 by decide, if_true]
      by_cases h : i < 0
      · simp only [h, if_true] <;> omega
      · simp only [h, if_false] <;> omega
  · cases hi with
    | none => simp [sliceBounds, HT.sIx]
    | some i =>
      simp only [sliceBounds, HT.sIx, Option.getD_none, show (1 : Int) > 0 by decide, if_true]
      by_cases h : i < 0
      · simp only [h, if_true] <;> omega
      · simp only [h, if_false] <;> omega
theorem slicePick_cut (its : List Value) (lo hi : Option Int) : slicePick its.toArray lo hi none = ((its.drop (HT.sIx its.length 0 lo)).take (HT.sIx its.length its.length hi - HT.sIx its.length 0 lo)).toArray := by
  obtain ⟨h1, h2, h3⟩ := slice_bounds lo hi its.toArray.size
  unfold slicePick
  rw [h1, h2, h3]
  simp only [sliceRange_one, pick_run, List.size_toArray] <;> rfl
/-- xs[lo:hi] of a list: a new list -/
def rSlL (K : PySem.W.Frag) : V → Option Int → Option Int → Hp → VK → Prop := fun x lo hi H Q => ∃ a xs, x = .ref a ∧ SqL K H a xs ∧ ∀ p, H p = none → Q (.ref p) (upd H p (.lst (cutV xs lo hi)))
theorem sl_list : SlR X (rSlL X.K) := by
  intro pins s σ H x v vl vu lo hi sl Q I rx hs pl pu h
  obtain ⟨a, xs, rfl, hx, q⟩ := h
  cases rx
  obtain ⟨its, r, ht, hz⟩ := I.list hx
  have hlen := r.length
  refine ⟨"list", _, slot_list_getitem.lookup, ht.isList.typeIs, ?_⟩
  refine wpAny_getItem_list_slice ht.isList hs pl pu .none (by simp) ?_ (by rw [List.size_toArray] <;> omega)
  rw [slicePick_cut, ← hlen]
  refine ⟨.ref s.heap.objs.size, _, I.laid (t' := s.toks) (o := .lst (cutV xs lo hi)) (fun b ob q => Heap.get?_push_of_some _ q) (Nat.le_refl _) ?_, rfl, q _ (I.hok.fresh (Nat.le_refl _))⟩
  exact ⟨Nat.le_trans (cutV_length xs lo hi) hz, _, 0, (r.drop (HT.sIx xs.length 0 lo)).take (HT.sIx xs.length xs.length hi - HT.sIx xs.length 0 lo), Heap.get?_push_size _ rfl⟩

/-! ### in, not in: flat items -/
def flatV : V → Bool
  | .non => true
  | .bl _ => true
  | .int _ => true
  | .str _ => true
  | _ => false
/-- == of flat values -/
def eqV : V → V → Bool
  | .non, .non => true
  | .bl a, .bl b => a == b
  | .bl a, .int b => (if a then 1 else 0) == b
  | .int a, .bl b => a == (if b then 1 else 0)
  | .int a, .int b => a == b
  | .str a, .str b => a == b
  | _, _ => false
theorem eqAt_V {A : Around} {s : Shared} {y x : V} {u v : Value} (ry : RelV y u) (rx : RelV x v) (fy : flatV y = true) (fx : flatV x = true) : SeqAt.EqAt A s u v (eqV y x) := by
  cases y with
  | non =>
    cases ry
    cases x with
    | non => cases rx; exact SeqAt.EqAt.same _
    | bl b => cases rx; exact SeqAt.EqAt.none_bool b
    | int b => obtain ⟨t, rfl⟩ := rx; exact SeqAt.EqAt.none_int b t
    | str b => obtain ⟨t, rfl⟩ := rx; exact SeqAt.EqAt.none_str b t
    | _ => exact absurd (show false = true from fx) Bool.false_ne_true
  | bl a =>
    cases ry
    cases x with
    | non => cases rx; exact SeqAt.EqAt.bool_none a
    | bl b => cases rx; exact SeqAt.EqAt.bool_bool a b
    | int b => obtain ⟨t, rfl⟩ := rx; exact SeqAt.EqAt.bool_int a b t
    | str b => obtain ⟨t, rfl⟩ := rx; exact SeqAt.EqAt.bool_str a b t
    | _ => exact absurd (show false = true from fx) Bool.false_ne_true
  | int a =>
    obtain ⟨t', rfl⟩ := ry
    cases x with
    | non => cases rx; exact SeqAt.EqAt.int_none a t'
    | bl b => cases rx; exact SeqAt.EqAt.int_bool a t' b
    | int b => obtain ⟨t, rfl⟩ := rx; exact SeqAt.EqAt.int_int a t' b t
    | str b => obtain ⟨t, rfl⟩ := rx; exact SeqAt.EqAt.int_str a t' b t
    | _ => exact absurd (show false = true from fx) Bool.false_ne_true
  | str a =>
    obtain ⟨t', rfl⟩ := ry
    cases x with
    | non => cases rx; exact SeqAt.EqAt.str_none a t'
    | bl b => cases rx; exact SeqAt.EqAt.str_bool a t' b
    | int b => obtain ⟨t, rfl⟩ := rx; exact SeqAt.EqAt.str_int a t' b t
    | str b => obtain ⟨t, rfl⟩ := rx; exact SeqAt.EqAt.str_str a t' b t
    | _ => exact absurd (show false = true from fx) Bool.false_ne_true
  | _ => exact absurd (show false = true from fy) Bool.false_ne_true
/-- the items' answers, read off the values (a value's own answer does not lean on its token) -/
def eqU (x : V) (u : Value) : Bool := match u with
  | .none => eqV .non x
  | .bool b => eqV (.bl b) x
  | .int i _ => eqV (.int i) x
  | .str z _ => eqV (.str z) x
  | _ => false
theorem eqU_of {x y : V} {u : Value} (r : RelV y u) (f : flatV y = true) : eqU x u = eqV y x := by
  cases y with
  | non => cases r; rfl
  | bl b => cases r; rfl
  | int i => obtain ⟨t, rfl⟩ := r; rfl
  | str z => obtain ⟨t, rfl⟩ := r; rfl
  | _ => exact absurd (show false = true from f) Bool.false_ne_true
theorem any_eqU {x : V} : ∀ {xs : List V} {us : List Value}, Vals xs us → xs.all flatV = true → us.any (eqU x) = xs.any fun y => eqV y x
  | _, _, .nil, _ => rfl
  | y :: xs, u :: us, .cons r t, f => by
    rw [List.all_cons, Bool.and_eq_true] at f
    rw [List.any_cons, List.any_cons, eqU_of r f.1, any_eqU t f.2]
theorem mem_eqAt {A : Around} {s : Shared} {x : V} {v : Value} (rx : RelV x v) (fx : flatV x = true) : ∀ {xs : List V} {us : List Value}, Vals xs us → xs.all flatV = true → ∀ u ∈ us, SeqAt.EqAt A s u v (eqU x u)
  | _, _, .nil, _ => fun u hu => by cases hu
  | y :: xs, u :: us, .cons r t, f => fun u' hu => by
    rw [List.all_cons, Bool.and_eq_true] at f
    rcases List.mem_cons.mp hu with rfl | hu
    · rw [eqU_of r f.1]; exact eqAt_V r rx f.1 fx
    · exact mem_eqAt rx fx t f.2 u' hu
def inV (x : V) (xs : List V) : Bool := xs.any fun y => eqV y x
/-- x in a list or tuple of flat items -/
def rIn (K : PySem.W.Frag) (neg : Bool) : R2 := fun x y H Q => ∃ p xs, y = .ref p ∧ (SqL K H p xs ∨ SqT K H p xs) ∧ flatV x = true ∧ xs.all flatV = true ∧ Q (.bl (if neg then !inV x xs else inV x xs)) H
theorem op_in_seq : OpR X (compareOp .In) (rIn X.K false) := by
  intro pins s σ H x y v u Q I rx ry h
  obtain ⟨p, xs, rfl, hq, fx, fs, q⟩ := h
  cases ry
  rcases hq with hq | hq
  · obtain ⟨its, r, pl, hz⟩ := I.list hq
    refine SeqAt.in_listAt (eqU x) pl.isList (fun w hw => mem_eqAt rx fx r fs w (by simpa using hw)) ⟨.bl _, H, I, rfl, ?_⟩
    rw [show its.toArray.any (eqU x) = its.any (eqU x) by simp, any_eqU r fs]
    exact q
  · obtain ⟨its, r, pl, hz⟩ := I.tuple hq
    refine SeqAt.in_tupleAt (eqU x) pl (fun w hw => mem_eqAt rx fx r fs w (by simpa using hw)) ⟨.bl _, H, I, rfl, ?_⟩
    rw [show its.toArray.any (eqU x) = its.any (eqU x) by simp, any_eqU r fs]
    exact q
theorem op_notIn_seq : OpR X (compareOp .NotIn) (rIn X.K true) := by
  intro pins s σ H x y v u Q I rx ry h
  obtain ⟨p, xs, rfl, hq, fx, fs, q⟩ := h
  cases ry
  rcases hq with hq | hq
  · obtain ⟨its, r, pl, hz⟩ := I.list hq
    refine SeqAt.notIn_listAt (eqU x) pl.isList (fun w hw => mem_eqAt rx fx r fs w (by simpa using hw)) ⟨.bl _, H, I, rfl, ?_⟩
    rw [show its.toArray.any (eqU x) = its.any (eqU x) by simp, any_eqU r fs]
    exact q
  · obtain ⟨its, r, pl, hz⟩ := I.tuple hq
    refine SeqAt.notIn_tupleAt (eqU x) pl (fun w hw => mem_eqAt rx fx r fs w (by simpa using hw)) ⟨.bl _, H, I, rfl, ?_⟩
    rw [show its.toArray.any (eqU x) = its.any (eqU x) by simp, any_eqU r fs]
    exact q
theorem op_notIn_str : OpR X (compareOp .NotIn) (fun x y H Q => ∃ i j, x = .str i ∧ y = .str j ∧ Q (.bl (!(!(Builtin.Str.occurrences j i 0 j.length 1).isEmpty))) H) := by
  intro pins s σ H x y v u Q I rx ry h
  obtain ⟨i, j, rfl, rfl, q⟩ := h
  obtain ⟨t, rfl⟩ := rx
  obtain ⟨t', rfl⟩ := ry
  exact notIn_str ⟨.bl _, H, I, rfl, q⟩

/-! ### len, list(x), tuple(x) of any list or tuple that is read -/
theorem call_len_seq : CallR X (.builtin "len") (fun xs H Q => ∃ p ys, xs = [.ref p] ∧ (SqL X.K H p ys ∨ SqT X.K H p ys) ∧ Q (.int ys.length) H) := by
  intro pins s σ H xs us Q I r h
  obtain ⟨p, ys, rfl, hq, q⟩ := h
  obtain ⟨u, rfl, rx⟩ := vals1 r
  cases rx
  have hn := line63
  rcases hq with hq | hq
  · obtain ⟨its, r', pl, hz⟩ := I.list hq
    have hlen := r'.length
    exact Calls.call_len_list pl.isList (by simp only [List.size_toArray] <;> omega) ⟨.int ys.length, H, I.tok _, ⟨s.toks + 1, by rw [List.size_toArray, hlen]⟩, q⟩
  · obtain ⟨its, r', pl, hz⟩ := I.tuple hq
    have hlen := r'.length
    exact len_tuple pl (by simp only [List.size_toArray] <;> omega) ⟨.int ys.length, H, I.tok _, ⟨s.toks + 1, by rw [List.size_toArray, hlen]⟩, q⟩
theorem call_len_str : CallR X (.builtin "len") (fun xs H Q => ∃ z, xs = [.str z] ∧ z.length ≤ sizeLine ∧ Q (.int z.length) H) := by
  intro pins s σ H xs us Q I r h
  obtain ⟨z, rfl, hz, q⟩ := h
  obtain ⟨u, rfl, t, rfl⟩ := vals1 r
  have hn := line63
  exact len_str (by omega) ⟨.int z.length, H, I.tok _, ⟨_, rfl⟩, q⟩
theorem CallR.or {f : Value} {r r' : List V → Hp → VK → Prop} (h : CallR X f r) (h' : CallR X f r') : CallR X f (fun xs H Q => r xs H Q ∨ r' xs H Q) := by
  intro pins s σ H xs us Q I rs q
  rcases q with q | q
  · exact h pins s σ H xs us Q I rs q
  · exact h' pins s σ H xs us Q I rs q
theorem call_list_of : CallR X (.type "list") (fun xs H Q => ∃ p ys, xs = [.ref p] ∧ (SqL X.K H p ys ∨ SqT X.K H p ys) ∧ ∀ l, H l = none → Q (.ref l) (upd H l (.lst ys))) := by
  intro pins s σ H xs us Q I r h
  obtain ⟨p, ys, rfl, hq, q⟩ := h
  obtain ⟨u, rfl, rx⟩ := vals1 r
  cases rx
  have fin : ∀ (its : List Value), Vals ys its → ys.length ≤ sizeLine → ∀ (h' : Heap) (c' : Nat), (∀ b o', s.heap.get? b = some o' → h'.get? b = some o') →
      h'.get? s.heap.objs.size = some { cls := .type "list", dict := none, data := .seq its.toArray c', slots := #[] } → EP X pins σ Q (.ref s.heap.objs.size) { s with heap := h' } := fun its r' hz h' c' kp e =>
    ⟨.ref s.heap.objs.size, _, I.laid (t' := s.toks) kp (Nat.le_refl _) (show ObjOk X.prog X.w _ h' _ (.lst ys) from ⟨hz, its, c', r', e⟩), rfl, q _ (I.hok.fresh (Nat.le_refl _))⟩
  rcases hq with hq | hq
  · obtain ⟨its, r', pl, hz⟩ := I.list hq
    have hlen := r'.length
    obtain ⟨o, ho, hc, n, hd⟩ := pl.isList
    exact call_list_seq p (.inl rfl) ho hc hd (fun h' c' kp e => fin its r' hz h' c' kp e) (by simp only [List.size_toArray] <;> omega)
  · obtain ⟨its, r', pl, hz⟩ := I.tuple hq
    have hlen := r'.length
    obtain ⟨o, ho, hc, n, hd⟩ := pl
    exact call_list_seq p (.inr rfl) ho hc hd (fun h' c' kp e => fin its r' hz h' c' kp e) (by simp only [List.size_toArray] <;> omega)
theorem call_tuple_of : CallR X (.type "tuple") (fun xs H Q => ∃ p ys, xs = [.ref p] ∧ ((SqL X.K H p ys ∧ ∀ l, H l = none → Q (.ref l) (upd H l (.tup ys))) ∨ (SqT X.K H p ys ∧ Q (.ref p) H))) := by
  intro pins s σ H xs us Q I r h
  obtain ⟨p, ys, rfl, h⟩ := h
  obtain ⟨u, rfl, rx⟩ := vals1 r
  cases rx
  rcases h with ⟨hq, q⟩ | ⟨hq, q⟩
  · obtain ⟨its, r', pl, hz⟩ := I.list hq
    have hlen := r'.length
    refine call_tuple_list pl.isList (fun h' kp => ?_) (by simp only [List.size_toArray] <;> omega)
    have I1 : Inv X pins σ H { s with heap := h' } := I.kept (t' := s.toks) kp
    have I2 : Inv X pins σ (upd H h'.objs.size (.tup ys)) { s with heap := h'.push { cls := .type "tuple", data := .seq its.toArray } } :=
      I1.laid (t' := s.toks) (fun b o e => Heap.get?_push_of_some _ e) (Nat.le_refl _) (show ObjOk X.prog X.w _ _ _ (.tup ys) from ⟨hz, its, r', IsTup.new _ _⟩)
    exact ⟨.ref h'.objs.size, _, I2, rfl, q _ (I1.hok.fresh (Nat.le_refl _))⟩
  · obtain ⟨its, r', pl, hz⟩ := I.tuple hq
    exact call_tuple_same pl ⟨.ref p, H, I, rfl, q⟩

/-! ### the call of a builtin's method: o.m(..) -/
/-- the value is of that builtin type -/
def tyV (K : PySem.W.Frag) (T : String) (x : V) (H : Hp) : Prop := match x with
  | .str _ => T = "str"
  | .int _ => T = "int"
  | .ref p => (T = "list" ∧ ∃ xs, SqL K H p xs) ∨ (T = "tuple" ∧ ∃ o, K.lookup p = some o ∧ o.cls = .type "tuple" ∧ o.dict = none) ∨
      (T = "dict" ∧ ((∃ kvs, H p = some (.dK kvs)) ∨ ∃ kvs, H p = some (.dT kvs))) ∨ (T = "set" ∧ ∃ S n, H p = some (.set S n))
  | _ => False
theorem tyV_is {pins : List (Addr × Obj)} {σ : St} {H : Hp} {s : Shared} {T : String} {x : V} {v : Value} (I : Inv X pins σ H s) (r : RelV x v) (ty : tyV X.K T x H) :
    s.TypeIs v T ∧ ∀ a, v = .ref a → ∃ ob, s.heap.get? a = some ob ∧ ob.dict = none := by
  cases x with
  | str z =>
    obtain ⟨t, rfl⟩ := r
    cases (show T = "str" from ty)
    exact ⟨typeIs_str s z t, fun _ e => nomatch e⟩
  | int i =>
    obtain ⟨t, rfl⟩ := r
    cases (show T = "int" from ty)
    exact ⟨typeIs_int s i t, fun _ e => nomatch e⟩
  | ref p =>
    cases r
    rcases ty with ⟨rfl, xs, hq⟩ | ⟨rfl, o, hk, hc, hd⟩ | ⟨rfl, hk⟩ | ⟨rfl, S, n, hk⟩
    · obtain ⟨its, _, pl, _⟩ := I.list hq
      refine ⟨pl.isList.typeIs, fun a e => ?_⟩
      cases e
      obtain ⟨o, n, e, c, hd, _⟩ := pl
      exact ⟨o, e, hd⟩
    · refine ⟨⟨o, I.kIn p o hk, hc⟩, fun a e => ?_⟩
      cases e
      exact ⟨o, I.kIn _ o hk, hd⟩
    · have z : ∃ o, s.heap.get? p = some o ∧ o.ExactDict := by
        rcases hk with ⟨kvs, hk⟩ | ⟨kvs, hk⟩
        · obtain ⟨_, _, _, _, o, _, _, e, ex, _⟩ := I.hok p _ hk
          exact ⟨o, e, ex⟩
        · obtain ⟨_, _, _, _, o, _, _, e, ex, _⟩ := I.hok p _ hk
          exact ⟨o, e, ex⟩
      obtain ⟨o, e, ex⟩ := z
      refine ⟨⟨o, e, ex.1⟩, fun a e2 => ?_⟩
      cases e2
      exact ⟨o, e, ex.2.1⟩
    · obtain ⟨o, _, _, _, e, ex, _⟩ := I.hok p _ hk
      refine ⟨⟨o, e, ex.1⟩, fun a e2 => ?_⟩
      cases e2
      exact ⟨o, e, ex.2.1⟩
  | _ => exact False.elim ty
def tBM0 (K : PySem.W.Frag) (T : String) (r : V → List V → Hp → VK → Prop) (to : TE) : TE := fun σ H Q => to σ H fun x H1 => tyV K T x H1 ∧ r x [] H1 Q
def tBM (K : PySem.W.Frag) (T : String) (r : V → List V → Hp → VK → Prop) (to : TE) (t : TA) : TE := fun σ H Q => to σ H fun x H1 => tyV K T x H1 ∧ t σ H1 fun xs H2 => r x xs H2 Q
variable {o e : Expr} {es : List Expr} {to : TE} {t : TA} {name : Str} {apos cpos : Pos} {T id : String} {r : V → List V → Hp → VK → Prop}
theorem pe_bm0 (pa : PlainAttrs T) (slot : Slot T name id) (hty : typeOf (.builtin id) = pure (.type "method_descriptor")) (hm : MtR X id r) (ho : PE X o to)
    (hbase : attributeBase o name X.env (eval o X.env) = eval o X.env := by rfl) (hline : (apos.endLine == cpos.line) = true := by rfl) : PE X (.Call (.Attribute o name apos) [] [] cpos) (tBM0 X.K T r to) := by
  intro pins s σ H Q I h
  refine wpAny_Call_method0_late hbase hline (thn (ho pins s σ H _ I h) fun v s1 ⟨x, H1, I1, r1, ty, q1⟩ => ?_)
  obtain ⟨h1, h2⟩ := tyV_is I1 r1 ty
  exact ⟨T, id, pa, slot, hty, h1, h2, Calls.callWith_builtin rfl (PySem.evalArgs_none (hm pins s1 σ H1 x [] v [] Q I1 r1 .nil q1))⟩
theorem pe_bm (pa : PlainAttrs T) (slot : Slot T name id) (hty : typeOf (.builtin id) = pure (.type "method_descriptor")) (hm : MtR X id r) (ho : PE X o to) (ha : PA X (e :: es) t)
    (hbase : attributeBase o name X.env (eval o X.env) = eval o X.env := by rfl)
    (hfew : ((backTo cpos (starEach (e :: es) X.env)).all (fun x => !x.1) && (backToKw cpos (keywordEach [] X.env)).all (fun x => x.1.isSome)
      && decide ((e :: es).length + ([] : List Keyword).length + (if ([] : List Keyword).isEmpty then 0 else 1) < 30)) = true := by rfl)
    (hline : (apos.endLine == cpos.line) = true := by rfl) (hs : starEach (e :: es) X.env = (false, eval e X.env) :: starEach es X.env := by rfl) (hplain : (backTo cpos (starEach es X.env)).any (·.1) = false := by rfl) :
    PE X (.Call (.Attribute o name apos) (e :: es) [] cpos) (tBM X.K T r to t) := by
  intro pins s σ H Q I h
  refine wpAny_Call_method_late hbase hfew hline rfl (thn (ho pins s σ H _ I h) fun v s1 ⟨x, H1, I1, r1, ty, q1⟩ => ?_)
  obtain ⟨h1, h2⟩ := tyV_is I1 r1 ty
  refine ⟨T, id, pa, slot, hty, h1, h2, ?_⟩
  have hA := ha cpos pins s1 σ H1 _ I1 q1
  rw [hs] at hA ⊢
  refine Calls.callWith_builtin (by show (false || (backTo cpos (starEach es X.env)).any (·.1)) = false; rw [hplain] <;> rfl) (Calls.evalArgs_plain ?_)
  exact thn hA fun us s2 ⟨vs, H2, I2, r2, q2⟩ => hm pins s2 σ H2 x vs v us Q I2 r1 r2 q2
/- xs.append(e), list.index on a module's tuple .. are MtR facts of 06m -/
end
end L2

namespace L2
open PySem PySem.Spec PyProof.Rows

def MtM (X : Cx) (id : String) (r : V → List V → Hp → VK → Prop) : Prop :=
  ∀ (pins : List (Addr × Obj)) (s : Shared) (σ : St) (H : Hp) (x : V) (xs : List V) (v : Value) (us : List Value) (Q : VK), Inv X pins σ H s → RelV x v → Vals xs us → r x xs H Q →
    wpAny (model X.prog X.w) X.A (call (.builtin id) (v :: us)) (EP X pins σ Q) X.xe s

/-! ### lists of values -/
theorem Vals.one : ∀ {x : V} {us : List Value}, Vals [x] us → ∃ u, us = [u] ∧ RelV x u
  | _, _, .cons r .nil => ⟨_, rfl, r⟩
theorem Vals.two : ∀ {x y : V} {us : List Value}, Vals [x, y] us → ∃ u v, us = [u, v] ∧ RelV x u ∧ RelV y v
  | _, _, _, .cons r (.cons q .nil) => ⟨_, _, rfl, r, q⟩
theorem Vals.zero : ∀ {us : List Value}, Vals [] us → us = []
  | _, .nil => rfl
theorem Vals.dropLast {xs : List V} {us : List Value} (h : Vals xs us) : Vals xs.dropLast us.dropLast := by
  induction h with
  | nil => exact .nil
  | cons r t ih =>
    cases t with
    | nil => exact .nil
    | cons q t' => exact .cons r ih
theorem Vals.eraseIdx : ∀ {xs : List V} {us : List Value} (i : Nat), Vals xs us → Vals (xs.eraseIdx i) (us.eraseIdx i)
  | _, _, _, .nil => .nil
  | _, _, 0, .cons _ t => t
  | _, _, i + 1, .cons r t => .cons r (Vals.eraseIdx i t)
theorem Vals.reverse {xs : List V} {us : List Value} (h : Vals xs us) : Vals xs.reverse us.reverse := by
  induction h with
  | nil => exact .nil
  | cons r t ih => rw [List.reverse_cons, List.reverse_cons]; exact Vals.append ih (.cons r .nil)
theorem Vals.rep {xs : List V} {us : List Value} (h : Vals xs us) : ∀ k : Nat, Vals (List.replicate k xs).flatten (List.replicate k us).flatten
  | 0 => .nil
  | k + 1 => by
    rw [List.replicate_succ, List.replicate_succ, List.flatten_cons, List.flatten_cons]
    exact Vals.append h (Vals.rep h k)
theorem erase_last {α : Type} (l : List α) : l.eraseIdx (l.length - 1) = l.dropLast := by
  induction l with
  | nil => rfl
  | cons a r ih =>
    cases r with
    | nil => rfl
    | cons b r =>
      have e : (a :: b :: r).length - 1 = ((b :: r).length - 1) + 1 := by
        have h1 : (a :: b :: r).length = r.length + 2 := rfl
        have h2 : (b :: r).length = r.length + 1 := rfl
        omega
      rw [e, List.eraseIdx_cons_succ, ih]
      all_goals rfl
theorem len_erase {α : Type} : ∀ (l : List α) (i : Nat), (l.eraseIdx i).length ≤ l.length
  | [], _ => Nat.le_refl _
  | _ :: _, 0 => Nat.le_succ _
  | _ :: r, i + 1 => Nat.succ_le_succ (len_erase r i)
theorem foldl_rep (its : List Value) : ∀ (k : Nat) (acc : List Value),
    List.foldl (fun x1 x2 => x1 ++ x2) acc.toArray (List.replicate k its.toArray) = (acc ++ (List.replicate k its).flatten).toArray
  | 0, acc => by simp
  | k + 1, acc => by
    have e : acc.toArray ++ its.toArray = (acc ++ its).toArray := by simp
    have e2 : (acc ++ its) ++ (List.replicate k its).flatten = acc ++ (List.replicate (k + 1) its).flatten := by
      rw [List.replicate_succ, List.flatten_cons, List.append_assoc]
    rw [← e2, ← foldl_rep its k (acc ++ its), ← e, List.replicate_succ, List.foldl_cons]

section
variable {X : Cx} {pins : List (Addr × Obj)} {σ : St} {H : Hp} {s : Shared} {l b : Addr} {xs ys zs : List V}

/-! ### the two steps: a tracked list is rewritten, a new list is laid -/
theorem Inv.lset {its its' : List Value} {n : Nat} {f : Array Value → Array Value} {t' : Nat} (I : Inv X pins σ H s) (hH : H l = some (.lst xs))
    (e : s.heap.get? l = some { cls := .type "list", data := .seq its.toArray n }) (hf : f its.toArray = its'.toArray) (hv : Vals ys its') (hz : ys.length ≤ sizeLine) :
    Inv X pins σ (upd H l (.lst ys)) { s with heap := s.heap.update l (Obj.mapSeq f), toks := t' } := by
  have q := PySem.IsL.update e f
  rw [hf] at q
  refine I.write (x := l) (e := l) (by rw [hH]; exact trivial) (.inl rfl) (fun b' u hb hu => (Heap.get?_update_other s.heap (Obj.mapSeq f) (Ne.symm hb)).trans hu) ⟨_, q⟩ ?_
  exact ⟨hz, its', _, hv, q⟩
theorem Inv.lnew {its : List Value} {t' : Nat} (I : Inv X pins σ H s) (hv : Vals ys its) (hz : ys.length ≤ sizeLine) :
    Inv X pins σ (upd H s.heap.objs.size (.lst ys)) { s with heap := s.heap.push { cls := .type "list", data := .seq its.toArray }, toks := t' } :=
  I.laid (fun _ _ q => Heap.get?_push_of_some _ q) (Nat.le_refl _) ⟨hz, its, 0, hv, Heap.get?_push_size _ rfl⟩
theorem Inv.fresh (I : Inv X pins σ H s) : H s.heap.objs.size = none := I.hok.fresh (Nat.le_refl _)
theorem Inv.lstM (I : Inv X pins σ H s) (hH : H l = some (.lst xs)) : xs.length ≤ sizeLine ∧ ∃ (its : List Value) (n : Nat), Vals xs its ∧ xs.length = its.length ∧ s.heap.get? l = some { cls := .type "list", data := .seq its.toArray n } := by
  obtain ⟨z, its, n, r, e⟩ := I.hok l _ hH
  exact ⟨z, its, n, r, r.length, e⟩

theorem notLongL {n : Nat} (h : n ≤ sizeLine) : Builtin.List.listTooLong n = false := by
  unfold Builtin.List.listTooLong
  exact decide_eq_false (by omega)
end

section
variable {X : Cx}

/-! ### methods -/
def rAppend : V → List V → Hp → VK → Prop := fun x vs H Q => ∃ l xs y, x = .ref l ∧ vs = [y] ∧ H l = some (.lst xs) ∧ xs.length < sizeLine ∧ Q .non (upd H l (.lst (xs ++ [y])))
theorem mt_append : MtM X "list.append" rAppend := by
  intro pins s σ H x vs v us Q I rx rv h
  obtain ⟨l, xs, y, rfl, rfl, hH, hz, q⟩ := h
  cases rx
  obtain ⟨u, rfl, ru⟩ := rv.one
  obtain ⟨z, its, n, r, hl, e⟩ := I.lstM hH
  refine call_meets F.slot_list_append ⟨_, e, rfl⟩ F.entry_list_append (F.args_list_append_2 _ _) (PySem.list_append l its.toArray n u (by rw [List.size_toArray]; omega)) ⟨e, ?_⟩
  refine ⟨.non, _, I.lset (its' := its ++ [u]) hH e (by simp) (r.append (.cons ru .nil)) ?_, rfl, q⟩
  rw [List.length_append, List.length_singleton]
  omega

def rExtend : V → List V → Hp → VK → Prop := fun x vs H Q => ∃ l b xs zs, x = .ref l ∧ vs = [.ref b] ∧ H l = some (.lst xs) ∧ H b = some (.lst zs) ∧ xs.length + zs.length ≤ sizeLine ∧ Q .non (upd H l (.lst (xs ++ zs)))
theorem mt_extend : MtM X "list.extend" rExtend := by
  intro pins s σ H x vs v us Q I rx rv h
  obtain ⟨l, b, xs, zs, rfl, rfl, hH, hB, hz, q⟩ := h
  cases rx
  obtain ⟨u, rfl, ru⟩ := rv.one
  cases ru
  obtain ⟨z, its, n, r, hl, e⟩ := I.lstM hH
  obtain ⟨z2, its2, n2, r2, hl2, e2⟩ := I.lstM hB
  have hsz : its.toArray.size + its2.toArray.size ≤ sizeLine := by rw [List.size_toArray, List.size_toArray]; omega
  have hlong : ¬ (!its.toArray.isEmpty && Builtin.List.listTooLong (its.toArray.size + its2.toArray.size)) = true := by
    rw [notLongL hsz, Bool.and_false]
    exact Bool.false_ne_true
  refine call_meets F.slot_list_extend ⟨_, e, rfl⟩ F.entry_list_extend (F.args_list_extend_2 _ _)
    (AutoSeq1.list_extend_list_list_0 l its.toArray n b its2.toArray n2 hlong (by rw [List.size_toArray]; omega) (by omega)) ⟨e, e2, ?_⟩
  refine ⟨.non, _, I.lset (its' := its ++ its2) hH e (by simp) (r.append r2) ?_, rfl, q⟩
  rw [List.length_append]
  omega

def rPop : V → List V → Hp → VK → Prop := fun x vs H Q => ∃ l xs y, x = .ref l ∧ vs = [] ∧ H l = some (.lst xs) ∧ xs[xs.length - 1]? = some y ∧ Q y (upd H l (.lst xs.dropLast))
theorem mt_pop : MtM X "list.pop" rPop := by
  intro pins s σ H x vs v us Q I rx rv h
  obtain ⟨l, xs, y, rfl, rfl, hH, hy, q⟩ := h
  cases rx
  have hus := rv.zero
  subst hus
  obtain ⟨z, its, n, r, hl, e⟩ := I.lstM hH
  obtain ⟨u, hu, ru⟩ := r.get hy
  have hy' : its.toArray[its.toArray.size - 1]? = some u := by
    show its.toArray[its.length - 1]? = some u
    rw [← Array.getElem?_toList, ← hl]
    exact hu
  refine call_meets F.slot_list_pop ⟨_, e, rfl⟩ F.entry_list_pop (F.args_list_pop_1 _) (MeetsSeq.list_pop_last l its.toArray n u hy' (by rw [List.size_toArray]; omega)) ⟨e, ?_⟩
  refine ⟨y, _, I.lset (its' := its.dropLast) hH e ?_ r.dropLast ?_, ru, q⟩
  · show its.toArray.eraseIdxIfInBounds (its.toArray.size - 1) = its.dropLast.toArray
    rw [List.size_toArray, List.eraseIdxIfInBounds_toArray, erase_last]
  · rw [List.length_dropLast]
    omega

def rPopAt : V → List V → Hp → VK → Prop := fun x vs H Q => ∃ l xs i k y, x = .ref l ∧ vs = [.int i] ∧ H l = some (.lst xs) ∧ -(2 ^ 63) ≤ i ∧ i < 2 ^ 63 ∧ seqIndex? i xs.length = some k ∧ xs[k]? = some y ∧ Q y (upd H l (.lst (xs.eraseIdx k)))
theorem mt_popAt : MtM X "list.pop" rPopAt := by
  intro pins s σ H x vs v us Q I rx rv h
  obtain ⟨l, xs, i, k, y, rfl, rfl, hH, h1, h2, hk, hy, q⟩ := h
  cases rx
  obtain ⟨u, rfl, ru⟩ := rv.one
  obtain ⟨t, rfl⟩ := ru
  obtain ⟨z, its, n, r, hl, e⟩ := I.lstM hH
  obtain ⟨w, hw, rw'⟩ := r.get hy
  refine call_meets F.slot_list_pop ⟨_, e, rfl⟩ F.entry_list_pop (F.args_list_pop_2 _ _)
    (MeetsSeq.list_pop_at l its.toArray n i t k w (fitsIndex_both h1 h2) (by rw [List.size_toArray, ← hl]; exact hk) (by rw [← Array.getElem?_toList]; exact hw) (by rw [List.size_toArray]; omega)) ⟨e, ?_⟩
  refine ⟨y, _, I.lset (its' := its.eraseIdx k) hH e ?_ (r.eraseIdx k) ?_, rw', q⟩
  · show its.toArray.eraseIdxIfInBounds k = (its.eraseIdx k).toArray
    rw [List.eraseIdxIfInBounds_toArray]
  · have := len_erase xs k
    omega

def rReverse : V → List V → Hp → VK → Prop := fun x vs H Q => ∃ l xs, x = .ref l ∧ vs = [] ∧ H l = some (.lst xs) ∧ Q .non (upd H l (.lst xs.reverse))
theorem mt_reverse : MtM X "list.reverse" rReverse := by
  intro pins s σ H x vs v us Q I rx rv h
  obtain ⟨l, xs, rfl, rfl, hH, q⟩ := h
  cases rx
  have hus := rv.zero
  subst hus
  obtain ⟨z, its, n, r, hl, e⟩ := I.lstM hH
  refine call_meets F.slot_list_reverse ⟨_, e, rfl⟩ F.entry_list_reverse (F.args_list_reverse_1 _) (AutoSeq1.list_reverse_list_0 l its.toArray n (by rw [List.size_toArray]; omega)) ⟨e, ?_⟩
  refine ⟨.non, _, I.lset (its' := its.reverse) hH e (by simp) r.reverse ?_, rfl, q⟩
  rw [List.length_reverse]
  omega

def rClear : V → List V → Hp → VK → Prop := fun x vs H Q => ∃ l xs, x = .ref l ∧ vs = [] ∧ H l = some (.lst xs) ∧ Q .non (upd H l (.lst []))
theorem mt_clear : MtM X "list.clear" rClear := by
  intro pins s σ H x vs v us Q I rx rv h
  obtain ⟨l, xs, rfl, rfl, hH, q⟩ := h
  cases rx
  have hus := rv.zero
  subst hus
  obtain ⟨z, its, n, r, hl, e⟩ := I.lstM hH
  refine call_meets F.slot_list_clear ⟨_, e, rfl⟩ F.entry_list_clear (F.args_list_clear_1 _) (AutoSeq1.list_clear_list_0 l its.toArray n (by rw [List.size_toArray]; omega)) ⟨e, ?_⟩
  exact ⟨.non, _, I.lset (its' := []) (ys := []) hH e rfl .nil (Nat.zero_le _), rfl, q⟩

/-! ### list + list, list += list, list * int -/
def rCat : R2 := fun x y H Q => ∃ l b xs zs, x = .ref l ∧ y = .ref b ∧ H l = some (.lst xs) ∧ H b = some (.lst zs) ∧ xs.length + zs.length ≤ sizeLine ∧ ∀ p, H p = none → Q (.ref p) (upd H p (.lst (xs ++ zs)))
theorem op_cat : OpR X (binaryOp .Add) rCat := by
  intro pins s σ H x y v u Q I rx ry h
  obtain ⟨l, b, xs, zs, rfl, rfl, hH, hB, hz, q⟩ := h
  cases rx
  cases ry
  obtain ⟨z, its, n, r, hl, e⟩ := I.lstM hH
  obtain ⟨z2, its2, n2, r2, hl2, e2⟩ := I.lstM hB
  refine PySem.P.add_list e e2 ?_ (by rw [List.size_toArray, List.size_toArray]; omega)
  have ea : its.toArray ++ its2.toArray = (its ++ its2).toArray := by simp
  rw [ea]
  exact ⟨.ref _, _, I.lnew (t' := s.toks) (r.append r2) (by rw [List.length_append]; omega), rfl, q _ I.fresh⟩
/-- a list times an int (a negative one is nothing) -/
def rRep : R2 := fun x y H Q => ∃ l k xs, x = .ref l ∧ y = .int k ∧ H l = some (.lst xs) ∧ -(2 ^ 63) ≤ k ∧ k < 2 ^ 63 ∧ xs.length * k.toNat ≤ sizeLine ∧
  ∀ p, H p = none → Q (.ref p) (upd H p (.lst (List.replicate k.toNat xs).flatten))
theorem len_rep {α : Type} (xs : List α) (k : Nat) : (List.replicate k xs).flatten.length = k * xs.length := by
  induction k with
  | zero => simp
  | succ k ih => rw [List.replicate_succ, List.flatten_cons, List.length_append, ih, Nat.succ_mul, Nat.add_comm]
theorem op_rep : OpR X (binaryOp .Mult) rRep := by
  intro pins s σ H x y v u Q I rx ry h
  obtain ⟨l, k, xs, rfl, rfl, hH, h1, h2, hz, q⟩ := h
  cases rx
  obtain ⟨t, rfl⟩ := ry
  obtain ⟨z, its, n, r, hl, e⟩ := I.lstM hH
  have hlen : its.toArray.size * k.toNat ≤ sizeLine := by rw [List.size_toArray, ← hl]; exact hz
  have hcap : ¬ its.toArray.size * k.toNat > (2 ^ 63 - 1) / 8 := by
    have : (sizeLine : Nat) ≤ (2 ^ 63 - 1) / 8 := by decide
    omega
  have hfit : ¬ (!Builtin.List.listFitsIndex k) = true := by
    rw [fitsIndex_both h1 h2]
    exact Bool.false_ne_true
  have hlong : ¬ Builtin.List.listTooLong (its.toArray.size * k.toNat) = true := by
    rw [notLongL hlen]
    exact Bool.false_ne_true
  have hnew : List.foldl (fun x1 x2 => x1 ++ x2) #[] (List.replicate (if its.toArray.isEmpty = true then 0 else k.toNat) its.toArray) = (List.replicate k.toNat its).flatten.toArray := by
    have f0 : ∀ m : Nat, List.foldl (fun x1 x2 => x1 ++ x2) #[] (List.replicate m its.toArray) = (List.replicate m its).flatten.toArray := fun m => by
      have := foldl_rep its m []
      rw [List.nil_append] at this
      exact this
    rw [f0]
    cases its with
    | nil => simp
    | cons a r' => rw [if_neg (by simp)]
  refine wpAny_binaryOp_repeat_ref (T := "list") (U := "int") (by decide) ⟨_, e, rfl⟩ (fun s' => typeIs_int s' k t) noFill_list_mul F.fills_int_mul F.slot_int_rmul repeat_list F.slot_int_index.lookup
    (call_meets F.slot_int_rmul (typeIs_int s k t) F.entry_int_rmul (F.args_int_rmul_2 _ _) (int___rmul___int_list k t l its.toArray n)
      ⟨e, rfl, ⟨_, e, rfl⟩, call_meets F.slot_list_mul ⟨_, e, rfl⟩ F.entry_list_mul (F.args_list_mul_2 _ _) (AutoListH.list___mul___list_int_3 l its.toArray n k t hfit hcap hlong) ⟨e, ?_⟩⟩)
  rw [hnew]
  exact ⟨.ref _, _, I.lnew (t' := s.toks) (r.rep k.toNat) (by rw [len_rep, Nat.mul_comm]; exact hz), rfl, q _ I.fresh⟩

/-! ### del xs[i] -/
theorem del_list {pins : List (Addr × Obj)} {s : Shared} {σ : St} {H : Hp} {l : Addr} {xs : List V} {i : Int} {t : Tok} {k : Nat} {Q : Unit → Shared → Prop} (I : Inv X pins σ H s) (hH : H l = some (.lst xs))
    (h1 : -(2 ^ 63) ≤ i) (h2 : i < 2 ^ 63) (hk : seqIndex? i xs.length = some k) (h : ∀ s', Inv X pins σ (upd H l (.lst (xs.eraseIdx k))) s' → Q () s') :
    wpAny (model X.prog X.w) X.A (delItem (.ref l) (.int i t)) Q X.xe s := by
  obtain ⟨z, its, n, r, hl, e⟩ := I.lstM hH
  refine PySem.P.delItem_list (k := k) e (fitsIndex_both h1 h2) (by rw [List.size_toArray, ← hl]; exact hk) (h _ ?_) (by rw [List.size_toArray]; omega)
  refine I.lset (its' := its.eraseIdx k) (t' := s.toks) hH e ?_ (r.eraseIdx k) ?_
  · show its.toArray.eraseIdxIfInBounds k = (its.eraseIdx k).toArray
    rw [List.eraseIdxIfInBounds_toArray]
  · have := len_erase xs k
    omega
end

/-! ### xs[a:b] = ys -/
section
variable {prog : Program} {w : World} {A : Around} {E : Value → Shared → Prop} {s : Shared}
theorem splice_eq (its its2 : List Value) (a c : Nat) : its.toArray.extract 0 a ++ its2.toArray ++ its.toArray.extract c its.toArray.size = (its.take a ++ its2 ++ its.drop c).toArray := by
  apply Array.toList_inj.mp
  first
    | (simp
       exact List.take_of_length_le (by simp))
    | simp [List.take_of_length_le]
    | simp
theorem bounds_run {a c n : Nat} (hac : a ≤ c) (hc : c ≤ n) : sliceBounds (some (a : Int)) (some (c : Int)) none n = ((a : Int), (c : Int), 1) := by
  simp only [sliceBounds, Option.getD_none]
  have h1 : ¬ ((a : Int) < 0) := by omega
  have h2 : ¬ ((c : Int) < 0) := by omega
  simp only [h1, h2, if_false, show (1 : Int) > 0 by decide, if_true]
  congr 1
  · omega
  · congr 1; omega
set_option maxRecDepth 100000 in
/-- list.__setitem__ with a slice of step one and another list -/
theorem setItem_slice {l b sl : Addr} {items new : Array Value} {n n2 : Nat} {vl vu : Value} {a c : Nat} {Q : Unit → Shared → Prop}
    (e : s.heap.get? l = some { cls := .type "list", data := .seq items n }) (e2 : s.heap.get? b = some { cls := .type "list", data := .seq new n2 }) (hne : l ≠ b)
    (hs : s.heap.IsSliceOf sl vl vu .none) (pl : IsPart vl (some (a : Int))) (pu : IsPart vu (some (c : Int))) (hac : a ≤ c) (hc : c ≤ items.size)
    (hsz : items.size + new.size ≤ sizeLine) (h : Q () { s with heap := s.heap.update l (Obj.mapSeq fun xs => xs.extract 0 a ++ new ++ xs.extract c xs.size) }) :
    wpAny (model prog w) A (setItem (.ref l) (.ref sl) (.ref b)) Q E s := by
  have hl : s.heap.IsList l items := PySem.IsL.isList e
  have hb : s.heap.IsList b new := PySem.IsL.isList e2
  obtain ⟨os, hos, hcs, hds⟩ := id hs
  have hTs : s.TypeIs (.ref sl) "slice" := ⟨os, hos, hcs⟩
  have hstep : ¬ ((rawPart none == rawInt 0) = true) := Bool.false_ne_true
  have hsame : Builtin.List.listSameRef (.ref l) (.ref b) = false := by
    unfold Builtin.List.listSameRef
    exact beq_eq_false_iff_ne.mpr hne
  have hmax : (max (a : Int) (c : Int)).toNat = c := by omega
  have hz' : ((fun xs : Array Value => xs.extract 0 a ++ new ++ xs.extract c xs.size) items).size ≤ sizeLine + 1 := by
    simp only [Array.size_append, Array.size_extract]
    omega
  unfold setItem
  try with_reducible refine wpAny_holding ?_
  first | refine wpAny_bind (wpAny_pure ?_) | skip
  refine wpAny_bind (wpAny_sequenceKey hl.typeIs (by decide) ?_)
  refine wpAny_bind (wpAny_callSpecial?_slot (name := Str.ofString "__setitem__") hl.typeIs slot_list_setitem
    (wpAny_call_entry slot_list_setitem hl.typeIs entry_list_setitem ?_ (args_list_setitem _ _ _)))
  show wpAny _ _ (Builtin.List.listSubscript? (.ref sl) >>= _) _ _ s
  refine wpAny_bind ?_
  unfold Builtin.List.listSubscript?
  refine wpAny_bind (wpAny_specialOf hTs slice_no_index ?_)
  simp only [Option.isNone_none, if_true]
  refine wpAny_pure ?_
  show wpAny _ _ (typeOf (.ref sl) >>= _) _ _ s
  refine wpAny_bind (wpAny_typeOf hTs ?_)
  first
    | rw [if_neg (by decide)]
    | refine PySem.W.KFB.if_not (by decide) ?_
  rw [listSliceParts_eq]
  refine wpAny_bind (wpAny_bind (wpAny_field hos hds (x := .none) rfl (wpAny_bind (wpAny_listPart .none ?_))))
  rw [if_neg hstep]
  refine wpAny_bind (wpAny_field hos hds (x := vl) rfl (wpAny_bind (wpAny_listPart pl ?_)))
  refine wpAny_bind (wpAny_field hos hds (x := vu) rfl (wpAny_bind (wpAny_listPart pu (wpAny_pure ?_))))
  first
    | simp only [hsame, Bool.false_eq_true, if_false]
    | refine PySem.W.KFB.if_not hsame ?_
    | (dsimp only
       rw [if_neg (by rw [hsame]; exact Bool.false_ne_true)])
  refine wpAny_bind (m := Builtin.List.listAllItems (.ref b) "must assign iterable to extended slice") ?_
  unfold Builtin.List.listAllItems
  refine wpAny_bind (wpAny_typeOf hb.typeIs ?_)
  first
    | refine PySem.W.KFB.if_so (by decide) ?_
    | rw [if_pos (by decide)]
    | simp only [beq_self_eq_true, Bool.true_or, if_true]
  unfold Builtin.List.listItems
  refine wpAny_bind (wpAny_seqItems e2 rfl (wpAny_pure ?_))
  refine wpAny_bind (wpAny_bind (wpAny_seqItems e rfl (wpAny_pure ?_)))
  refine wpAny_bind (wpAny_of_eq ((sliceIndices_raw (some (a : Int)) (some (c : Int)) none items.size (by simp)).trans (congrArg (pure : Int × Int × Int → Sem (Int × Int × Int)) (bounds_run hac hc))) ?_)
  show wpAny _ _ (if ((1 : Int) == 1) = true then _ else _) _ _ s
  rw [if_pos (by decide)]
  refine wpAny_bind (wpAny_rule ?_)
  first
    | simp only [notLongL hsz, Bool.false_eq_true, if_false]
    | refine PySem.W.KFB.if_not (notLongL hsz) ?_
  first | refine wpAny_bind (wpAny_pure ?_) | skip
  show wpAny _ _ (updateSeq l (fun xs => xs.extract 0 ((a : Int)).toNat ++ new ++ xs.extract (max (a : Int) (c : Int)).toNat xs.size) >>= _) _ _ s
  rw [hmax, Int.toNat_natCast]
  refine wpAny_bind (wpAny_updateSeq (hz := Nat.le_trans (Nat.le_add_right _ _) hsz) (_hz' := hz') e rfl ?_)
  refine wpAny_bind (wpAny_letGo ?_)
  first
    | exact wpAny_bind (wpAny_pure (wpAny_pure ⟨.none, rfl, wpAny_pure h⟩))
    | exact wpAny_pure ⟨.none, rfl, wpAny_pure h⟩
end

section
variable {X : Cx}
/-- xs[a:c] = ys of another list, at the value level: sl is the slice object that was just made -/
theorem set_slice {pins : List (Addr × Obj)} {s : Shared} {σ : St} {H : Hp} {l b sl : Addr} {xs ys : List V} {a c : Int} {vl vu : Value} {Q : Unit → Shared → Prop} (I : Inv X pins σ H s)
    (hH : H l = some (.lst xs)) (hB : H b = some (.lst ys)) (hne : l ≠ b) (hs : s.heap.IsSliceOf sl vl vu .none) (ra : RelV (.int a) vl) (rc : RelV (.int c) vu) (h0 : 0 ≤ a) (hac : a ≤ c) (hc : c ≤ xs.length)
    (hz : xs.length + ys.length ≤ sizeLine) (h : ∀ s', Inv X pins σ (upd H l (.lst (xs.take a.toNat ++ ys ++ xs.drop c.toNat))) s' → Q () s') :
    wpAny (model X.prog X.w) X.A (setItem (.ref l) (.ref sl) (.ref b)) Q X.xe s := by
  obtain ⟨ta, rfl⟩ := ra
  obtain ⟨tc, rfl⟩ := rc
  obtain ⟨z, its, n, r, hl, e⟩ := I.lstM hH
  obtain ⟨z2, its2, n2, r2, hl2, e2⟩ := I.lstM hB
  obtain ⟨a', rfl⟩ := Int.eq_ofNat_of_zero_le h0
  obtain ⟨c', rfl⟩ := Int.eq_ofNat_of_zero_le (Int.le_trans h0 hac)
  simp only [Int.toNat_natCast] at h
  refine setItem_slice (a := a') (c := c') e e2 hne hs (.int _ _) (.int _ _) (by omega) (by rw [List.size_toArray]; omega) (by rw [List.size_toArray, List.size_toArray]; omega) (h _ ?_)
  refine I.lset (its' := its.take a' ++ its2 ++ its.drop c') (t' := s.toks) hH e ?_ (Vals.append (Vals.append (r.take _) r2) (r.drop _)) ?_
  · exact splice_eq its its2 a' c'
  · rw [List.length_append, List.length_append, List.length_take, List.length_drop]
    omega
end
end L2

namespace Att
open PySem PySem.W PySem.Calls PyProof.Rows

/-! ### the script -/
theorem ints_of_wellAll {P : Params} {h : Heap} : ∀ (ns : List Int) (vs : List Value), WellAll P h vs (ns.map WData.int) → IntsAre vs ns := by
  intro ns
  induction ns with
  | nil =>
    intro vs w
    rw [List.map_nil] at w
    cases w
    exact .nil
  | cons n ns ih =>
    intro vs w
    rw [List.map_cons] at w
    cases w with
    | cons a b =>
      cases a
      exact .cons _ _ (ih _ b)

theorem script_of {l : OpenLaw} {n : Nat} (hn : l.most = some n) {P : Params} {h : Heap} {args : List WData} {vals : List Value}
    (hpre : l.row.toRowW.claim.pre args = true) (hwl : WellAll P h vals args) :
    ∃ a vs ns, vals = [Value.ref a] ∧ args = [WData.list (ns.map WData.int)] ∧ h.get? a = some { cls := .type "list", data := .seq vs.toArray } ∧ IntsAre vs ns ∧ ns.length ≤ n := by
  have hsh : WShape.hasAll [] args [.list .int] = true := (pre_splitW hpre).1
  have hc : l.pre.holds [] { args := args } = true := (pre_splitW hpre).2
  obtain ⟨d, r, rfl, h1, h2⟩ := hasAllW_cons hsh
  obtain rfl := hasAllW_nil h2
  obtain ⟨xs, rfl, h3⟩ := hasW_list h1
  obtain ⟨ns, rfl⟩ := items_int h3
  have hlen : ns.length ≤ n := by
    unfold OpenLaw.pre at hc
    have h4 : (WTm.not (.lt (.lit (.int (n : Int))) (.len (.arg 0)))).holds [] { args := [.list (ns.map .int)] } = true := by
      have h4 := (holds_andW hc).1
      rw [hn] at h4
      exact h4
    have h5 := condW_of h4 (w_not (w_lt w_lit (w_len_list (w_arg rfl))))
    rw [List.length_map] at h5
    refine Nat.le_of_not_lt fun q => ?_
    have q' : (n : Int) < ((ns.length : Nat) : Int) := by omega
    first
      | (rw [decide_eq_true q'] at h5; exact absurd h5 (by decide))
      | (simp at h5; omega)
  cases hwl with
  | cons w1 w2 =>
    cases w2
    cases w1 with
    | list ho hall => exact ⟨_, _, ns, rfl, rfl, ho, ints_of_wellAll ns _ hall, hlen⟩

theorem post_true (l : OpenLaw) (args : List WData) : l.row.toRowW.claim.post args (.bool true) args = true :=
  postW_of (r := l.row.toRowW) (X := (true == true))
    (show WShape.has [] (.bool true) .bool = true by first | rfl | decide | simp [WShape.has, WShape.arms, WShape.armsAll])
    (show (WTm.eq .res (.lit (.bool true))).value [] { args := args, res := some (.bool true), after := args } = some (.bool (true == true)) from w_eq_bool (w_res rfl) w_lit) rfl

/-! ### the attachment: holds_open's last premise (the goal 'hc' behind k_head) from a wpAny of the law's body -/
theorem attach {l : OpenLaw} {n : Nat} {q : Program} {loose : List Str} {XP : (Str → Option Value) → Heap → Prop} {YP : World → Heap → Prop} {d : DefRec} {x : Str}
    (hn : l.most = some n) (hdf : d.params.defaults = [])
    (hbind : ∀ pm cd doc v : Value, bindArgs (docDef d.name d.params d.body d.scope pm cd doc) ⟨[v], []⟩ = pure [(x, v)])
    (hx : d.scope.names.lookup x = some .local ∨ d.scope.names.lookup x = some .cell)
    (hk : d.scope.kind = .function) (hco : d.scope.isCoroutine = false) (hgen : d.scope.isGenerator = false)
    (body : ∀ (w : World) (s₀ s₁ s : Shared) (mg mb : Str → Option Value) (fa : Addr) (o : Obj) (pm cd doc : Value) (a : Addr) (vs : List Value) (ns : List Int),
      Ground q loose [] XP w s₀ mg mb s₁.heap → YP w s₁.heap →
      s₁.heap.get? fa = some o → o.data = .func (docDef d.name d.params d.body d.scope pm cd doc) → s₁.heap.CodeRec cd d.name → mg d.name = some (.ref fa) →
      s₁.heap.get? a = some { cls := .type "list", data := .seq vs.toArray } → IntsAre vs ns → ns.length ≤ n →
      s.gens = #[] → s.os = s₁.os →
      Fr s₁.heap s₁.heap.objs.size s.heap (bindL (envOfC d.name d.scope s₁.heap.objs.size fa cd).kindOf [(x, .ref a)] fun _ => none) →
      Cl s₁.heap.objs.size (cellsFrom (s₁.heap.objs.size + 1) d.scope.names []) s.heap (bindC (envOfC d.name d.scope s₁.heap.objs.size fa cd).kindOf [(x, .ref a)] fun _ => none) →
      wpAny (model l.prog w) (callerA.deeper (envOfC d.name d.scope s₁.heap.objs.size fa cd)) (execs d.body (envOfC d.name d.scope s₁.heap.objs.size fa cd))
        (fun f s' => f = .ret (.bool true) ∧ OldK s₁.heap s'.heap ∧ s'.os = s₁.os ∧ AllBare s'.gens) (fun _ _ => False) s) :
    WalkO q loose XP YP l.row.toRowW d [] (fun f vs => PySem.call f vs) := by
  intro w s₀ s₁ mg mb G Y fa o pm cd doc dV kV ho hd hcd hD hmg hg args vals as hpre hlay hrd hwl hlo
  obtain rfl : dV = .none := Dflts.none hD hdf
  obtain rfl : kV = .none := Dflts.noKw hD
  obtain ⟨a, vs, ns, rfl, rfl, hobj, hints, hlen⟩ := script_of hn hpre hwl
  refine enter_call ?_
  refine call_cells_ret (o := o) (by rw [depth_caller]; decide) ho (fd_plain hd) G.T.nolimit hcd (hbind pm cd doc (.ref a)) (fun y hy => ?_) (fun h₁ tk F X => ?_) hco hgen hk
  · obtain rfl : y = (x, Value.ref a) := List.mem_singleton.mp hy
    rcases hx with e | e
    · exact .inl e
    · exact .inr ⟨e, cellsFrom_some _ _ _ (.inl e)⟩
  · refine wpAny_mono (body w s₀ s₁ { s₁ with heap := h₁, toks := tk } mg mb fa o pm cd doc a vs ns G Y ho (fd_plain hd) hcd hmg hobj hints hlen hg rfl F X) (fun f s' hq => ?_) (fun _ _ hq => hq)
    obtain ⟨rfl, h2, h3, h4⟩ := hq
    exact ⟨.inl ⟨.bool true, .bool true, [], rfl, fun _ => rfl, .bool true, post_true l _, fun _ => ⟨List.Pairwise.nil, fun _ hm => (nomatch hm)⟩⟩, h2, h3, h4⟩

/-- the same from a codeAny of the CALL (for a layer whose function contracts speak of calls) -/
theorem attach_call {l : OpenLaw} {n : Nat} {q : Program} {loose : List Str} {XP : (Str → Option Value) → Heap → Prop} {YP : World → Heap → Prop} {d : DefRec}
    (hn : l.most = some n) (hdf : d.params.defaults = [])
    (call : ∀ (w : World) (s₀ s₁ : Shared) (mg mb : Str → Option Value) (fa : Addr) (o : Obj) (pm cd doc : Value) (a : Addr) (vs : List Value) (ns : List Int),
      Ground q loose [] XP w s₀ mg mb s₁.heap → YP w s₁.heap →
      s₁.heap.get? fa = some o → o.data = .func (docDef d.name d.params d.body d.scope pm cd doc) → s₁.heap.CodeRec cd d.name → mg d.name = some (.ref fa) →
      s₁.heap.get? a = some { cls := .type "list", data := .seq vs.toArray } → IntsAre vs ns → ns.length ≤ n → s₁.gens = #[] →
      codeAny (model l.prog w) callerA (.call (.ref fa) ⟨[.ref a], []⟩) (fun r s' => r = .ok (.ret (.bool true)) ∧ OldK s₁.heap s'.heap ∧ s'.os = s₁.os ∧ AllBare s'.gens) s₁) :
    WalkO q loose XP YP l.row.toRowW d [] (fun f vs => PySem.call f vs) := by
  intro w s₀ s₁ mg mb G Y fa o pm cd doc dV kV ho hd hcd hD hmg hg args vals as hpre hlay hrd hwl hlo
  obtain rfl : dV = .none := Dflts.none hD hdf
  obtain rfl : kV = .none := Dflts.noKw hD
  obtain ⟨a, vs, ns, rfl, rfl, hobj, hints, hlen⟩ := script_of hn hpre hwl
  refine enter_call (codeAny_mono (call w s₀ s₁ mg mb fa o pm cd doc a vs ns G Y ho (fd_plain hd) hcd hmg hobj hints hlen hg) fun r s' hq => ?_)
  obtain ⟨rfl, h2, h3, h4⟩ := hq
  exact ⟨.inl ⟨.bool true, .bool true, [], rfl, fun _ => rfl, .bool true, post_true l _, fun _ => ⟨List.Pairwise.nil, fun _ hm => (nomatch hm)⟩⟩, h2, h3, h4⟩

/-- the same where the top left finished generators (o_head chose holds_openN): nothing may have changed at all and no generator may be left -/
theorem attachN {l : OpenLaw} {n : Nat} {q : Program} {loose : List Str} {XP : (Str → Option Value) → Heap → Prop} {YP : World → Heap → Prop} {d : DefRec} {x : Str}
    (hn : l.most = some n) (hdf : d.params.defaults = [])
    (hbind : ∀ pm cd doc v : Value, bindArgs (docDef d.name d.params d.body d.scope pm cd doc) ⟨[v], []⟩ = pure [(x, v)])
    (hx : d.scope.names.lookup x = some .local ∨ d.scope.names.lookup x = some .cell)
    (hk : d.scope.kind = .function) (hco : d.scope.isCoroutine = false) (hgen : d.scope.isGenerator = false)
    (body : ∀ (w : World) (s₀ s₁ s : Shared) (mg mb : Str → Option Value) (fa : Addr) (o : Obj) (pm cd doc : Value) (a : Addr) (vs : List Value) (ns : List Int),
      Ground q loose [] XP w s₀ mg mb s₁.heap → YP w s₁.heap →
      s₁.heap.get? fa = some o → o.data = .func (docDef d.name d.params d.body d.scope pm cd doc) → s₁.heap.CodeRec cd d.name → mg d.name = some (.ref fa) →
      s₁.heap.get? a = some { cls := .type "list", data := .seq vs.toArray } → IntsAre vs ns → ns.length ≤ n →
      s.gens = #[] → s.os = s₁.os →
      Fr s₁.heap s₁.heap.objs.size s.heap (bindL (envOfC d.name d.scope s₁.heap.objs.size fa cd).kindOf [(x, .ref a)] fun _ => none) →
      Cl s₁.heap.objs.size (cellsFrom (s₁.heap.objs.size + 1) d.scope.names []) s.heap (bindC (envOfC d.name d.scope s₁.heap.objs.size fa cd).kindOf [(x, .ref a)] fun _ => none) →
      wpAny (model l.prog w) (callerA.deeper (envOfC d.name d.scope s₁.heap.objs.size fa cd)) (execs d.body (envOfC d.name d.scope s₁.heap.objs.size fa cd))
        (fun f s' => f = .ret (.bool true) ∧ (∀ b o, s₁.heap.get? b = some o → s'.heap.get? b = some o) ∧ s'.os = s₁.os ∧ s'.gens = #[]) (fun _ _ => False) s) :
    WalkN q loose XP YP l.row.toRowW d [] (fun f vs => PySem.call f vs) := by
  intro w s₀ s₁ mg mb G Y fa o pm cd doc dV kV ho hd hcd hD hmg hg args vals as hpre hlay hrd hwl hlo
  obtain rfl : dV = .none := Dflts.none hD hdf
  obtain rfl : kV = .none := Dflts.noKw hD
  obtain ⟨a, vs, ns, rfl, rfl, hobj, hints, hlen⟩ := script_of hn hpre hwl
  refine enter_callW ?_
  refine call_cells_ret (o := o) (by rw [depth_caller]; decide) ho (fd_plain hd) G.T.nolimit hcd (hbind pm cd doc (.ref a)) (fun y hy => ?_) (fun h₁ tk F X => ?_) hco hgen hk
  · obtain rfl : y = (x, Value.ref a) := List.mem_singleton.mp hy
    rcases hx with e | e
    · exact .inl e
    · exact .inr ⟨e, cellsFrom_some _ _ _ (.inl e)⟩
  · refine wpAny_mono (body w s₀ s₁ { s₁ with heap := h₁, toks := tk } mg mb fa o pm cd doc a vs ns G Y ho (fd_plain hd) hcd hmg hobj hints hlen hg rfl F X) (fun f s' hq => ?_) (fun _ _ hq => hq)
    obtain ⟨rfl, h2, h3, h4⟩ := hq
    exact ⟨.inl ⟨.bool true, .bool true, [], rfl, fun _ => rfl, .bool true, post_true l _, fun _ => ⟨List.Pairwise.nil, fun _ hm => (nomatch hm)⟩⟩, h2, h3, h4⟩

/-! ### rules over ANY heap (no ledger) from facts about the written part K: the library's own take a ledger (News) for what they write -/
section
variable {prog : Program} {w : World} {A : Around} {E : Value → Shared → Prop} {s : Shared} {K : Frag}

/-- a def of the module, or a method (qual 'C.m'), entered: the frame is the next address; cells behind it -/
theorem call_fn {R : Result → Shared → Prop} {name qual : Str} {params : Arguments} {body : List Stmt} {scope : Scope} {dV kV doc pm cdv ct oc : Value} {an od : Option Addr} {osl : Array (Option Value)} {f : Addr} {args : Args} {binds : List (Str × Value)}
    (X : K.In s.heap) (hlim : s.heap.NoLimit) (ho : K.lookup f = some ⟨oc, od, .func (fnOf name qual params body scope dV kV doc pm an cdv ct), osl⟩) (hcd : codeIn K cdv qual = true) (hroom : A.depth < recursionLimit)
    (hbind : BindsTo s (fnOf name qual params body scope dV kV doc pm an cdv ct) args binds)
    (hkind : (binds.all fun y => scope.names.lookup y.1 == some .local || scope.names.lookup y.1 == some .cell) = true)
    (h : ∀ s₁, InCallC s s.heap.objs.size (bindL (envOfC qual scope s.heap.objs.size f cdv).kindOf binds fun _ => none) (cellsFrom (s.heap.objs.size + 1) scope.names [])
        (bindC (envOfC qual scope s.heap.objs.size f cdv).kindOf binds fun _ => none) s₁ →
      wpAny (model prog w) (A.deeper (envOfC qual scope s.heap.objs.size f cdv)) (execs body (envOfC qual scope s.heap.objs.size f cdv))
        (fun fl s' => R (.ok (.ret (match fl with | .ret v => v | _ => .none))) s')
        (fun e s' => wpAny (model prog w) (A.deeper (envOfC qual scope s.heap.objs.size f cdv)) (leaving (envOfC qual scope s.heap.objs.size f cdv) e) (fun _ s'' => R (.error e) s'') (fun e' s'' => R (.error e') s'') s') s₁)
    (hco : scope.isCoroutine = false) (hgen : scope.isGenerator = false) (hk : scope.kind = .function) : codeAny (model prog w) A (.call (.ref f) args) R s := by
  refine codeAny_call_function hroom (X _ _ ho) rfl hco hgen rfl (codeRec_of X hcd) (hbind _ _ _ _ ?_)
  refine wpAny_newFunctionEnv_cells hk (kindsX hkind _) fun env he s₁ x => ?_
  subst he
  exact ⟨hlim.keeps x.toInCall.keep, codeAny_func (h s₁ x)⟩

/-- C(..): dict at size, instance at size + 1, then __init__ -/
theorem make_obj {R : Result → Shared → Prop} {C fI : Addr} {rest : List Value} {kw : List (Str × Value)}
    (X : K.In s.heap) (hm : makesIn K C = true) (hi : findIn K (.ref C) "__init__" = some (some (.ref fI))) (hf : isFn K (.ref fI) = true)
    (h : codeAny (model prog w) (A.under (.builtin "type.__call__" ⟨.ref C :: rest, kw⟩)) (.call (.ref fI) ⟨.ref (s.heap.objs.size + 1) :: rest, kw⟩) (InitBack (s.heap.objs.size + 1) R)
      { s with heap := (s.heap.push emptyDict).push (instObj C s.heap.objs.size) }) : codeAny (model prog w) A (.call (.ref C) ⟨rest, kw⟩) R s := by
  obtain ⟨hh, g, d, t, os⟩ := s
  exact make_core (makes_of X hm) (looks_findIn X hi) (fun self => bind_fn X self (beq_iff_eq.mp hf)) (.inl rfl) h

/-- x.name where the instance's dict holds the name and the class does not -/
theorem get_field {x C : Addr} {ox : Obj} {es : List DictEntry} {n : Nat} {name : Str} {expr : Bool} {v : Value} {Q : Value → Shared → Prop}
    (X : K.In s.heap) (I : PySem.W.InstAt s.heap x ox C (some (dictOf es n))) (hg : plainGet K C name = true) (hh : hasDictIn K C = true) (ha : findIn K (.ref C) name = some none)
    (hl : getL name es = some (some v)) (hv : handedIn v = true) (h : Q v { s with toks := s.toks + 1 }) : wpAny (model prog w) A (getAttr (.ref x) name expr) Q E s :=
  get_value X I (plainGet_of hg).1 (findObj_own hh ha rfl hl) hv h

/-- x.m(..): the method found in the class -/
theorem get_method {x C f : Addr} {ox : Obj} {es : List DictEntry} {n : Nat} {name : Str} {pl : Sem Bool} {Q : Value × List Value → Shared → Prop}
    (X : K.In s.heap) (I : PySem.W.InstAt s.heap x ox C (some (dictOf es n))) (hg : plainGet K C name = true) (hf : findIn K (.ref C) name = some (some (.ref f))) (ht : isFn K (.ref f) = true)
    (hl : getL name es = some none) (h : Q (.ref f, [.ref x]) s) : wpAny (model prog w) A (getMethod (.ref x) name pl) Q E s :=
  method_fn X I (plainGet_of hg).1 (plainGet_of hg).2 hf (beq_iff_eq.mp ht) (by show (lookIn name (dictOf es n)).map _ = _; rw [lookIn_dict, hl]; rfl) h

/-! the whole heap as the ledger: makes every rule that writes through a ledger a rule over any heap -/
def noObjs (h : Heap) : Heap := { h with objs := #[] }
theorem noObjs_get (h : Heap) (b : Addr) : (noObjs h).get? b = none := by
  cases e : (noObjs h).get? b with
  | none => rfl
  | some o => exact absurd (Heap.lt_size e) (Nat.not_lt_zero _)
def ledger (h : Heap) (L d : Addr) : List (Addr × Obj) := (List.range h.objs.size).filterMap fun a => if a = L ∨ a = d then none else (h.get? a).map fun o => (a, o)
theorem mem_ledger {h : Heap} {L d a : Addr} {o : Obj} : (a, o) ∈ ledger h L d ↔ a ≠ L ∧ a ≠ d ∧ h.get? a = some o := by
  unfold ledger
  rw [List.mem_filterMap]
  constructor
  · rintro ⟨b, _, e⟩
    split at e
    · cases e
    · rename_i hb
      obtain ⟨o', ho, e'⟩ := Option.map_eq_some_iff.mp e
      cases e'
      exact ⟨fun q => hb (.inl q), fun q => hb (.inr q), ho⟩
  · rintro ⟨n1, n2, ho⟩
    refine ⟨a, List.mem_range.mpr (Heap.lt_size ho), ?_⟩
    rw [if_neg (show ¬ (a = L ∨ a = d) from fun q => q.elim n1 n2), ho] <;> rfl
theorem news_ledger {h : Heap} {L d : Addr} {od : Obj} (hne : d ≠ L) (ho : h.get? d = some od) : News (noObjs h) L h ([] ++ (d, od) :: ledger h L d) := by
  rintro ⟨a, o⟩ hp
  rcases List.mem_cons.mp hp with e | hp
  · cases e
    exact ⟨ho, hne, noObjs_get _ _⟩
  · obtain ⟨n1, n2, e⟩ := mem_ledger.mp hp
    exact ⟨e, n1, noObjs_get _ _⟩
theorem fr_all {h : Heap} {L : Addr} {m : Str → Option Value} (n : h.Ns L m) : Fr (noObjs h) L h m :=
  ⟨n, fun b o e => (by rw [noObjs_get] at e; cases e), Nat.zero_le _⟩
/-- Upd of the head entry (for append_K, setItem_K ..) -/
theorem upd_ledger {h : Heap} {L d : Addr} {o o' : Obj} : Upd d o o' ((d, o) :: ledger h L d) ((d, o') :: ledger h L d) :=
  .head fun ⟨_, _⟩ hp => (mem_ledger.mp hp).2.1

/-- x.name = v over any heap: L is any namespace of the heap (the frame's, say): its map stays, its object is not told; all else but the dict stays -/
theorem set_field {x C dx L : Addr} {ox : Obj} {m : Str → Option Value} {es es' : List DictEntry} {n n' : Nat} {name : Str} {v : Value} {Q : Unit → Shared → Prop}
    (X : K.In s.heap) (I : PySem.W.InstAt s.heap x ox C (some (dictOf es n))) (hd : ox.dict = some dx) (hL : s.heap.Ns L m) (hne : dx ≠ L)
    (hs : findIn K (.ref C) "__setattr__" = some (some (.builtin "object.__setattr__"))) (hp : plainOver K C = true) (ht : takerIn K C name = some none) (hh : hasDictIn K C = true) (hl : (getL name es).isSome = true)
    (e : (putL name (PyData.keyHash w.params name) (.str name (s.toks + 1)) v es, putN name es n) = (es', n')) (hz : es'.length ≤ 1000)
    (h : ∀ h' : Heap, h'.Ns L m → h'.get? dx = some (dictOf es' n') → (∀ b o, b ≠ dx → b ≠ L → s.heap.get? b = some o → h'.get? b = some o) → Q () { s with heap := h', toks := s.toks + 2 }) :
    wpAny (model prog w) A (setAttr (.ref x) name v) Q E s := by
  obtain ⟨e1, e2⟩ := Prod.mk.inj e
  have hdx : s.heap.get? dx = some (dictOf es n) := by
    have := I.dict
    rw [hd] at this
    exact this
  refine set_plain X I hs (osa_dict (s := { s with toks := s.toks + 1 }) (h₀ := noObjs s.heap) (L := L) (m := m) (od := dictOf es n) (od' := dictOf es' n') (es := es') (n := n') (pre := []) (post := ledger s.heap L dx)
    (fr_all hL) (news_ledger hne hdx) X I hd hp ht hh hl (fun _ q => nomatch q) (fun ⟨_, _⟩ q => (mem_ledger.mp q).2.1) (by rw [putName_dict, e1, e2]) rfl hz fun h' F' N' => ?_)
  exact h h' F'.ns (N'.get (List.Mem.head _)) fun b o n1 n2 ho => N'.get (List.Mem.tail _ (mem_ledger.mpr ⟨n2, n1, ho⟩))
end
end Att

namespace L2
open PySem PySem.Spec PyProof.Rows

theorem vals_ints : ∀ {vs : List Value} {ns : List Int}, IntsAre vs ns → Vals (ns.map V.int) vs
  | _, _, .nil => .nil
  | _, _, .cons n t h => .cons ⟨t, rfl⟩ (vals_ints h)

/-- nothing is tracked but the script, known to the object (or it is an object of the module) -/
def Only (H : Hp) : Prop := ∀ b, H b = none ∨ ∃ o xs, H b = some (.frz o (.lst xs))

/-- THE HEAD: the law's promise, at the heap behind the top. F, the promise of the law's def, may use that base is part of the heap (so K.In base, base.Ns mainGlobals mg stand in Mod) -/
theorem law_call {P : Program} {w : World} {K : PySem.W.Frag} {mg mb : Str → Option Value} {CX : CXT} {k : Nat} {fa a : Addr} {fd : FuncData} {x : Str} {sp : Sp} {s₁ : Shared} {vs : List Value} {ns : List Int}
    (KX : K.In s₁.heap) (hns : s₁.heap.Ns mainGlobals mg) (hb : s₁.heap.Ns builtinsNs mb) (hbb : ∀ x : Str, x ≠ "__name__" → mb x = bootBuiltins x) (hlim : s₁.heap.NoLimit) (hg : s₁.gens = #[])
    (ha : s₁.heap.get? a = some { cls := .type "list", data := .seq vs.toArray }) (hi : IntsAre vs ns) (hl : ns.length ≤ sizeLine) (hr : Room k callerA)
    (F : ∀ base : Heap, K.In base → base.Ns mainGlobals mg → FnOk P w K mg base CX k fa fd [x] sp) (hbind : ∀ (s : Shared) (u : Value), BindsTo s fd ⟨[u], []⟩ [(x, u)])
    (hsp : ∀ H : Hp, Only H → SqL K H a (ns.map V.int) → sp [.ref a] H (fun v _ => v = .bl true) fun _ _ _ => False)
    (hCX : ∀ H e s', CX [] H s₁ (fun _ _ _ => False) e s' → False) :
    codeAny (model P w) callerA (.call (.ref fa) ⟨[.ref a], []⟩) (fun r s' => r = .ok (.ret (.bool true)) ∧ OldK s₁.heap s'.heap ∧ s'.os = s₁.os ∧ AllBare s'.gens) s₁ := by
  have rv := vals_ints hi
  have lenV := hi.length
  -- from an abstract heap in which nothing but the script may be tracked
  have core : ∀ H : Hp, Only H → SqL K H a (ns.map V.int) → HOk P w H s₁.heap → (∀ b, H b ≠ none → b = a) → (H a ≠ none → K.lookup a = none) →
      codeAny (model P w) callerA (.call (.ref fa) ⟨[.ref a], []⟩) (fun r s' => r = .ok (.ret (.bool true)) ∧ OldK s₁.heap s'.heap ∧ s'.os = s₁.os ∧ AllBare s'.gens) s₁ := by
    intro H hO hS hok hA hK
    have base_of : ∀ {b : Addr} {o : Obj}, s₁.heap.get? b = some o → H b = none → (hidT s₁.heap H).get? b = some o := fun e n => hidT_get e n
    have noA : ∀ {b : Addr} {o : Obj} {es : Array DictEntry} {ep : Nat}, s₁.heap.get? b = some o → o.data = .dict es ep → H b = none := fun {b o es ep} e d => by
      cases q : H b with
      | none => rfl
      | some u =>
        have e' : b = a := hA b (by rw [q]; simp)
        subst e'
        rw [ha] at e; cases e
        have d' : Data.seq vs.toArray _ = Data.dict es ep := d
        cases d'
    have nsK : ∀ {b : Addr} {m : Str → Option Value}, s₁.heap.Ns b m → (hidT s₁.heap H).Ns b m := fun {b m} ⟨o, es, ep, e, d, r⟩ => ⟨o, es, ep, base_of e (noA e d), d, r⟩
    have hKb : K.In (hidT s₁.heap H) := fun b o e => base_of (KX b o e) (by
      cases q : H b with
      | none => rfl
      | some u =>
        have e' : b = a := hA b (by rw [q]; simp)
        subst e'
        rw [hK (by rw [q]; simp)] at e; cases e)
    have hM : Mod K mg (hidT s₁.heap H) := ⟨hKb, nsK hns, ⟨mb, nsK hb, hbb⟩, let ⟨mc, h1, h2⟩ := hlim; ⟨mc, nsK h1, h2⟩⟩
    have e0 : Env0 P w K mg (hidT s₁.heap H) callerA [] s₁ H := ⟨rfl, hM, fun b o e => of_hidT e, Nat.le_of_eq (hidT_size _ _), trivial, fun b hb => absurd (show b ∈ ([] : List Addr) from hb) (by simp), hok, .of_eq hg⟩
    refine codeAny_mono ((F _ hKb (nsK hns)).run callerA [] s₁ H ⟨[.ref a], []⟩ [.ref a] [.ref a] _ _ hr e0 (hbind s₁ (.ref a)) (.cons rfl .nil) (hsp H hO hS)) fun r s' h => ?_
    cases r with
    | error e => exact (hCX H e s' h).elim
    | ok fl =>
      cases fl with
      | next => exact False.elim h
      | brk => exact False.elim h
      | cont => exact False.elim h
      | ret u =>
        obtain ⟨v, H', os, bare, un, hok', r', q⟩ := h
        have q' : v = .bl true := q
        subst q'
        obtain rfl : u = Value.bool true := r'
        refine ⟨rfl, OldK.of_keep fun b o e => ?_, os, bare⟩
        cases q : H b with
        | none => exact un.keep b o e q (by intro z; exact absurd (show b ∈ ([] : List Addr) from z) (by simp)) (by simp)
        | some u =>
          rcases hO b with z | ⟨ob, xs, z⟩
          · rw [q] at z; cases z
          · have z2 := un.frzs b ob _ z
            obtain ⟨e1, _⟩ := hok b _ z
            obtain ⟨e2, _⟩ := hok' b _ z2
            rw [e] at e1; cases e1
            exact e2
  cases hk : K.lookup a with
  | some o =>
    -- the script is one of the module's own objects
    have e := KX a o hk
    rw [ha] at e
    cases e
    refine core (fun _ => none) (fun _ => .inl rfl) (.inr ⟨_, vs.toArray, _, hk, rfl, rfl, rfl, by rw [List.size_toArray, lenV]; exact hl, by simpa using rv⟩) (fun b u z => by have z' : (none : Option HO) = some u := z; cases z') (fun b z => absurd rfl z) fun z => absurd rfl z
  | none =>
    refine core (fun b => if b = a then some (.frz { cls := .type "list", data := .seq vs.toArray } (.lst (ns.map V.int))) else none) (fun b => ?_) (.inl (.inr ⟨{ cls := .type "list", data := .seq vs.toArray }, if_pos rfl⟩)) (fun b u z => ?_) (fun b z => ?_) fun _ => hk
    · by_cases hb : b = a
      · exact .inr ⟨_, _, if_pos hb⟩
      · exact .inl (if_neg hb)
    · by_cases hb : b = a
      · have z' := (if_pos hb).symm.trans z
        cases z'
        subst hb
        exact ⟨ha, by rw [List.length_map]; exact hl, vs, _, rv, ha⟩
      · have z' := (if_neg hb).symm.trans z
        cases z'
    · by_cases hb : b = a
      · exact hb
      · exact absurd (if_neg hb) z
end L2

namespace L2
open PySem PySem.Spec PyProof.Rows

abbrev KOf {K : PySem.W.Frag} {h : Heap} (_ : K.In h) : PySem.W.Frag := K

/-- the goal that k_head leaves (case hc), from the law's promise. F gives the function object fd (K's own) once, then the promise over every base -/
theorem walk_of {l : PySem.W.OpenLaw} {n k : Nat} {q : Program} {loose : List Str} {XP : (Str → Option Value) → Heap → Prop} {YP : World → Heap → Prop} {d : DefRec} {K : Params → PySem.W.Frag} {CX : World → CXT} {sp : World → Sp} {x : Str}
    (hn : l.most = some n) (hn2 : n ≤ sizeLine) (hdf : d.params.defaults = []) (hr : Room k callerA)
    (hY : ∀ (w : World) (h : Heap), YP w h → (K w.params).In h)
    (F : ∀ (w : World) (mg : Str → Option Value) (fa : Addr) (h : Heap), (K w.params).In h → h.Ns mainGlobals mg → mg d.name = some (.ref fa) →
      ∃ fd : FuncData, (∀ (s : Shared) (u : Value), BindsTo s fd ⟨[u], []⟩ [(x, u)]) ∧
        ∀ base : Heap, (K w.params).In base → base.Ns mainGlobals mg → FnOk l.prog w (K w.params) mg base (CX w) k fa fd [x] (sp w))
    (hsp : ∀ (w : World) (H : Hp) (a : Addr) (ns : List Int), ns.length ≤ n → Only H → SqL (K w.params) H a (ns.map V.int) → sp w [.ref a] H (fun v _ => v = .bl true) fun _ _ _ => False)
    (hCX : ∀ (w : World) (H : Hp) (s : Shared) (e : Value) (s' : Shared), CX w [] H s (fun _ _ _ => False) e s' → False) :
    PySem.W.WalkO q loose XP YP l.row.toRowW d [] (fun f vs => PySem.call f vs) := by
  refine Att.attach_call hn hdf fun w s₀ s₁ mg mb fa o pm cd doc a vs ns G Y ho hd hcd hmg hobj hints hlen hg => ?_
  have KX := hY w _ Y
  obtain ⟨fd, hb, hF⟩ := F w mg fa _ KX G.T.g hmg
  exact law_call KX G.T.g G.T.b G.T.builtins G.T.nolimit hg hobj hints (Nat.le_trans hlen hn2) hr hF hb (fun H hO hS => hsp w H a ns hlen hO hS) fun H e s' => hCX w H s₁ e s'
/-- the same where the promise hangs on the written part alone: (sp := My.sp_law), no hole under a binder -/
theorem walk_ofK {l : PySem.W.OpenLaw} {n k : Nat} {q : Program} {loose : List Str} {XP : (Str → Option Value) → Heap → Prop} {YP : World → Heap → Prop} {d : DefRec} {K : Params → PySem.W.Frag} {CX : CXT} {sp : PySem.W.Frag → Sp} {x : Str}
    (hn : l.most = some n) (hn2 : n ≤ sizeLine) (hdf : d.params.defaults = []) (hr : Room k callerA)
    (hY : ∀ (w : World) (h : Heap), YP w h → (K w.params).In h)
    (F : ∀ (w : World) (mg : Str → Option Value) (fa : Addr) (h : Heap), (K w.params).In h → h.Ns mainGlobals mg → mg d.name = some (.ref fa) →
      ∃ fd : FuncData, (∀ (s : Shared) (u : Value), BindsTo s fd ⟨[u], []⟩ [(x, u)]) ∧
        ∀ base : Heap, (K w.params).In base → base.Ns mainGlobals mg → FnOk l.prog w (K w.params) mg base CX k fa fd [x] (sp (K w.params)))
    (hsp : ∀ (K : PySem.W.Frag) (H : Hp) (a : Addr) (ns : List Int), ns.length ≤ n → Only H → SqL K H a (ns.map V.int) → sp K [.ref a] H (fun v _ => v = .bl true) fun _ _ _ => False)
    (hCX : ∀ (H : Hp) (s : Shared) (e : Value) (s' : Shared), CX [] H s (fun _ _ _ => False) e s' → False) :
    PySem.W.WalkO q loose XP YP l.row.toRowW d [] (fun f vs => PySem.call f vs) :=
  walk_of (K := K) (CX := fun _ => CX) (sp := fun w => sp (K w.params)) hn hn2 hdf hr hY F (fun w H a ns h1 h2 h3 => hsp (K w.params) H a ns h1 h2 h3) fun _ H s e s' => hCX H s e s'
end L2

/- THE LAST THEOREM (shape; LID, My.* are yours):
   My.Adr: a structure of the addresses that your layer names (classes, functions); My.Txt K t: a structure (Prop) of the equations over K;
   My.txt_mk : {K} {implicit addresses ..} (e1 : nsIn K mainGlobals "law" = some (some (.ref f))) (e2 : K.lookup f = some ⟨oc, od, .func (fnOf "law" "law" params body scope dV kV doc pm an cdv ct), sl⟩) (e3 : codeIn K cdv "law" = true) .. : ∃ t, My.Txt K t

set_option maxRecDepth 100000 in
set_option maxHeartbeats 0 in
theorem PySem.Challenge.cw_LID_holds : PySem.Challenge.rw_LID.Holds := by
  w_on; o_law; k_head; (case hw => w_witness2)
  k_fill
  refine L2.walk_of (l := PySem.Challenge.rw_LID) (n := 63) (k := 40) (x := "script") (CX := fun w => ..) (sp := fun _ => My.sp_law) rfl (by decide) rfl ⟨rfl, by decide, by decide⟩ (fun w h Y => PySem.W.kIn_of Y) ?F ?S ?C
  case F =>
    intro w mg fa h KX G hmg
    have T : ∃ t, My.Txt (L2.KOf KX) t := by
      dsimp only [L2.KOf]                          -- K must stand as «<heap const> w.params» for k_is
      refine' My.txt_mk ?e1 ?e2 ?e3 ..
      (case e1 => PySem.W.k_is)                    -- in the order: a name -> its address -> its object -> its parts
      (case e2 => PySem.W.k_is)
      ..
    obtain ⟨t, T⟩ := T
    have e0 := hmg.symm.trans (PySem.W.mg_of KX G T.law)
    cases e0                                       -- fa is the law's own address
    exact ⟨_, fun s u => .of_eq rfl, fun base kb nb => My.law_fn T kb nb⟩     -- if «.of_eq rfl» comes too early: refine' ⟨_, ?b, fun base kb nb => My.law_fn T kb nb⟩; exact fun s u => .of_eq rfl
  case S => exact fun w H a ns hl hO hS => ..
  case C => exact ..
(the tactic k_is has no namespace: write k_is) -/

/-! SHORT WORDS over the layer: a def of the text, its body, what a loop and a test want. -/
namespace L2
open PySem PySem.Spec PyProof.Rows

/-! ### the text by places -/
/-- the j-th statement of a class's body -/
def inClass (s : Stmt) (j : Nat) : Stmt := match s with
  | .ClassDef _ _ _ body _ _ _ _ _ _ _ => body.getD j (.Pass ⟨0, 0, 0, 0⟩)
  | _ => .Pass ⟨0, 0, 0, 0⟩
def defArgs (s : Stmt) : Arguments := match s with
  | .FunctionDef _ a _ _ _ _ _ _ _ _ => a
  | _ => { posonlyargs := [], args := [], vararg := none, kwonlyargs := [], kw_defaults := [], kwarg := none, defaults := [] }
def defBody (s : Stmt) : List Stmt := match s with
  | .FunctionDef _ _ b _ _ _ _ _ _ _ => b
  | _ => []
def defScope (s : Stmt) : Scope := match s with
  | .FunctionDef _ _ _ _ _ _ sc _ _ _ => sc
  | _ => { kind := .function, names := [], isGenerator := false, isCoroutine := false }

/-! ### no exception leaves a def -/
abbrev CX0 : CXT := fun _ _ _ _ _ _ => False
abbrev E0 : XK := fun _ _ _ => False
theorem pass0 {X : Cx} : Passes CX0 X E0 := fun _ _ _ _ _ _ _ h => h.elim

/-! ### a def (or method) of the text as it stands behind the top -/
structure Fun (K : PySem.W.Frag) (x qual : Str) (st : Stmt) (f : Addr) (fd : FuncData) : Prop where
  ex : ∃ (oc : Value) (od : Option Addr) (kV doc pm : Value) (an : Option Addr) (cdv ct : Value) (osl : Array (Option Value)),
    fd = PySem.W.fnOf x qual (defArgs st) (defBody st) (defScope st) .none kV doc pm an cdv ct ∧ K.lookup f = some ⟨oc, od, .func fd, osl⟩ ∧ PySem.W.codeIn K cdv qual = true
  kp : PySem.W.keepIn K (.ref f) = true
section
variable {P : Program} {w : World} {K : PySem.W.Frag} {mg : Str → Option Value} {base : Heap}
/-- THE RULE for a def: its body as a term of rules, and the reading of that term -/
theorem Fun.ok {x qual : Str} {st : Stmt} {f : Addr} {fd : FuncData} {N ps : List Str} {k : Nat} {sp : Sp} (F : Fun K x qual st f fd) (S : FnScope N ps (defScope st)) (len : ∀ vs H Q E, sp vs H Q E → vs.length = ps.length)
    (hbody : ∀ (cdv : Value) (A : Around) (outer : List Env) (s : Shared) (H : Hp) (vs : List V) (Q : VK) (E : XK), Room k (A.deeper (envOfC qual (defScope st) s.heap.objs.size f cdv)) → sp vs H Q E →
      ∃ t, PSs (cxOf CX0 P w K mg base N qual (defScope st) f cdv A outer s H E).nox (defBody st) t ∧ t { nx := fun _ H' => Q .non H', rt := Q } (start N vs) H) : FnOk P w K mg base CX0 (k + 1) f fd ps sp := by
  obtain ⟨oc, od, kV, doc, pm, an, cdv, ct, osl, rfl, lk, hcd⟩ := F.ex
  refine fn_of lk hcd S len fun A outer s H vs Q E hr hsp => ?_
  obtain ⟨t, h, q⟩ := hbody cdv A outer s H vs Q E hr hsp
  exact ⟨t, h.nox, q⟩
/-- how its arguments bind (no defaults): h is «fun _ _ _ _ _ _ us hl => match us, hl with | [_, _], _ => rfl», one _ a parameter -/
theorem Fun.binds {x qual : Str} {st : Stmt} {f : Addr} {fd : FuncData} {ps : List Str} (F : Fun K x qual st f fd)
    (h : ∀ (kV doc pm : Value) (an : Option Addr) (cdv ct : Value) (us : List Value), us.length = ps.length → bindArgs (PySem.W.fnOf x qual (defArgs st) (defBody st) (defScope st) .none kV doc pm an cdv ct) ⟨us, []⟩ = pure (ps.zip us)) : Binds K fd ps [] := by
  obtain ⟨oc, od, kV, doc, pm, an, cdv, ct, osl, rfl, lk, hcd⟩ := F.ex
  exact .all (h kV doc pm an cdv ct)
theorem fun_mk {x qual : Str} {st : Stmt} {f : Addr} {oc : Value} {od an : Option Addr} {osl : Array (Option Value)} {kV doc pm cdv ct : Value} (l : K.lookup f = some ⟨oc, od, .func (PySem.W.fnOf x qual (defArgs st) (defBody st) (defScope st) .none kV doc pm an cdv ct), osl⟩)
    (c : PySem.W.codeIn K cdv qual = true) (k : PySem.W.keepIn K (.ref f) = true) : Fun K x qual st f (PySem.W.fnOf x qual (defArgs st) (defBody st) (defScope st) .none kV doc pm an cdv ct) := ⟨⟨oc, od, kV, doc, pm, an, cdv, ct, osl, rfl, l, c⟩, k⟩
end
theorem hu_of {A : Around} {k : Nat} (hr : Room k A) : A.units + 1 < cLine := Nat.lt_of_le_of_lt (Nat.add_le_add_left (by decide : 1 ≤ 64) _) hr.units
theorem small1000 {n : Nat} (h : n ≤ 1000) : n < sizeLine := Nat.lt_of_le_of_lt h (by decide)

/-! ### expressions in short: the name that stands in the i-th slot -/
section
variable {X : Cx}
theorem pv (i : Nat) {x : Str} {pos : Pos} (hN : X.N[i]? = some x := by rfl) (hv : Vis X.env.scope x := by first | exact Or.inl rfl | exact Or.inr (Or.inl rfl) | exact Or.inr (Or.inr rfl)) (hd : (x == ("__debug__" : Str)) = false := by decide)
    (hcd : (x == ("__classdict__" : Str)) = false := by decide) : PE X (.Name x pos) (tVar i) := pe_var hN hv hd hcd
end

/-! ### tests -/
theorem iteF {A B : Prop} (h : B) : if false = true then A else B := by
  rw [if_neg Bool.false_ne_true]
  exact h
theorem iteT {A B : Prop} (h : A) : if true = true then A else B := by
  rw [if_pos rfl]
  exact h
theorem ite2 {c A B : Prop} [Decidable c] (h1 : c → A) (h2 : ¬ c → B) : if c then A else B := by
  by_cases h : c
  · rw [if_pos h]
    exact h1 h
  · rw [if_neg h]
    exact h2 h
theorem iteNS {c A B : Prop} [Decidable c] (hc : c) (h : B) : if (!decide c) = true then A else B := by
  rw [decide_eq_true hc]
  exact iteF h

/-! ### heaps -/
/-- all that was tracked is as it was -/
def Same (H H' : Hp) : Prop := ∀ b o, H b = some o → H' b = some o
theorem Same.refl (H : Hp) : Same H H := fun _ _ h => h
theorem Same.trans {H H1 H2 : Hp} (a : Same H H1) (b : Same H1 H2) : Same H H2 := fun c o h => b c o (a c o h)
theorem Same.free {H H' : Hp} (e : Same H H') {l : Addr} (h : H' l = Option.none) : H l = Option.none := by
  cases q : H l with
  | none => rfl
  | some o =>
    rw [e l o q] at h
    cases h
theorem Same.seq {K : PySem.W.Frag} {H H' : Hp} {a : Addr} {xs : List V} (e : Same H H') (h : SqL K H a xs) : SqL K H' a xs := by
  rcases h with (h | ⟨o, h⟩) | h
  · exact .inl (.inl (e _ _ h))
  · exact .inl (.inr ⟨o, e _ _ h⟩)
  · exact .inr h

end L2

set_option Elab.async false
set_option linter.all false
set_option maxRecDepth 100000
set_option maxHeartbeats 4000000
/-! more built-in functions, over the hand layer -/
namespace L2
open PySem PySem.Spec PyProof.Rows
section
variable {X : Cx}
theorem call_absV : CallR X (.builtin "abs") (fun xs H Q => ∃ i : Int, xs = [.int i] ∧ Q (.int (i.natAbs : Int)) H) := by
  intro pins s σ H xs us Q I r h
  obtain ⟨i, rfl, q⟩ := h
  obtain ⟨u, rfl, rx⟩ := vals1 r
  obtain ⟨t, rfl⟩ := rx
  have e : (if i < 0 then -i else i) = (i.natAbs : Int) := by split <;> omega
  exact call_abs_int fun u tk => ⟨.int (i.natAbs : Int), H, I.tok _, ⟨u, by rw [e]⟩, q⟩
theorem call_intB : CallR X (.type "int") (fun xs H Q => ∃ b : Bool, xs = [.bl b] ∧ Q (.int (if b then 1 else 0)) H) := by
  intro pins s σ H xs us Q I r h
  obtain ⟨b, rfl, q⟩ := h
  obtain ⟨u, rfl, rx⟩ := vals1 r
  cases rx
  exact PySem.call_int_bool ⟨.int _, H, I.tok _, ⟨_, rfl⟩, q⟩
theorem call_divmodV : CallR X (.builtin "divmod") (fun xs H Q => ∃ a b : Int, xs = [.int a, .int b] ∧ 0 < b ∧ b < 1073741824 ∧ ∀ p, H p = none → Q (.ref p) (upd H p (.tup [.int (a / b), .int (a % b)]))) := by
  intro pins s σ H xs us Q I r h
  obtain ⟨a, b, rfl, h0, h1, q⟩ := h
  obtain ⟨u, v, rfl, rx, ry⟩ := Vals.two r
  obtain ⟨t, rfl⟩ := rx
  obtain ⟨t', rfl⟩ := ry
  have e1 : a.fdiv b = a / b := Int.fdiv_eq_ediv_of_nonneg _ (by omega)
  have e2 : a.fmod b = a % b := Int.fmod_eq_emod_of_nonneg _ (by omega)
  refine divmod_int (by omega) ?_ (.inl (PyProof.noPylong_small (by omega)))
  refine ⟨.ref s.heap.objs.size, _, I.laid (o := .tup [.int (a / b), .int (a % b)]) (t' := s.toks + 1 + 1) (fun b u e => Heap.get?_push_of_some _ e) (Nat.le_refl _) ?_, rfl, q _ (I.hok.fresh (Nat.le_refl _))⟩
  refine ⟨by show 2 ≤ sizeLine; decide, [.int (a.fdiv b) s.toks, .int (a.fmod b) (s.toks + 1)], .cons ⟨_, by rw [e1]⟩ (.cons ⟨_, by rw [e2]⟩ .nil), ⟨_, Heap.get?_push_size _ rfl, rfl, _, rfl⟩⟩
theorem call_minV (hc : X.calm = true) : CallR X (.builtin "min") (fun xs H Q => ∃ a b : Int, xs = [.int a, .int b] ∧ Q (.int (if b < a then b else a)) H) := by
  intro pins s σ H xs us Q I r h
  obtain ⟨a, b, rfl, q⟩ := h
  obtain ⟨u, v, rfl, rx, ry⟩ := Vals.two r
  obtain ⟨t, rfl⟩ := rx
  obtain ⟨t', rfl⟩ := ry
  refine min_two_ints (I.ok.hd hc) fun h' tk hk => ?_
  by_cases c : b < a
  · simp only [if_pos c] at q ⊢
    exact ⟨.int b, H, I.kept hk, ⟨_, rfl⟩, q⟩
  · simp only [if_neg c] at q ⊢
    exact ⟨.int a, H, I.kept hk, ⟨_, rfl⟩, q⟩
/-- what kind a value is of, as far as isinstance asks here -/
inductive Kd (K : PySem.W.Frag) (H : Hp) : V → String → Prop
  | non : Kd K H .non "NoneType"
  | bl (b) : Kd K H (.bl b) "bool"
  | int (i) : Kd K H (.int i) "int"
  | str (x) : Kd K H (.str x) "str"
  | tup {a xs} : SqT K H a xs → Kd K H (.ref a) "tuple"
  | lst {a xs} : SqL K H a xs → Kd K H (.ref a) "list"
def isi (k T : String) : Bool := k == T || (k == "bool" && T == "int")
def tys : List String := ["int", "bool", "tuple", "list", "str"]
theorem call_isi : CallR X (.builtin "isinstance") (fun xs H Q => ∃ x k T, xs = [x, .ty T] ∧ Kd X.K H x k ∧ T ∈ tys ∧ Q (.bl (isi k T)) H) := by
  intro pins s σ H xs us Q I r h
  obtain ⟨x, k, T, rfl, hk, hT, q⟩ := h
  obtain ⟨u, v, rfl, rx, ry⟩ := Vals.two r
  cases ry
  have f0 : ∀ b t, Q (.bl b) H → EP X pins σ Q (.bool b) { s with toks := t } := fun b t q => ⟨.bl b, H, I.tok _, rfl, q⟩
  have f1 : ∀ b, Q (.bl b) H → EP X pins σ Q (.bool b) s := fun b q => ⟨.bl b, H, I, rfl, q⟩
  simp only [tys, List.mem_cons, List.not_mem_nil, or_false] at hT
  cases hk with
  | non =>
    cases rx
    rcases hT with rfl | rfl | rfl | rfl | rfl
    · exact IsiPair.NoneType_int (f0 _ _ q)
    · exact IsiPair.NoneType_bool (f0 _ _ q)
    · exact IsiPair.NoneType_tuple (f0 _ _ q)
    · exact IsiPair.NoneType_list (f0 _ _ q)
    · exact IsiPair.NoneType_str (f0 _ _ q)
  | bl b =>
    cases rx
    rcases hT with rfl | rfl | rfl | rfl | rfl
    · exact IsiPair.bool_int (f1 _ q)
    · exact IsiPair.bool_bool (f1 _ q)
    · exact IsiPair.bool_tuple (f0 _ _ q)
    · exact IsiPair.bool_list (f0 _ _ q)
    · exact IsiPair.bool_str (f0 _ _ q)
  | int i =>
    obtain ⟨t, rfl⟩ := rx
    rcases hT with rfl | rfl | rfl | rfl | rfl
    · exact IsiPair.int_int (f1 _ q)
    · exact IsiPair.int_bool (f0 _ _ q)
    · exact IsiPair.int_tuple (f0 _ _ q)
    · exact IsiPair.int_list (f0 _ _ q)
    · exact IsiPair.int_str (f0 _ _ q)
  | str z =>
    obtain ⟨t, rfl⟩ := rx
    rcases hT with rfl | rfl | rfl | rfl | rfl
    · exact IsiPair.str_int (f0 _ _ q)
    · exact IsiPair.str_bool (f0 _ _ q)
    · exact IsiPair.str_tuple (f0 _ _ q)
    · exact IsiPair.str_list (f0 _ _ q)
    · exact IsiPair.str_str (f1 _ q)
  | tup hq =>
    cases rx
    obtain ⟨its, rv, ⟨o, ho, hc, _⟩, _⟩ := I.tuple hq
    rcases hT with rfl | rfl | rfl | rfl | rfl
    · exact IsiPair.tuple_int ho hc (f0 _ _ q)
    · exact IsiPair.tuple_bool ho hc (f0 _ _ q)
    · exact IsiPair.tuple_tuple ho hc (f1 _ q)
    · exact IsiPair.tuple_list ho hc (f0 _ _ q)
    · exact IsiPair.tuple_str ho hc (f0 _ _ q)
  | lst hq =>
    cases rx
    obtain ⟨its, rv, ⟨o, n, ho, hc, _⟩, _⟩ := I.list hq
    rcases hT with rfl | rfl | rfl | rfl | rfl
    · exact IsiPair.list_int ho hc (f0 _ _ q)
    · exact IsiPair.list_bool ho hc (f0 _ _ q)
    · exact IsiPair.list_tuple ho hc (f0 _ _ q)
    · exact IsiPair.list_list ho hc (f1 _ q)
    · exact IsiPair.list_str ho hc (f0 _ _ q)
/-- all of a list of truths -/
theorem call_allB (hc : X.calm = true) : CallR X (.builtin "all") (fun xs H Q => ∃ (p : Addr) (bs : List Bool), xs = [.ref p] ∧ SqL X.K H p (bs.map V.bl) ∧ Q (.bl (bs.all id)) H) := by
  intro pins s σ H xs us Q I r h
  obtain ⟨p, bs, rfl, hq, q⟩ := h
  obtain ⟨u, rfl, rx⟩ := vals1 r
  cases rx
  obtain ⟨its, rv, pl, hz⟩ := I.list hq
  have hne : p ≠ s.heap.objs.size := by
    obtain ⟨o, n, ho, _⟩ := pl
    exact Nat.ne_of_lt (Heap.lt_size ho)
  have hl := rv.length
  rw [List.length_map] at hl
  have hA : X.A.in1.handled = none := I.ok.hd hc
  refine call_all_walk (wpAny_pyIter_list pl.isList ?_)
  refine ⟨s.heap.objs.size, _, _, _, _, _, (fun i => bs.getD i true), rfl, Walks.list hA s.heap.objs.size p hne its.toArray, ⟨⟨_, Heap.get?_push_size _ rfl, rfl, rfl⟩, pl.isList.at fun o e => Heap.get?_push_of_some _ e⟩, ?_, ?_⟩
  · intro i v s' Q' E' hv hQ'
    have hv' : its[i]? = some v := by simpa using hv
    have hi : i < its.length := (List.getElem?_eq_some_iff.mp hv').1
    have hb : (bs.map V.bl)[i]? = some (V.bl bs[i]) := by
      rw [List.getElem?_map, List.getElem?_eq_getElem (by omega)]; rfl
    obtain ⟨u, hu, ru⟩ := rv.get hb
    rw [hv'] at hu
    cases hu
    cases ru
    have e : bs.getD i true = bs[i] := by rw [List.getD_eq_getElem?_getD, List.getElem?_eq_getElem (by omega)]; rfl
    simp only [e] at hQ'
    exact wpAny_truthy_bool hQ'
  · intro h' tk hk
    have e : (List.range its.toArray.size).all (fun i => bs.getD i true) = bs.all id := by
      rw [List.size_toArray, ← hl]
      clear hl hz rv q hq pl hne
      rw [Bool.eq_iff_iff, List.all_eq_true, List.all_eq_true]
      constructor
      · intro h b hb
        obtain ⟨i, hi, rfl⟩ := List.mem_iff_getElem.mp hb
        have := h i (List.mem_range.mpr hi)
        rw [List.getD_eq_getElem?_getD, List.getElem?_eq_getElem hi] at this
        exact this
      · intro h i hi
        have hi := List.mem_range.mp hi
        rw [List.getD_eq_getElem?_getD, List.getElem?_eq_getElem hi]
        exact h _ (List.getElem_mem hi)
    rw [e]
    refine ⟨.bl _, H, ?_, rfl, q⟩
    exact I.kept fun b o e => hk b o (by simp; exact Nat.ne_of_lt (Heap.lt_size e)) (Heap.get?_push_of_some _ e)
end
end L2

set_option Elab.async false
set_option linter.all false
set_option maxRecDepth 100000
set_option maxHeartbeats 4000000
/-! enumerate of a list, over the hand layer -/
namespace L2
open PySem PySem.Spec PyProof.Rows
section
variable {X : Cx} {pins : List (Addr × Obj)} {σ : St} {H : Hp} {s : Shared} {h' : Heap}
/-- records of ours have turned, and a new object is laid and tracked -/
theorem Inv.turnedLaid {t' : Nat} {ch : List Addr} {a : Addr} {o : HO} (I : Inv X pins σ H s) (k : ∀ b u, b ∉ ch → s.heap.get? b = some u → h'.get? b = some u) (hf : ∀ b ∈ ch, FpOk X pins H b) (hp : s.heap.objs.size ≤ a)
    (new : ObjOk X.prog X.w (upd H a o) h' a o) : Inv X pins σ (upd H a o) { s with heap := h', toks := t' } := by
  have hn := I.hok.fresh hp
  have nit : ∀ b u, H b = some u → b ∉ ch := fun b u e z => by rw [(hf b z).1] at e; cases e
  refine I.step (g' := s.gens) (d' := s.drawn) (ch := ch) (fun b hb => ⟨(hf b hb).2.2.2.1, (hf b hb).2.1, (hf b hb).2.2.2.2.1, (hf b hb).2.2.2.2.2⟩) (fun b u _ _ hc e _ => k b u hc e) (fun b u _ _ hc e _ => ⟨u.slots, k b u hc e⟩)
    (fun b u hc e n => by rw [upd_ne (Nat.ne_of_lt (Nat.lt_of_lt_of_le (Heap.lt_size e) hp))]; exact n) (fun b u hc e => ⟨u, k b u hc e⟩) (fun b xs e => by rw [upd_ne (ne_of_none e hn)]; exact e) (fun b u xs e => by rw [upd_ne (ne_of_none e hn)]; exact e)
    (fun b ps e => ⟨#[], by rw [upd_ne (ne_of_none e hn), e]; simp⟩) (fun m hm => ?_) (fun b u e => ?_) I.bare
  · obtain ⟨ob, es, ep, ho, r⟩ := hm
    exact ⟨ob, es, ep, k _ ob (fun z => (hf _ z).2.1 rfl) ho, r⟩
  · by_cases hb : b = a
    · subst hb; rw [upd_same] at e; cases e; exact new
    · rw [upd_ne hb] at e
      refine (I.hok b u e).stay (fun c v hc q => k c v ?_ q) (fun c q => by rw [upd_ne (ne_of_none q hn)]; exact q) fun c xs q => by rw [upd_ne (ne_of_none q hn)]; exact q
      rcases hc with z | z
      · rw [z]; exact nit b u e
      · exact nit c _ z
theorem Inv.turnedL {t' : Nat} {ch : List Addr} (I : Inv X pins σ H s) (k : ∀ b u, b ∉ ch → s.heap.get? b = some u → h'.get? b = some u) (hf : ∀ b ∈ ch, FpOk X pins H b) : Inv X pins σ H { s with heap := h', toks := t' } := by
  have nit : ∀ b u, H b = some u → b ∉ ch := fun b u e z => by rw [(hf b z).1] at e; cases e
  refine I.step (g' := s.gens) (d' := s.drawn) (ch := ch) (fun b hb => ⟨(hf b hb).2.2.2.1, (hf b hb).2.1, (hf b hb).2.2.2.2.1, (hf b hb).2.2.2.2.2⟩) (fun b u _ _ hc e _ => k b u hc e) (fun b u _ _ hc e _ => ⟨u.slots, k b u hc e⟩)
    (fun b u hc e n => n) (fun b u hc e => ⟨u, k b u hc e⟩) (fun b xs e => e) (fun b u xs e => e) (fun b ps e => ⟨#[], by rw [e]; simp⟩) (fun m hm => ?_) (fun b u e => ?_) I.bare
  · obtain ⟨ob, es, ep, ho, r⟩ := hm
    exact ⟨ob, es, ep, k _ ob (fun z => (hf _ z).2.1 rfl) ho, r⟩
  · refine (I.hok b u e).stay (fun c v hc q => k c v ?_ q) (fun c q => q) fun c xs q => q
    rcases hc with z | z
    · rw [z]; exact nit b u e
    · exact nit c _ z
end
/-- enumerate of the list at a -/
def Ite (K : PySem.W.Frag) (a : Addr) : It :=
  ⟨fun i H => ∃ xs x, SqL K H a xs ∧ xs[i]? = some x, fun i H x H' => ∃ p y, x = .ref p ∧ H p = none ∧ H' = upd H p (.tup [.int (i : Int), y]) ∧ ∀ xs, SqL K H a xs → xs[i]? = some y, fun i H => ∃ xs, SqL K H a xs ∧ xs.length ≤ i⟩
theorem turn_enum {P : Program} {w : World} {K : PySem.W.Frag} {elts : List Expr} {x1} {tpos : Pos} (a e it : Addr) (hne : e ≠ it) :
    Turn P w K (.Tuple elts x1 tpos) (Ite K a) [e, it] e (fun i h => (∃ old, IsEnum h e it (i : Nat) old) ∧ h.IsListIter it a i) where
  mem := by simp
  obj := fun i h st b hb => by
    obtain ⟨⟨old, he⟩, ⟨o, ho, hc, hd⟩⟩ := st
    rcases List.mem_cons.mp hb with rfl | hb
    · exact ⟨_, he, fun v z => by cases z⟩
    · rw [List.mem_singleton.mp hb]
      exact ⟨o, ho, fun v z => by rw [hd] at z; cases z⟩
  keep := fun i h h' st k => ⟨let ⟨old, he⟩ := st.1; ⟨old, k e (by simp) _ he⟩, st.2.at fun o x => k it (by simp) o x⟩
  item := by
    intro X hP hw hK hc i pins s σ H E I hf st hg
    subst hP hw hK
    obtain ⟨xs, x, hq, hx⟩ := hg
    obtain ⟨its, rv, p, hz⟩ := I.list hq
    obtain ⟨u, hu, ru⟩ := rv.get hx
    obtain ⟨⟨old, he⟩, hit⟩ := st
    refine wpAny_pyNext_enum_item he hit p.isList (x := u) (by simpa using hu) hne fun h1 ho hit1 ht hsz hk => ⟨_, rfl, ?_⟩
    refine wpAny_letOwnedTupleGo_enum ho fun h2 he2 hs2 => ?_
    have hen : e ≠ s.heap.objs.size := Nat.ne_of_lt (Heap.lt_size he)
    have kk : ∀ b o, b ∉ [e, it] → s.heap.get? b = some o → h2.get? b = some o := fun b o hb q => by
      have h1' : b ≠ e := fun z => hb (by simp [z])
      have h2' : b ≠ it := fun z => hb (by simp [z])
      exact hs2.extBut b o h1' (hk b o h1' h2' q)
    have new : ObjOk X.prog X.w (upd H s.heap.objs.size (.tup [.int (i : Int), x])) h2 s.heap.objs.size (.tup [.int (i : Int), x]) :=
      ⟨by show 2 ≤ sizeLine; decide, [.int i s.toks, u], .cons ⟨_, rfl⟩ (.cons ru .nil), ⟨_, hs2.extBut _ _ (Ne.symm hen) ht, rfl, _, rfl⟩⟩
    refine ⟨.ref s.heap.objs.size, upd H s.heap.objs.size (.tup [.int (i : Int), x]), I.turnedLaid (t' := s.toks + 1) (ch := [e, it]) kk hf (Nat.le_refl _) new, rfl,
      ⟨_, x, rfl, I.hok.fresh (Nat.le_refl _), rfl, fun ys hy => by rw [I.list_inj hy hq]; exact hx⟩, ⟨⟨_, by simpa using he2⟩, hit1.extBut hs2.extBut (Ne.symm hne)⟩, fun b hb => ?_⟩
    have hlt : b < s.heap.objs.size := by
      rcases List.mem_cons.mp hb with rfl | hb
      · exact Heap.lt_size he
      · rw [List.mem_singleton.mp hb]
        obtain ⟨o, ho', _⟩ := hit
        exact Heap.lt_size ho'
    rw [upd_ne (Nat.ne_of_lt hlt)]
    exact (hf b hb).1
  done := by
    intro X hP hw hK hc i pins s σ H E I hf st hg
    subst hP hw hK
    obtain ⟨xs, hq, hx⟩ := hg
    obtain ⟨its, rv, p, hz⟩ := I.list hq
    have hl := rv.length
    obtain ⟨⟨old, he⟩, hit⟩ := st
    refine wpAny_pyNext_enum_end (I.ok.hd hc) he hit p.isList (by simp; omega) fun h1 eb => ⟨rfl, ?_⟩
    exact I.turnedL (t' := s.toks) (ch := [e, it]) (fun b o hb q => eb b o (fun z => hb (by simp [z])) q) hf
  self := fun _ _ _ _ _ st h => let ⟨old, he⟩ := st.1; wpAny_pyIter_enum he h
section
variable {X : Cx}
def iEnum (K : PySem.W.Frag) (ta : TA) : TI := fun σ H R => ta σ H fun vs H1 => ∃ a, vs = [.ref a] ∧ (∃ xs, SqL K H1 a xs) ∧ R (Ite K a) H1
theorem pi_enum {a : Expr} {ta : TA} {p pos tpos : Pos} {elts : List Expr} {x1} (hg : Gl X "enumerate") (hm : X.mg "enumerate" = none) (ha : PA X [a] ta) (hs : starEach [a] X.env = [(false, eval a X.env)] := by rfl) :
    PI X (.Tuple elts x1 tpos) (.Call (.Name "enumerate" p) [a] [] pos) (iEnum X.K ta) := by
  intro pins s σ H R I h
  refine Call_ (ld_blt I hg hm boot_enumerate (PyProof.Rows.callWith_type1 (thn (ha pos pins s σ H _ I h) fun us s1 ⟨vs, H1, I1, r1, q1⟩ => ?_) hs rfl))
  obtain ⟨l, rfl, ⟨xs, hq⟩, q⟩ := q1
  obtain ⟨u, rfl, ru⟩ := Vals.one r1
  cases ru
  obtain ⟨its, rv, pl, hz⟩ := I1.list hq
  refine call_enumerate_list pl.isList fun h' he hit hsz hk => ?_
  refine wpAny_pyIter_enum he ?_
  refine ⟨s1.heap.objs.size + 1, [s1.heap.objs.size + 1, s1.heap.objs.size], _, _, H1, rfl, I1.kept (t' := s1.toks) hk, turn_enum l _ _ (Nat.succ_ne_self _), ⟨⟨_, he⟩, hit⟩, fun b hb => ?_, q⟩
  have hle : s1.heap.objs.size ≤ b := by
    rcases List.mem_cons.mp hb with rfl | hb
    · exact Nat.le_succ _
    · rw [List.mem_singleton.mp hb]; exact Nat.le_refl _
  exact I1.fpOk hle (I1.hok.fresh hle)
end
/-- over enumerate of a list that the body leaves as it is -/
theorem for_enum {K : PySem.W.Frag} {a : Addr} {xs : List V} {g : TG} {tb : TS} {D : Ends} {σ : St} {H : Hp} (Pv : Nat → St → Hp → Prop) (h0 : Pv 0 σ H) (hl : ∀ i σ H, i ≤ xs.length → Pv i σ H → SqL K H a xs)
    (hs : ∀ i x p σ H, xs[i]? = some x → H p = none → Pv i σ H → g (.ref p) σ (upd H p (.tup [.int (i : Int), x])) fun σ2 H2 => tb { D with nx := Pv (i + 1), ct := Pv (i + 1), bk := D.nx } σ2 H2) (hd : ∀ σ H, Pv xs.length σ H → D.nx σ H) :
    ∃ W : Nat → Nat → St → Hp → Prop, (∃ m, W 0 m σ H) ∧ ∀ i m σ H, W i m σ H →
      ((Ite K a).stop i H ∧ D.nx σ H) ∨ ((Ite K a).go i H ∧ ∃ N : St → Hp → Prop, (∀ σ' H', N σ' H' → ∃ m', m' < m ∧ W (i + 1) m' σ' H') ∧ ∀ x H', (Ite K a).yld i H x H' → g x σ H' fun σ2 H2 => tb { D with nx := N, ct := N, bk := D.nx } σ2 H2) := by
  refine ⟨fun i m σ H => m = xs.length - i ∧ i ≤ xs.length ∧ Pv i σ H, ⟨xs.length, by simp, Nat.zero_le _, h0⟩, ?_⟩
  rintro i m σ H ⟨rfl, hi, p⟩
  have q := hl i σ H hi p
  by_cases hlt : i < xs.length
  · refine .inr ⟨⟨xs, xs[i], q, by simp [hlt]⟩, Pv (i + 1), fun σ' H' p' => ⟨xs.length - (i + 1), by omega, rfl, hlt, p'⟩, fun x H' y => ?_⟩
    obtain ⟨pp, y', rfl, hn, rfl, y⟩ := y
    exact hs i y' pp σ H (y xs q) hn p
  · have e : i = xs.length := by omega
    subst e
    exact .inl ⟨⟨xs, q, Nat.le_refl _⟩, hd σ H p⟩
end L2

set_option Elab.async false
set_option linter.all false
set_option maxRecDepth 100000
set_option maxHeartbeats 4000000
/-! a list comprehension of one clause, over the hand layer -/
namespace L2
open PySem PySem.Spec PyProof.Rows
theorem codeAny_compLoop_go {prog : Program} {w : World} {A : Around} {R : Result → Shared → Prop} {s : Shared} {elt target iter : Expr} {scope : Scope} {pos : Pos} {it acc : Value} {env : Env} (I : Nat → Shared → Prop)
    (turn : ∀ n s, I n s → wpAny (model prog w) A (pyNext it) (fun r s₁ => match r with
      | none => R (.ok .next) s₁
      | some v => wpAny (model prog w) A (letOwnedTupleGo target it v) (fun _ s₂ => wpAny (model prog w) A (assign target env v) (fun _ s₃ => wpAny (model prog w) A (eval elt env) (fun x s₄ =>
          wpAny (model prog w) A (call (.builtin "list.append") [acc, x]) (fun _ s₅ => ∃ m, m < n ∧ I m s₅) (fun _ _ => False) s₄) (fun _ _ => False) s₃) (fun _ _ => False) s₂) (fun _ _ => False) s₁) (fun _ _ => False) s)
    (n : Nat) (h : I n s) : codeAny (model prog w) A (.compLoop (.ListComp elt [⟨target, iter, [], 0⟩] scope pos) 0 it acc env) R s := by
  refine codeAny_loop rfl I (fun n s hI => ?_) n h
  show wpAny _ A ((compTurn (.ListComp elt [⟨target, iter, [], 0⟩] scope pos) 0 it acc env).onRaise (fun x => do noteFrame x env; theTreesLotGoes x)) _ _ s
  refine wpAny_noted ?_
  rw [compTurn_list1]
  refine wpAny_bind (wpAny_standAt (wpAny_bind (wpAny_mono (turn n s hI) (fun r s₁ h₁ => ?_) fun _ _ h' => h'.elim)))
  cases r with
  | none => exact wpAny_pure h₁
  | some v =>
    exact wpAny_bind (wpAny_mono h₁ (fun _ s₂ h₂ => wpAny_bind (wpAny_mono h₂ (fun _ s₃ h₃ => wpAny_bind (wpAny_bind (wpAny_mono h₃ (fun x s₄ h₄ => wpAny_bind (wpAny_mono h₄ (fun _ s₅ h₅ => wpAny_pure (wpAny_pure ⟨rfl, h₅⟩)) fun _ _ h' => h'.elim))
      fun _ _ h' => h'.elim))) fun _ _ h' => h'.elim)) fun _ _ h' => h'.elim)
/-- the cells that a block's free names are bound to -/
def clGo (env : Env) : List (Str × NameKind) → List (Str × Addr) → List (Str × Addr)
  | [], cs => cs
  | (n, k) :: r, cs => clGo env r (if k == .free then (match env.cells.lookup n with | some c => (n, c) :: cs | none => cs) else cs)
def clOf (scope : Scope) (env : Env) : List (Str × Addr) := clGo env scope.names []
theorem clGo_eq (env : Env) : ∀ (ns : List (Str × NameKind)) (cs : List (Str × Addr)), (∀ y ∈ ns, y.2 = .free → ∃ c, env.cells.lookup y.1 = some c) →
    (forIn ns cs (fun x r => do
      if x.2 == .free then
        let a ← cellOf env x.1
        pure (ForInStep.yield ((x.1, a) :: r))
      else pure (ForInStep.yield r)) : Sem (List (Str × Addr))) = pure (clGo env ns cs)
  | [], cs, _ => rfl
  | (n, k) :: r, cs, h => by
    rw [List.forIn_cons]
    by_cases hk : k = .free
    · subst hk
      obtain ⟨c, hc⟩ := h (n, .free) List.mem_cons_self rfl
      have hc' : env.cells.lookup n = some c := hc
      have e : cellOf env n = pure c := by unfold cellOf; rw [hc']
      simp only [beq_self_eq_true, if_true, e, pure_bind, clGo, hc']
      exact clGo_eq env r _ fun y hy => h y (List.mem_cons_of_mem _ hy)
    · have hb : (k == NameKind.free) = false := by simpa using hk
      simp only [hb, Bool.false_eq_true, if_false, pure_bind, clGo]
      exact clGo_eq env r _ fun y hy => h y (List.mem_cons_of_mem _ hy)
theorem closureFor_cl {scope : Scope} {env : Env} (h : ∀ y ∈ scope.names, y.2 = .free → ∃ c, env.cells.lookup y.1 = some c) : closureFor scope env = pure (clOf scope env) := by
  have e := clGo_eq env scope.names [] h
  unfold clOf
  rw [← e]
  unfold closureFor
  simp only [bind_pure]
theorem clGo_sub (env : Env) : ∀ (ns : List (Str × NameKind)) (cs : List (Str × Addr)) (x : Str) (c : Addr), (∀ x c, cs.lookup x = some c → env.cells.lookup x = some c) → (clGo env ns cs).lookup x = some c → env.cells.lookup x = some c
  | [], _, x, c, h, e => h x c e
  | (n, k) :: r, cs, x, c, h, e => by
    refine clGo_sub env r _ x c (fun y d hd => ?_) e
    by_cases hk : (k == NameKind.free) = true
    · rw [if_pos hk] at hd
      cases q : env.cells.lookup n with
      | none => rw [q] at hd; exact h y d hd
      | some a =>
        rw [q] at hd
        simp only [List.lookup_cons] at hd
        cases b : y == n with
        | true => rw [b] at hd; cases hd; rw [eq_of_beq b]; exact q
        | false => rw [b] at hd; exact h y d hd
    · rw [if_neg hk] at hd
      exact h y d hd
theorem clOf_sub {scope : Scope} {env : Env} {x : Str} {c : Addr} (e : (clOf scope env).lookup x = some c) : env.cells.lookup x = some c := clGo_sub env _ _ x c (fun _ _ h => by simp at h) e
theorem clGo_has (env : Env) : ∀ (ns : List (Str × NameKind)) (cs : List (Str × Addr)) (x : Str) (c : Addr), (cs.lookup x = some c ∨ (x, NameKind.free) ∈ ns) → env.cells.lookup x = some c → (clGo env ns cs).lookup x = some c
  | [], _, x, c, h, _ => h.elim (fun z => z) (fun z => by simp at z)
  | (n, k) :: r, cs, x, c, h, e => by
    refine clGo_has env r _ x c ?_ e
    rcases h with h | h
    · refine .inl ?_
      split
      · cases q : env.cells.lookup n with
        | none => exact h
        | some a =>
          simp only [List.lookup_cons]
          cases b : x == n with
          | true => rw [← eq_of_beq b, e] at q; exact q.symm
          | false => exact h
      · exact h
    · rcases List.mem_cons.mp h with z | z
      · injection z with z1 z2
        subst z1 z2
        refine .inl ?_
        simp only [beq_self_eq_true, if_true, e, List.lookup_cons]
      · exact .inr z
theorem clOf_has {scope : Scope} {env : Env} {x : Str} {c : Addr} (h : (x, NameKind.free) ∈ scope.names) (e : env.cells.lookup x = some c) : (clOf scope env).lookup x = some c := clGo_has env _ _ x c (.inr h) e
/-- a name of the block is cell or free only where its scope says free -/
theorem relabel_free {env : Env} : ∀ {names : List (Str × NameKind)} {x : Str}, (∀ y ∈ names, y.2 ≠ .cell) →
    ((names.map fun (n, k) => if (k == NameKind.free && env.scope.kind == .function && env.kindOf n == some .cell) then (n, NameKind.cell) else (n, k)).lookup x = some .cell ∨
     (names.map fun (n, k) => if (k == NameKind.free && env.scope.kind == .function && env.kindOf n == some .cell) then (n, NameKind.cell) else (n, k)).lookup x = some .free) → (x, NameKind.free) ∈ names
  | [], _, _, h => by simp at h
  | (n, k) :: r, x, hc, h => by
    have ih := @relabel_free env r x fun y hy => hc y (List.mem_cons_of_mem _ hy)
    have hk : k ≠ .cell := hc (n, k) List.mem_cons_self
    simp only [List.map_cons] at h
    by_cases q : (k == NameKind.free && env.scope.kind == .function && env.kindOf n == some .cell) = true
    · rw [if_pos q] at h
      simp only [List.lookup_cons] at h
      cases b : x == n with
      | true =>
        have : k = .free := by simp only [Bool.and_eq_true] at q; exact eq_of_beq q.1.1
        subst this
        rw [eq_of_beq b]
        exact List.mem_cons_self
      | false => rw [b] at h; exact List.mem_cons_of_mem _ (ih h)
    · rw [if_neg q] at h
      simp only [List.lookup_cons] at h
      cases b : x == n with
      | true =>
        rw [b] at h
        rcases h with h | h
        · exact absurd (Option.some.inj h) hk
        · have : k = .free := Option.some.inj h
          subst this
          rw [eq_of_beq b]
          exact List.mem_cons_self
      | false => rw [b] at h; exact List.mem_cons_of_mem _ (ih h)
theorem relabel_vis {env : Env} : ∀ {names : List (Str × NameKind)} {x : Str}, names.lookup x = some .free →
    ((names.map fun (n, k) => if (k == NameKind.free && env.scope.kind == .function && env.kindOf n == some .cell) then (n, NameKind.cell) else (n, k)).lookup x = some .cell ∨
     (names.map fun (n, k) => if (k == NameKind.free && env.scope.kind == .function && env.kindOf n == some .cell) then (n, NameKind.cell) else (n, k)).lookup x = some .free)
  | [], _, h => by simp at h
  | (n, k) :: r, x, h => by
    have ih := @relabel_vis env r x
    simp only [List.map_cons]
    simp only [List.lookup_cons] at h
    by_cases q : (k == NameKind.free && env.scope.kind == .function && env.kindOf n == some .cell) = true
    · rw [if_pos q]
      simp only [List.lookup_cons]
      cases b : x == n with
      | true => exact .inl rfl
      | false => rw [b] at h; exact ih h
    · rw [if_neg q]
      simp only [List.lookup_cons]
      cases b : x == n with
      | true => rw [b] at h; exact .inr h
      | false => rw [b] at h; exact ih h
/-- the block's context: entered at s3 with the accumulator made; fp: the iterator's records -/
def cxComp (X : Cx) (N' : List Str) (scope : Scope) (C : Addr) (s3 : Shared) (H3 : Hp) (fp : List Addr) : Cx :=
  { X with N := N', s₀ := s3, H₀ := H3, env := compEnvC scope (clOf scope X.env) C X.env, outer := X.stack, stack := X.stack, ex := fp, fn := fun _ => false, pn := [], xe := fun _ _ => False }
/-- the block's names at its entry: t targets, then the captured ones by their places in the def's names -/
def capS (t : Nat) (cap : List Nat) (σ : St) : St := List.replicate t none ++ cap.map fun k => (σ[k]?).join
/-- W: the invariant by the turn and a measure; D: the list that grows -/
def compW (J : It) (D : Addr) (g : TG) (te : TE) (Q : VK) (σ : St) (H : Hp) : Prop := ∃ W : Nat → Nat → St → Hp → Prop, (∃ m, W 0 m σ H) ∧ ∀ i m σ' H', W i m σ' H' →
  (J.stop i H' ∧ Q (.ref D) H') ∨ (J.go i H' ∧ ∀ x H2, J.yld i H' x H2 → g x σ' H2 fun σ3 H3 => te σ3 H3 fun y H4 => ∃ ys, H4 D = some (.lst ys) ∧ ys.length < sizeLine ∧ ∃ m', m' < m ∧ W (i + 1) m' σ3 (upd H4 D (.lst (ys ++ [y]))))
def tComp (t : Nat) (cap : List Nat) (wi : TI) (g : TG) (te : TE) : TE := fun σ H Q => wi σ H fun J H1 => ∀ D, H1 D = none → compW J D g te Q (capS t cap σ) (upd H1 D (.lst []))
structure CompOk (X : Cx) (N' : List Str) (scope : Scope) (t : Nat) (cap : List Nat) : Prop where
  kind : scope.kind = .function
  cell : ∀ y ∈ scope.names, y.2 ≠ .cell
  names : ∀ y ∈ scope.names, y.2 = .local → scope.names.lookup y.1 = some .local
  free : ∀ y ∈ scope.names, y.2 = .free → (X.env.kindOf y.1 = some .cell ∨ X.env.kindOf y.1 = some .free)
  len : N'.length = t + cap.length
  caps : ∀ (j k : Nat), cap[j]? = some k → ∃ x, N'[t + j]? = some x ∧ X.N[k]? = some x ∧ scope.names.lookup x = some .free
section
variable {X : Cx}
theorem comp_enter {pins : List (Addr × Obj)} {σ : St} {H3 : Hp} {s3 : Shared} {N' : List Str} {scope : Scope} {t : Nat} {cap : List Nat} {fp : List Addr} {h₁ : Heap} {tk : Nat} (S : CompOk X N' scope t cap) (I3 : Inv X pins σ H3 s3)
    (hf : ∀ b ∈ fp, FpOk X pins H3 b) (hob : ∀ b ∈ fp, ∃ o, s3.heap.get? b = some o) (hns : h₁.Ns s3.heap.objs.size fun _ => none) (k : ∀ b o, s3.heap.get? b = some o → h₁.get? b = some o) :
    Inv (cxComp X N' scope s3.heap.objs.size s3 H3 fp) [] (capS t cap σ) H3 { s3 with heap := h₁, toks := tk } := by
  have cellOld : ∀ {x : Str} {c : Addr}, (clOf scope X.env).lookup x = some c → X.env.cells.lookup x = some c := fun e => clOf_sub e
  have isCellK : ∀ {c : Addr} {v : Option Value}, s3.heap.IsCell c v → h₁.IsCell c v := fun ⟨o, e, d⟩ => ⟨o, k _ _ e, d⟩
  have memOf : ∀ {x : Str}, scope.names.lookup x = some .free → (x, NameKind.free) ∈ scope.names := fun e => PySem.mem_of_lookup e
  refine ⟨⟨I3.mod, S.kind, I3.ok.glob, I3.ok.blt, Nat.le_refl _, ?_, ?_, ?_, I3.ok.hd, I3.ok.frames, .inl rfl, ?_, I3.bs, Nat.le_trans I3.ok.bsz I3.sz, ?_, ?_, I3.stack, I3.stkFree⟩,
    rfl, I3.bare, Un.kept k, ⟨_, hns, ?_⟩, ?_, ?_, ?_, ?_, I3.hok.kept k, ?_⟩
  · intro x y c h1 h2
    exact I3.ok.inj x y c (cellOld h1) (cellOld h2)
  · intro x hx
    have hm : (x, NameKind.free) ∈ scope.names := relabel_free S.cell hx
    obtain ⟨c, hc⟩ := I3.ok.has x (S.free _ hm rfl)
    exact ⟨c, clOf_has hm hc⟩
  · intro x c h
    cases h
  · intro b hb
    obtain ⟨o, ho⟩ := hob b hb
    exact ⟨Nat.ne_of_lt (Heap.lt_size ho), fun x c e => (hf b hb).2.2.2.2.1 x c (cellOld e)⟩
  · intro b o e hb
    rcases (hf b hb).2.2.2.1 with z | z
    · exact I3.ok.noex b o e z
    · exact absurd (Nat.lt_of_lt_of_le (Nat.lt_of_lt_of_le (Heap.lt_size e) I3.ok.bsz) z) (Nat.lt_irrefl _)
  · intro b hb hz
    rcases List.mem_cons.mp (I3.stkSub b hz) with z | z
    · exact (hf b hb).2.1 z
    · exact (hf b hb).2.2.1 z
  · intro i x v e1 e2 e3
    have ht : t ≤ i := by
      rcases Nat.lt_or_ge i t with q | q
      · unfold capS at e2
        rw [List.getElem?_append_left (by simpa using q), List.getElem?_replicate] at e2
        split at e2 <;> cases e2
      · exact q
    obtain ⟨j, rfl⟩ : ∃ j, i = t + j := ⟨i - t, by omega⟩
    unfold capS at e2
    rw [List.getElem?_append_right (by simp), List.length_replicate, Nat.add_sub_cancel_left, List.getElem?_map] at e2
    cases q : cap[j]? with
    | none => rw [q] at e2; cases e2
    | some m =>
      rw [q] at e2
      have e2' : (σ[m]?).join = some v := Option.some.inj e2
      have e2'' : σ[m]? = some (some v) := by
        cases z : σ[m]? with
        | none => rw [z] at e2'; cases e2'
        | some w => rw [z] at e2'; have : w = some v := e2'; rw [this]
      obtain ⟨x', c1, c2, c3⟩ := S.caps j m q
      have ex : x' = x := by
        have e1' : N'[t + j]? = some x := e1
        rw [c1] at e1'; exact Option.some.inj e1'
      subst ex
      have hk := S.free _ (memOf c3) rfl
      obtain ⟨mm, hn, hl⟩ := I3.loc
      obtain ⟨u, r, L⟩ := hl m x' v c2 e2'' (by rcases hk with z | z; exact .inr (.inl z); exact .inr (.inr z))
      refine ⟨u, r, ?_⟩
      rcases L with ⟨z, _⟩ | ⟨_, c, hc, hcell⟩
      · rcases hk with y | y <;> (have y' : X.env.kindOf x' = _ := y; rw [z] at y'; cases y')
      · exact .inr ⟨relabel_vis c3, c, clOf_has (memOf c3) hc, isCellK hcell⟩
  · intro x c e
    obtain ⟨v, z⟩ := I3.cell x c (cellOld e)
    exact ⟨v, isCellK z⟩
  · exact I3.hok.fresh (Nat.le_refl _)
  · intro x c e
    exact I3.freeC x c (cellOld e)
  · intro p hp
    exact absurd (show p ∈ ([] : List (Addr × Obj)) from hp) (by simp)
  · show (capS t cap σ).length = N'.length
    unfold capS
    rw [S.len, List.length_append, List.length_replicate, List.length_map]
theorem pe_comp {target elt iter : Expr} {scope : Scope} {pos : Pos} {N' : List Str} {cap : List Nat} {t : Nat} {wi : TI} {g : TG} {te : TE} (hc : X.calm = true) (S : CompOk X N' scope t cap) (hi : PI X target iter wi)
    (hg : ∀ C s3 H3 fp, PG (cxComp X N' scope C s3 H3 fp) target g) (he : ∀ C s3 H3 fp, PE (cxComp X N' scope C s3 H3 fp) elt te) (hs : ∀ x, foldedSetIterable iter X.env x = pure x := by intro _; rfl) :
    PE X (.ListComp elt [⟨target, iter, [], 0⟩] scope pos) (tComp t cap wi g te) := by
  intro pins s σ H Q I h
  rw [eval_ListComp]
  refine wpAny_comprehension_free (use := none) (cl := clOf scope X.env) rfl hs (closureFor_cl fun y hy hf => I.ok.has y.1 (S.free y hy hf)) S.kind S.names (thn (hi pins s σ H _ I h) fun v s1 h1 => thn h1 fun itv s2 h2 => ?_)
  obtain ⟨it, fp, tn, J, H2, e, I2, T, st2, f2, h2⟩ := h2
  subst e
  refine wpAny_newObj_type (wpAny_newFunctionEnv S.cell (by intro y hy; simp at hy) (fun h₁ hns₁ hsb₁ => ?_) S.kind)
  dsimp only at hns₁ hsb₁ ⊢
  obtain ⟨s3, hs3⟩ : ∃ s3 : Shared, s3 = { s2 with heap := s2.heap.push { cls := .type "list", dict := none, data := .seq ([] : List Value).toArray } } := ⟨_, rfl⟩
  have hD : H2 s2.heap.objs.size = none := I2.hok.fresh (Nat.le_refl _)
  have I3 : Inv X pins σ (upd H2 s2.heap.objs.size (.lst [])) s3 := by
    rw [hs3]
    exact I2.laid (t' := s2.toks) (fun b u e => Heap.get?_push_of_some _ e) (Nat.le_refl _) ⟨Nat.zero_le _, [], 0, .nil, Heap.get?_push_size _ rfl⟩
  have hsz3 : s3.heap.objs.size = s2.heap.objs.size + 1 := by rw [hs3]; exact Heap.size_push ..
  have old3 : ∀ b o, s2.heap.get? b = some o → s3.heap.get? b = some o := fun b o e => by rw [hs3]; exact Heap.get?_push_of_some _ e
  have hC : (s2.heap.push { cls := .type "list", dict := none, data := .seq ([] : List Value).toArray }).objs.size = s3.heap.objs.size := by rw [hs3]
  have f3 : ∀ b ∈ fp, FpOk X pins (upd H2 s2.heap.objs.size (.lst [])) b := fun b hb => by
    obtain ⟨o, ho, _⟩ := T.obj _ _ st2 b hb
    refine ⟨?_, (f2 b hb).2⟩
    rw [upd_ne (Nat.ne_of_lt (Heap.lt_size ho))]
    exact (f2 b hb).1
  have ob3 : ∀ b ∈ fp, ∃ o, s3.heap.get? b = some o := fun b hb => by
    obtain ⟨o, ho, _⟩ := T.obj _ _ st2 b hb
    exact ⟨o, old3 b o ho⟩
  have k1 : ∀ b o, s3.heap.get? b = some o → h₁.get? b = some o := fun b o e => by
    refine hsb₁.extBut b o ?_ ?_
    · rw [hC]; exact Nat.ne_of_lt (Heap.lt_size e)
    · rw [hs3] at e; exact Heap.get?_push_of_some _ e
  have hns : h₁.Ns s3.heap.objs.size fun _ => none := by
    rw [← hC]; exact hns₁
  have I4 := comp_enter (tk := s2.toks + ([] : List (Str × Value)).length) S I3 f3 ob3 hns k1
  have st4 : tn 0 h₁ := T.keep _ _ _ st2 fun b hb o e => k1 b o (old3 b o e)
  obtain ⟨W, ⟨m0, w0⟩, turn⟩ := h2 _ hD
  -- the block's context
  obtain ⟨X', hX'⟩ : ∃ X' : Cx, X' = cxComp X N' scope s3.heap.objs.size s3 (upd H2 s2.heap.objs.size (.lst [])) fp := ⟨_, rfl⟩
  have hg' : PG X' target g := by rw [hX']; exact hg _ _ _ _
  have he' : PE X' elt te := by rw [hX']; exact he _ _ _ _
  have stat : ∀ {H' : Hp}, (∀ b ∈ fp, H' b = none) → ∀ b ∈ fp, FpOk X' [] H' b := fun hn b hb => by
    obtain ⟨o, ho⟩ := ob3 b hb
    rw [hX']
    refine ⟨hn b hb, Nat.ne_of_lt (Heap.lt_size ho), ?_, .inl hb, fun x c e => (f3 b hb).2.2.2.2.1 x c (clOf_sub e), fun p hp => absurd (show p ∈ ([] : List (Addr × Obj)) from hp) (by simp)⟩
    intro hz
    rcases List.mem_cons.mp (I3.stkSub b hz) with z | z
    · exact (f3 b hb).2.1 z
    · exact (f3 b hb).2.2.1 z
  have hcalm : X'.calm = true := by rw [hX']; exact hc
  have loop : codeAny (model X.prog X.w) X.A (.compLoop (.ListComp elt [⟨target, iter, [], 0⟩] scope pos) 0 (.ref it) (.ref s2.heap.objs.size) (compEnvC scope (clOf scope X.env) s3.heap.objs.size X.env))
      (compPost (model X.prog X.w) X.A X.xe none (EP X pins σ Q) (.ref s2.heap.objs.size) s3.heap.objs.size) { s3 with heap := h₁, toks := s2.toks + ([] : List (Str × Value)).length } := by
    refine codeAny_compLoop_go (fun n s' => ∃ i σ' H', Inv X' [] σ' H' s' ∧ tn i s'.heap ∧ (∀ b ∈ fp, H' b = none) ∧ W i n σ' H') ?_ m0 ⟨0, capS t cap σ, _, by rw [hX']; exact I4, st4, fun b hb => (f3 b hb).1, w0⟩
    rintro n s5 ⟨i, σ5, H5, I5, st5, fr5, w5⟩
    rcases turn i n σ5 H5 w5 with ⟨stop, qn⟩ | ⟨go, step⟩
    · have q := T.done X' (by rw [hX']; rfl) (by rw [hX']; rfl) (by rw [hX']; rfl) hcalm i [] s5 σ5 H5 (fun _ _ => False) I5 (stat fr5) st5 stop
      have eA : X'.A = X.A := by rw [hX']; rfl
      rw [eA] at q
      refine thn q fun r s6 ⟨hr, I6⟩ => ?_
      subst hr
      obtain ⟨m, hn, _⟩ := I6.loc
      have hn' : s6.heap.Ns s3.heap.objs.size m := by rw [hX'] at hn; exact hn
      refine ⟨m, hn', fun h' hs' => ?_⟩
      have un6 : Un (frs X.stack) fp (upd H2 s2.heap.objs.size (.lst [])) H5 s3.heap s6.heap := by have := I6.base; rw [hX'] at this; exact this
      have hok6 : HOk X.prog X.w H5 s6.heap := by have := I6.hok; rw [hX'] at this; exact this
      have free6 : H5 s3.heap.objs.size = none := by have := I6.free; rw [hX'] at this; exact this
      have kp : ∀ b o, b ≠ s3.heap.objs.size → s6.heap.get? b = some o → h'.get? b = some o := fun b o hb e => hs'.extBut b o hb e
      have neC : ∀ {b : Addr} {o : Obj}, s3.heap.get? b = some o → b ≠ s3.heap.objs.size := fun e => Nat.ne_of_lt (Heap.lt_size e)
      have un7 : Un (frs X.stack) fp (upd H2 s2.heap.objs.size (.lst [])) H5 s3.heap h' :=
        ⟨fun b o e n1 n2 n3 => kp b o (neC e) (un6.keep b o e n1 n2 n3), fun b o e n1 n2 n3 => by obtain ⟨sl, z⟩ := un6.slot b o e n1 n2 n3; exact ⟨sl, kp b _ (neC e) z⟩, un6.free,
          fun b o e n3 => by obtain ⟨o', z⟩ := un6.there b o e n3; exact ⟨o', kp b _ (neC e) z⟩, un6.tups, un6.frzs, un6.tbls⟩
      have hok7 : HOk X.prog X.w H5 h' := fun b ob e => by
        refine (hok6 b ob e).stay (fun c w' hc' q => kp c w' ?_ q) (fun _ q => q) fun _ _ q => q
        rintro rfl
        rcases hc' with rfl | hc'
        · rw [free6] at e; cases e
        · rw [free6] at hc'; cases hc'
      refine ⟨.ref s2.heap.objs.size, H5, I3.call' (s' := { s6 with heap := h' }) (ch := fp) ?_ un7 hok7 I6.bare (fun b hb => ⟨(f3 b hb).2.2.2.1, (f3 b hb).2.1, (f3 b hb).2.2.2.2.1, (f3 b hb).2.2.2.2.2⟩), rfl, qn⟩
      show s6.os = s3.os
      have := I6.os
      rw [hX'] at this
      exact this
    · have q := T.item X' (by rw [hX']; rfl) (by rw [hX']; rfl) (by rw [hX']; rfl) hcalm i [] s5 σ5 H5 (fun _ _ => False) I5 (stat fr5) st5 go
      have eA : X'.A = X.A := by rw [hX']; rfl
      have eP : X'.prog = X.prog := by rw [hX']; rfl
      have eW : X'.w = X.w := by rw [hX']; rfl
      have eE : X'.env = compEnvC scope (clOf scope X.env) s3.heap.objs.size X.env := by rw [hX']; rfl
      have eX : X'.xe = fun _ _ => False := by rw [hX']; rfl
      rw [eA] at q
      refine thn q fun r s6 ⟨u, hr, h6⟩ => ?_
      subst hr
      refine thn h6 fun _ s7 ⟨x, H7, I7, r7, y7, st7, fr7⟩ => ?_
      have I7' := I7.pinned (stat fr7) (T.obj _ _ st7)
      have q8 := hg' _ s7 σ5 H7 x u _ I7' r7 (step x H7 y7)
      rw [eA, eP, eW, eE, eX] at q8
      refine thn q8 fun _ s8 ⟨σ8, H8, I8, w8⟩ => ?_
      have q9 := he' _ s8 σ8 H8 _ I8 w8
      rw [eA, eP, eW, eE, eX] at q9
      refine thn q9 fun y s9 ⟨v9, H9, I9, r9, ys, hD9, hlt, m', hm, w9⟩ => ?_
      have q10 := mt_append (X := X') _ s9 σ8 H9 (.ref s2.heap.objs.size) [v9] (.ref s2.heap.objs.size) [y] (fun _ H10 => H10 = upd H9 s2.heap.objs.size (.lst (ys ++ [v9]))) I9 rfl (.cons r9 .nil) ⟨_, ys, v9, rfl, rfl, hD9, hlt, rfl⟩
      rw [eA, eP, eW, eX] at q10
      refine thn q10 fun _ s10 ⟨v10, H10, I10, r10, e10⟩ => ?_
      subst e10
      refine ⟨m', hm, i + 1, σ8, _, I10.unpinned, T.keep _ _ _ st7 fun b hb o e => (I10.pin (b, o) (List.mem_append_right _ (List.mem_append_right _ (mem_pinsAt hb e)))).1, fun b hb => ?_, w9⟩
      obtain ⟨o, e, d⟩ := T.obj _ _ st7 b hb
      exact (I10.pin (b, o) (List.mem_append_right _ (List.mem_append_right _ (mem_pinsAt hb e)))).2.1
  have es : ({ s2 with heap := h₁, toks := s2.toks + ([] : List (Str × Value)).length } : Shared) = { s3 with heap := h₁, toks := s2.toks + ([] : List (Str × Value)).length } := by rw [hs3]
  rw [es, hC]
  exact codeAny_compStart_list loop (T.self _ 0 _ _ _ st4 loop)
end
end L2

set_option Elab.async false
set_option linter.all false
set_option maxRecDepth 100000
set_option maxHeartbeats 4000000
/-! three names at once; str of a pair; a division by greater numbers; a def of the text by its name; forms of a comprehension -/
namespace L2
open PySem PySem.Spec PyProof.Rows
section
variable {X : Cx} {pos : Pos}
def tPar3 (i j k : Nat) (ta : TA) : TS := fun D σ H => ta σ H fun vs H1 => ∃ v w z, vs = [v, w, z] ∧ D.nx (((σ.set i (some v)).set j (some w)).set k (some z)) H1
theorem ps_par3 {i j k : Nat} {x y z : Str} {a b c : Expr} {ta : TA} {px py pz pt : Pos} {kt k2 pt2} (hc : X.calm = true) (hN : X.N.Nodup) (hi : X.N[i]? = some x) (hj : X.N[j]? = some y) (hk : X.N[k]? = some z) (hij : i ≠ j) (hik : i ≠ k) (hjk : j ≠ k)
    (hx : X.env.scope.names.lookup x = some .local) (hy : X.env.scope.names.lookup y = some .local) (hz : X.env.scope.names.lookup z = some .local) (ha : PA X [a, b, c] ta)
    (hw : swappedStores [.Tuple [.Name x px, .Name y py, .Name z pz] kt pt] (.Tuple [a, b, c] k2 pt2) X.env = pure (some [x, y, z]))
    (hs : swapsWithSole [.Tuple [.Name x px, .Name y py, .Name z pz] kt pt] (.Tuple [a, b, c] k2 pt2) pos.line X.env = pure false := by rfl) :
    PS X (.Assign [.Tuple [.Name x px, .Name y py, .Name z pz] kt pt] (.Tuple [a, b, c] k2 pt2) pos) (tPar3 i j k ta) := by
  intro pins s σ H D I h
  rw [exec_Assign_arm]
  refine wpAny_bind (wpAny_standAt ?_)
  rw [hs]
  refine wpAny_bind (wpAny_pure ?_)
  rw [if_neg (by decide)]
  refine wpAny_bind (Tuple_ (thn (ha _ pins s σ H _ I h) fun us s1 ⟨vs, H1, I1, r1, q1⟩ => ?_))
  obtain ⟨v, w, zz, e1, q1⟩ := q1
  subst e1
  obtain ⟨u1, u2, u3, rfl, rv, rw', rz⟩ : ∃ u1 u2 u3, us = [u1, u2, u3] ∧ RelV v u1 ∧ RelV w u2 ∧ RelV zz u3 := by
    cases r1 with
    | cons p q =>
      cases q with
      | cons p' q' =>
        cases q' with
        | cons p'' q'' =>
          cases q''
          exact ⟨_, _, _, rfl, p, p', p''⟩
  refine wpAny_newObj_type ?_ (by show 3 ≤ sizeLine; decide)
  have I2 : Inv X pins σ H1 { s1 with heap := s1.heap.push { cls := .type "tuple", data := .seq [u1, u2, u3].toArray } } := I1.kept (t' := s1.toks) fun b o e => Heap.get?_push_of_some _ e
  rw [hw]
  refine wpAny_bind (wpAny_pure ?_)
  show wpAny (model X.prog X.w) X.A (do rule "assign.swapped-stores"; let items ← unpackItems (.ref s1.heap.objs.size) 3 none; assignInOrder [fun v => bindName X.env z v, fun v => bindName X.env y v, fun v => bindName X.env x v] items.reverse; pure Flow.next) _ _ _
  refine wpAny_bind (wpAny_rule (wpAny_bind (unpackItems_tuple (items := #[u1, u2, u3]) (I.ok.hd hc) (IsTup.new s1.heap _) fun h' hx' => ?_)))
  have I3 := I2.kept (h' := h') (t' := s1.toks) fun b o e => hx' b o (Nat.ne_of_lt (Heap.lt_size e)) e
  show wpAny _ _ (assignInOrder [fun v => bindName X.env z v, fun v => bindName X.env y v, fun v => bindName X.env x v] [u3, u2, u1] >>= fun _ => pure Flow.next) _ _ _
  refine wpAny_bind (assignInOrder_cons (wpAny_bindName (store_ok I3 hN hk (.inl hz) rz (fun s2 I4 => ?_) (.inr hz))))
  refine assignInOrder_cons (wpAny_bindName (store_ok I4 hN hj (.inl hy) rw' (fun s3 I5 => ?_) (.inr hy)))
  refine assignInOrder_cons (wpAny_bindName (store_ok I5 hN hi (.inl hx) rv (fun s4 I6 => assignInOrder_nil (wpAny_pure ?_)) (.inr hx)))
  rw [List.set_comm _ _ (Ne.symm hij), List.set_comm _ _ (Ne.symm hik), List.set_comm _ _ (Ne.symm hjk)] at I6
  exact ⟨_, H1, I6, q1⟩
/-- n // d, of any n, d above 0 and not of thousands of figures -/
def CDivB (i j : Int) : Prop := 0 < j ∧ j < 2 ^ 8000
theorem op_fdivB : OpR X (binaryOp .FloorDiv) (rI CDivB fun i j => .int (i / j)) := opI fun i j _ _ _ _ _ hc q => by
  obtain ⟨h0, h1⟩ := hc
  have e : i.fdiv j = i / j := Int.fdiv_eq_ediv_of_nonneg _ (Int.le_of_lt h0)
  have hl : j.natAbs.log2 < 9000 := by
    have : j.natAbs < 2 ^ 8000 := by omega
    have hne : j.natAbs ≠ 0 := by omega
    have := (Nat.log2_lt hne).mpr this
    omega
  refine floordiv_int (by omega) ?_ (.inl (PyProof.noPylong_of_log2 hl))
  rw [e]
  exact q
/-- str of a tuple of two ints -/
theorem call_strT {k : Nat} (hr : Room k X.A) : CallR X (.type "str") (fun xs H Q => ∃ (p : Addr) (a b : Int), xs = [.ref p] ∧ SqT X.K H p [.int a, .int b] ∧ a.natAbs < 2 ^ 64 ∧ b.natAbs < 2 ^ 64 ∧ ∀ x : Str, Q (.str x) H) := by
  intro pins s σ H xs us Q I r h
  obtain ⟨p, a, b, rfl, hq, ha, hb, q⟩ := h
  obtain ⟨u, rfl, rx⟩ := vals1 r
  cases rx
  obtain ⟨its, rv, ⟨o, ho, hc, n, hd⟩, hz⟩ := I.tuple hq
  obtain ⟨u1, u2, rfl, r1, r2⟩ := Vals.two rv
  obtain ⟨t1, rfl⟩ := r1
  obtain ⟨t2, rfl⟩ := r2
  have lg : ∀ i : Int, i.natAbs < 2 ^ 64 → i.natAbs.log2 < 64 := fun i hi => by
    by_cases h0 : i.natAbs = 0
    · rw [h0]; decide
    · exact (Nat.log2_lt h0).mpr hi
  have la := lg a ha
  have lb := lg b hb
  have rd : Reads s.heap (.ref p) (.tuple [.int a, .int b]) [] := .tuple ho hc hd (.cons (.int a t1) (.cons (.int b t2) .nil))
  have sh : (PyData.tuple [.int a, .int b]).showable = true := by
    simp only [PyData.showable, PyData.showableAll, Bool.and_true, Bool.and_eq_true, decide_eq_true_eq]
    omega
  have ln : (PyData.tuple [.int a, .int b]).shown.length ≤ sizeLine := by
    have l1 : (Str.ofString (toString a)).length ≤ 1921 := int_text_len_1921 (by omega)
    have l2 : (Str.ofString (toString b)).length ≤ 1921 := int_text_len_1921 (by omega)
    have e1 : ((", " : String) : Str).length = 2 := rfl
    have e2 : (("(" : String) : Str).length = 1 := rfl
    have e3 : ((")" : String) : Str).length = 1 := rfl
    show (("(" : Str) ++ Str.join ", " [Str.ofString (toString a), Str.ofString (toString b)] ++ ((")" : String) : Str)).length ≤ sizeLine
    have j := join_length_add [Str.ofString (toString a), Str.ofString (toString b)] (by simp)
    simp only [piled, Str.length_append] at j ⊢
    rw [sizeLine_eq]
    simp only [List.foldr, List.map, List.sum_cons, List.sum_nil] at j
    omega
  refine str_of_reads rd sh (fun h => by simp [PyData.hasDict, PyData.hasDictAll] at h) hr.gd ?_ (fun _ _ e => e) (fun h' u tk hk => ⟨.str _, H, I.kept hk, ⟨u, rfl⟩, q _⟩) ln
  have := hr.un
  have : (PyData.tuple [.int a, .int b]).depth ≤ 10 := by simp [PyData.depth, PyData.depthAll]
  omega
/-- a def of the text, by its name -/
structure Fn (P : Program) (w : World) (K : PySem.W.Frag) (mg : Str → Option Value) (base : Heap) (k : Nat) (x : Str) (ps : List Str) (sp : Sp) : Prop where
  ex : ∃ f fd, FnOk P w K mg base CX0 k f fd ps sp ∧ mg x = some (.ref f) ∧ PySem.W.keepIn K (.ref f) = true ∧ Binds K fd ps []
theorem pe_fn {k j : Nat} {x : Str} {ps : List Str} {sp : Sp} {e : Expr} {es : List Expr} {t : TA} {p : Pos} (F : Fn X.prog X.w X.K X.mg X.base k x ps sp) (hr : Room j X.A) (hk : k ≤ j) (hg : Gl X x) (ha : PA X (e :: es) t) (hdb : (x == ("__debug__" : Str)) = false := by decide)
    (he : starEach (e :: es) X.env = (false, eval e X.env) :: starEach es X.env := by rfl) (hpl : (backTo pos (starEach es X.env)).any (·.1) = false := by rfl) : PE X (.Call (.Name x p) (e :: es) [] pos) (tCall sp [] E0 t) := by
  obtain ⟨f, fd, F, hm, hkp, hb⟩ := F.ex
  exact pe_call F (hr.mono hk) hg hm hkp hb .nil pass0 ha hdb he hpl
end
/-- a comprehension over a range; D: the list that grows -/
theorem comp_range {lo : Int} {n : Nat} {D : Addr} {g : TG} {te : TE} {Q : VK} {σ : St} {H : Hp} (Pv : Nat → St → Hp → Prop) (h0 : Pv 0 σ H)
    (hs : ∀ i σ H, i < n → Pv i σ H → g (.int (lo + i)) σ H fun σ3 H3 => te σ3 H3 fun y H4 => ∃ ys, H4 D = some (.lst ys) ∧ ys.length < sizeLine ∧ ∃ m', m' < n - i ∧ m' = n - (i + 1) ∧ i + 1 ≤ n ∧ Pv (i + 1) σ3 (upd H4 D (.lst (ys ++ [y]))))
    (hd : ∀ σ H, Pv n σ H → Q (.ref D) H) :
    compW (Itr lo n) D g te Q σ H := by
  refine ⟨fun i m σ H => m = n - i ∧ i ≤ n ∧ Pv i σ H, ⟨n, by simp, Nat.zero_le _, h0⟩, ?_⟩
  rintro i m σ H ⟨rfl, hi, p⟩
  by_cases hlt : i < n
  · refine .inr ⟨hlt, fun x H2 y => ?_⟩
    obtain ⟨e, y⟩ := y
    subst e y
    exact hs i σ _ hlt p
  · have e : i = n := by omega
    subst e
    exact .inl ⟨Nat.le_refl _, hd σ H p⟩
theorem comp_tup {K : PySem.W.Frag} {a : Addr} {xs : List V} {D : Addr} {g : TG} {te : TE} {Q : VK} {σ : St} {H : Hp} (Pv : Nat → St → Hp → Prop) (h0 : Pv 0 σ H) (hl : ∀ i σ H, i ≤ xs.length → Pv i σ H → SqT K H a xs)
    (hs : ∀ i x σ H, xs[i]? = some x → Pv i σ H → g x σ H fun σ3 H3 => te σ3 H3 fun y H4 => ∃ ys, H4 D = some (.lst ys) ∧ ys.length < sizeLine ∧ ∃ m', m' < xs.length - i ∧ m' = xs.length - (i + 1) ∧ i + 1 ≤ xs.length ∧ Pv (i + 1) σ3 (upd H4 D (.lst (ys ++ [y]))))
    (hd : ∀ σ H, Pv xs.length σ H → Q (.ref D) H) :
    compW (Itt K a) D g te Q σ H := by
  refine ⟨fun i m σ H => m = xs.length - i ∧ i ≤ xs.length ∧ Pv i σ H, ⟨xs.length, by simp, Nat.zero_le _, h0⟩, ?_⟩
  rintro i m σ H ⟨rfl, hi, p⟩
  have q := hl i σ H hi p
  by_cases hlt : i < xs.length
  · refine .inr ⟨⟨xs, xs[i], q, by simp [hlt]⟩, fun x H2 y => ?_⟩
    obtain ⟨e, y⟩ := y
    subst e
    exact hs i x σ _ (y xs q) p
  · have e : i = xs.length := by omega
    subst e
    exact .inl ⟨⟨xs, q, Nat.le_refl _⟩, hd σ H p⟩
theorem comp_list {K : PySem.W.Frag} {a : Addr} {xs : List V} {D : Addr} {g : TG} {te : TE} {Q : VK} {σ : St} {H : Hp} (Pv : Nat → St → Hp → Prop) (h0 : Pv 0 σ H) (hl : ∀ i σ H, i ≤ xs.length → Pv i σ H → SqL K H a xs)
    (hs : ∀ i x σ H, xs[i]? = some x → Pv i σ H → g x σ H fun σ3 H3 => te σ3 H3 fun y H4 => ∃ ys, H4 D = some (.lst ys) ∧ ys.length < sizeLine ∧ ∃ m', m' < xs.length - i ∧ m' = xs.length - (i + 1) ∧ i + 1 ≤ xs.length ∧ Pv (i + 1) σ3 (upd H4 D (.lst (ys ++ [y]))))
    (hd : ∀ σ H, Pv xs.length σ H → Q (.ref D) H) :
    compW (Itl K a) D g te Q σ H := by
  refine ⟨fun i m σ H => m = xs.length - i ∧ i ≤ xs.length ∧ Pv i σ H, ⟨xs.length, by simp, Nat.zero_le _, h0⟩, ?_⟩
  rintro i m σ H ⟨rfl, hi, p⟩
  have q := hl i σ H hi p
  by_cases hlt : i < xs.length
  · refine .inr ⟨⟨xs, xs[i], q, by simp [hlt]⟩, fun x H2 y => ?_⟩
    obtain ⟨e, y⟩ := y
    subst e
    exact hs i x σ _ (y xs q) p
  · have e : i = xs.length := by omega
    subst e
    exact .inl ⟨⟨xs, q, Nat.le_refl _⟩, hd σ H p⟩
/-- a def of the top by its name -/
def findDef : List Stmt → Str → Stmt
  | [], _ => .Pass ⟨0, 0, 0, 0⟩
  | .FunctionDef n a b d r t s ts bd p :: rest, x => if n == x then .FunctionDef n a b d r t s ts bd p else findDef rest x
  | _ :: rest, x => findDef rest x
end L2

set_option Elab.async false
set_option linter.all false
set_option maxRecDepth 100000
set_option maxHeartbeats 4000000
namespace L2
open PySem PySem.Spec PyProof.Rows
def isStar : Expr → Bool
  | .Starred _ _ => true
  | _ => false
theorem star_ok {e : Expr} {es : List Expr} {env : Env} (h : isStar e = false) : starEach (e :: es) env = (false, eval e env) :: starEach es env := by
  cases e <;> first | rfl | (simp [isStar] at h)
def noStar : List Expr → Bool
  | [] => true
  | e :: es => !isStar e && noStar es
theorem star_any {pos : Pos} {env : Env} : ∀ {es : List Expr}, noStar es = true → (backTo pos (starEach es env)).any (·.1) = false
  | [], _ => rfl
  | e :: es, h => by
    have h1 : isStar e = false := by simp only [noStar, Bool.and_eq_true, Bool.not_eq_true'] at h; exact h.1
    have h2 : noStar es = true := by simp only [noStar, Bool.and_eq_true] at h; exact h.2
    have ih := star_any (pos := pos) (env := env) h2
    rw [star_ok h1]
    simp only [backTo, List.map_cons, List.any_cons, Bool.false_or] at ih ⊢
    exact ih
section
variable {X : Cx} {pos : Pos} {e : Expr} {es : List Expr} {te : TE} {t : TA}
theorem pc (ha : PE X e te) (hr : PA X es t) (hs : isStar e = false := by rfl) : PA X (e :: es) (tCons te t) := pa_cons ha hr (star_ok hs)
theorem pe_fnS {k j : Nat} {x : Str} {ps : List Str} {sp : Sp} {p : Pos} (F : Fn X.prog X.w X.K X.mg X.base k x ps sp) (hr : Room j X.A) (hk : k ≤ j) (hg : Gl X x) (ha : PA X (e :: es) t) (hdb : (x == ("__debug__" : Str)) = false := by decide)
    (hs : noStar (e :: es) = true := by rfl) : PE X (.Call (.Name x p) (e :: es) [] pos) (tCall sp [] E0 t) :=
  pe_fn F hr hk hg ha hdb (star_ok (by simp only [noStar, Bool.and_eq_true, Bool.not_eq_true'] at hs; exact hs.1)) (star_any (by simp only [noStar, Bool.and_eq_true] at hs; exact hs.2))
theorem pe_callBS {x : Str} {p : Pos} {id : String} {r : List V → Hp → VK → Prop} (hc : CallR X (.builtin id) r) (hg : Gl X x) (hm : X.mg x = none) (hv : bootBuiltins x = some (.builtin id)) (ha : PA X (e :: es) t) (hn : x ≠ "__name__" := by decide) (hdb : (x == ("__debug__" : Str)) = false := by decide)
    (hs : noStar (e :: es) = true := by rfl) : PE X (.Call (.Name x p) (e :: es) [] pos) (tCB r t) :=
  pe_callB hc hg hm hv ha hn hdb (star_ok (by simp only [noStar, Bool.and_eq_true, Bool.not_eq_true'] at hs; exact hs.1)) (star_any (by simp only [noStar, Bool.and_eq_true] at hs; exact hs.2))
theorem pe_callTyS {x : Str} {p : Pos} {T : String} {r : List V → Hp → VK → Prop} (hc : CallR X (.type T) r) (hg : Gl X x) (hm : X.mg x = none) (hv : bootBuiltins x = some (.type T)) (ha : PA X (e :: es) t) (hn : x ≠ "__name__" := by decide) (hdb : (x == ("__debug__" : Str)) = false := by decide)
    (hs : noStar (e :: es) = true := by rfl) : PE X (.Call (.Name x p) (e :: es) [] pos) (tCB r t) :=
  pe_callTy hc hg hm hv ha hn hdb (star_ok (by simp only [noStar, Bool.and_eq_true, Bool.not_eq_true'] at hs; exact hs.1)) (star_any (by simp only [noStar, Bool.and_eq_true] at hs; exact hs.2))
end
end L2

set_option Elab.async false
set_option linter.all false
set_option maxRecDepth 100000
set_option maxHeartbeats 4000000
/-! the judgements as closed boxes: Lean never looks into them while a term of rules is put together -/
namespace L2
open PySem PySem.Spec PyProof.Rows
structure QE (X : Cx) (e : Expr) (t : TE) : Prop where
  h : PE X e t
structure QT (X : Cx) (e : Expr) (t : TT) : Prop where
  h : PT X e t
structure QW (X : Cx) (e : Expr) (t : TT) : Prop where
  h : PW X e t
structure QA (X : Cx) (es : List Expr) (t : TA) : Prop where
  h : PA X es t
structure QS (X : Cx) (st : Stmt) (t : TS) : Prop where
  h : PS X st t
structure QB (X : Cx) (st : List Stmt) (t : TS) : Prop where
  h : PSs X st t
structure QG (X : Cx) (e : Expr) (t : TG) : Prop where
  h : PG X e t
structure QGs (X : Cx) (es : List Expr) (t : TGs) : Prop where
  h : PGs X es t
structure QI (X : Cx) (tg e : Expr) (t : TI) : Prop where
  h : PI X tg e t
structure QO (X : Cx) (e : Option Expr) (t : TO) : Prop where
  h : PO X e t
def compChk (sc scope : Scope) (N N' : List Str) (t : Nat) (cap : List Nat) : Bool :=
  decide (scope.kind = .function) && scope.names.all (fun y => decide (y.2 ≠ .cell)) && scope.names.all (fun y => decide (y.2 = .local → scope.names.lookup y.1 = some .local)) &&
  scope.names.all (fun y => decide (y.2 = .free → (sc.names.lookup y.1 = some .cell ∨ sc.names.lookup y.1 = some .free))) && decide (N'.length = t + cap.length) &&
  (List.range cap.length).all (fun j => match cap[j]?, N'[t + j]? with | some k, some x => decide (N[k]? = some x ∧ scope.names.lookup x = some .free) | _, _ => false)
theorem CompOk.of {X : Cx} {N' : List Str} {scope : Scope} {t : Nat} {cap : List Nat} (h : compChk X.env.scope scope X.N N' t cap = true) : CompOk X N' scope t cap := by
  simp only [compChk, Bool.and_eq_true, List.all_eq_true, decide_eq_true_eq] at h
  obtain ⟨⟨⟨⟨⟨h1, h2⟩, h3⟩, h4⟩, h5⟩, h6⟩ := h
  refine ⟨h1, h2, h3, h4, h5, fun j k e => ?_⟩
  have hj : j < cap.length := (List.getElem?_eq_some_iff.mp e).1
  have h := h6 j (List.mem_range.mpr hj)
  rw [e] at h
  cases q : N'[t + j]? with
  | none => rw [q] at h; cases h
  | some x =>
    rw [q] at h
    have h' := of_decide_eq_true h
    exact ⟨x, rfl, h'.1, h'.2⟩
section
variable {X : Cx} {pos : Pos} {a b c e l o i value : Expr} {es : List Expr} {ta tb te to ti tl : TE} {tc tA tB' : TT} {t u tbd : TS} {tr : TA} {g : TG} {gs : TGs} {wi : TI} {st : Stmt} {sts body b1 b2 : List Stmt} {rest : List Expr}
theorem qb_nil : QB X [] tNext := ⟨pss_nil⟩
theorem qb_cons (h1 : QS X st t) (h2 : QB X sts u) : QB X (st :: sts) (tSeq t u) := ⟨pss_cons h1.h h2.h⟩
theorem qb_one (h1 : QS X st t) : QB X [st] t := ⟨pss_one h1.h⟩
theorem qs_ret (h : QE X e te) : QS X (.Return (some e) pos) (tRet te) := ⟨ps_ret h.h⟩
theorem qs_if (hc : QT X c tc) (ha : QB X b1 t) (hb : QB X b2 u) : QS X (.If c b1 b2 pos) (tIfS tc t u) := ⟨ps_if hc.h ha.h hb.h⟩
theorem qs_while (hp : PassesOwn (model X.prog X.w) X.A X.env X.xe) (hc : QT X c tc) (hb : QB X body tbd) : QS X (.While c body [] pos) (tWhile tc tbd) := ⟨ps_while hp hc.h hb.h⟩
theorem qs_for {tg iter : Expr} (hp : PassesOwn (model X.prog X.w) X.A X.env X.xe) (hc : X.calm = true) (hi : QI X tg iter wi) (hg : QG X tg g) (hb : QB X body tbd) (hs : ∀ x, foldedSetIterable iter X.env x = pure x := by intro _; rfl) :
    QS X (.For tg iter body [] pos) (tFor wi g tbd) := ⟨ps_for hp hc hi.h hg.h hb.h hs⟩
theorem qs_expr (he : QE X e te) (hs : swapsWith e none pos.line X.env = pure false := by rfl) : QS X (.Expr e pos) (tDrop te) := ⟨ps_expr he.h hs⟩
theorem qs_set {i : Nat} {x : Str} {pos' : Pos} (hN : X.N.Nodup) (hi : X.N[i]? = some x) (hx : Loc X.env.scope x) (he : QE X e te) (hs : swapsWith e (some (.Name x pos')) pos.line X.env = pure false := by rfl)
    (hf : X.fn x = true ∨ X.env.scope.names.lookup x = some .local := by first | exact .inl rfl | exact .inr rfl | assumption) : QS X (.Assign [.Name x pos'] e pos) (tAsg te (gName i)) := ⟨ps_set hN hi hx he.h hs hf⟩
theorem qs_asg {tg : Expr} (he : QE X e te) (hg : QG X tg g) (hs : swapsWithSole [tg] e pos.line X.env = pure false := by rfl) (hw : swappedStores [tg] e X.env = pure none := by rfl)
    (h1 : (assignEach [tg] X.env).map (·.2) = [assign tg X.env] := by rfl) : QS X (.Assign [tg] e pos) (tAsg te g) := ⟨ps_asg he.h hg.h hs hw h1⟩
theorem qs_par {i j : Nat} {x y : Str} {px py pt : Pos} {kt k2 pt2} (hc : X.calm = true) (hN : X.N.Nodup) (hi : X.N[i]? = some x) (hj : X.N[j]? = some y) (hij : i ≠ j)
    (hx : X.env.scope.names.lookup x = some .local) (hy : X.env.scope.names.lookup y = some .local) (ha : QA X [a, b] tr)
    (hw : swappedStores [.Tuple [.Name x px, .Name y py] kt pt] (.Tuple [a, b] k2 pt2) X.env = pure (some [x, y]))
    (hs : swapsWithSole [.Tuple [.Name x px, .Name y py] kt pt] (.Tuple [a, b] k2 pt2) pos.line X.env = pure false := by rfl) :
    QS X (.Assign [.Tuple [.Name x px, .Name y py] kt pt] (.Tuple [a, b] k2 pt2) pos) (tPar i j tr) := ⟨ps_par hc hN hi hj hij hx hy ha.h hw hs⟩
theorem qs_par3 {i j k : Nat} {x y z : Str} {px py pz pt : Pos} {kt k2 pt2} (hc : X.calm = true) (hN : X.N.Nodup) (hi : X.N[i]? = some x) (hj : X.N[j]? = some y) (hk : X.N[k]? = some z) (hij : i ≠ j) (hik : i ≠ k) (hjk : j ≠ k)
    (hx : X.env.scope.names.lookup x = some .local) (hy : X.env.scope.names.lookup y = some .local) (hz : X.env.scope.names.lookup z = some .local) (ha : QA X [a, b, c] tr)
    (hw : swappedStores [.Tuple [.Name x px, .Name y py, .Name z pz] kt pt] (.Tuple [a, b, c] k2 pt2) X.env = pure (some [x, y, z]))
    (hs : swapsWithSole [.Tuple [.Name x px, .Name y py, .Name z pz] kt pt] (.Tuple [a, b, c] k2 pt2) pos.line X.env = pure false := by rfl) :
    QS X (.Assign [.Tuple [.Name x px, .Name y py, .Name z pz] kt pt] (.Tuple [a, b, c] k2 pt2) pos) (tPar3 i j k tr) := ⟨ps_par3 hc hN hi hj hk hij hik hjk hx hy hz ha.h hw hs⟩
theorem qg_name {i : Nat} {x : Str} (hN : X.N.Nodup) (hi : X.N[i]? = some x) (hx : Loc X.env.scope x) (hf : X.fn x = true ∨ X.env.scope.names.lookup x = some .local := by first | exact .inl rfl | exact .inr rfl | assumption) : QG X (.Name x pos) (gName i) := ⟨pg_name hN hi hx hf⟩
theorem qgs_nil : QGs X [] gNil := ⟨pgs_nil⟩
theorem qgs_cons (h1 : QG X e g) (h2 : QGs X es gs) (hs : (assignEach (e :: es) X.env).map (·.2) = assign e X.env :: (assignEach es X.env).map (·.2) := by rfl) : QGs X (e :: es) (gCons g gs) := ⟨pgs_cons h1.h h2.h hs⟩
theorem qg_tup {k n : Nat} (hc : X.calm = true) (h : QGs X es gs) (hn : (assignEach es X.env).length = n := by rfl) (hst : (assignEach es X.env).findIdx? (·.1) = none := by rfl) : QG X (.Tuple es k pos) (gTup X.K n gs) := ⟨pg_tup hc h.h hn hst⟩
theorem qg_sub {ts : TSet} (ho : QE X o to) (hi : QE X i ti) (hs : PSet X ts)
    (ha : ∀ v, assign (.Subscript o i pos) X.env v = (do
      let ov ← holding [v] (eval o X.env)
      let iv ← holding [v, ov] (eval i X.env)
      standAt pos
      holding [v, ov, iv] (setItem ov iv v)
      release [v, ov, iv] []) := by intro _; rfl) : QG X (.Subscript o i pos) (gSub to ti ts) := ⟨pg_sub ho.h hi.h hs ha⟩
theorem qi_range1 {tg : Expr} {p : Pos} (hg : Gl X "range") (hm : X.mg "range" = none) (ha : QA X [a] tr) (hs : isStar a = false := by rfl) : QI X tg (.Call (.Name "range" p) [a] [] pos) (iRng1 tr) := ⟨pi_range1 hg hm ha.h (star_ok hs)⟩
theorem qi_range2 {tg : Expr} {p : Pos} (hg : Gl X "range") (hm : X.mg "range" = none) (ha : QA X [a, b] tr) (hs : isStar a = false := by rfl) (hs2 : isStar b = false := by rfl) : QI X tg (.Call (.Name "range" p) [a, b] [] pos) (iRng2 tr) :=
  ⟨pi_range2 hg hm ha.h (by rw [star_ok hs, star_ok hs2]; rfl) (by rw [star_ok hs2]; rfl)⟩
theorem qi_enum {p tpos : Pos} {elts : List Expr} {x1} (hg : Gl X "enumerate") (hm : X.mg "enumerate" = none) (ha : QA X [a] tr) (hs : isStar a = false := by rfl) : QI X (.Tuple elts x1 tpos) (.Call (.Name "enumerate" p) [a] [] pos) (iEnum X.K tr) := ⟨pi_enum hg hm ha.h (star_ok hs)⟩
theorem qi_list {tg : Expr} (hl : QE X l tl) : QI X tg l (iList X.K tl) := ⟨pi_list hl.h⟩
theorem qi_tup {tg : Expr} (hl : QE X l tl) : QI X tg l (iTup X.K tl) := ⟨pi_tup hl.h⟩
theorem qa_nil : QA X [] tNil := ⟨pa_nil⟩
theorem qc (ha : QE X e te) (hr : QA X es tr) (hs : isStar e = false := by rfl) : QA X (e :: es) (tCons te tr) := ⟨pc ha.h hr.h hs⟩
theorem qe_int {i j pos} : QE X (.Constant (.int i) j pos) (tC (.int i)) := ⟨pe_int⟩
theorem qe_bl {b j pos} : QE X (.Constant (.bool b) j pos) (tC (.bl b)) := ⟨pe_bl⟩
theorem qe_non {j pos} : QE X (.Constant .none j pos) (tC .non) := ⟨pe_non⟩
theorem qe_str {x j pos} : QE X (.Constant (.str x) j pos) (tC (.str x)) := ⟨pe_str⟩
theorem qe_bltn {x : Str} {v : V} {u : Value} (hg : Gl X x) (hm : X.mg x = none) (hv : bootBuiltins x = some u) (r : RelV v u) (hn : x ≠ "__name__" := by decide) (hd : (x == ("__debug__" : Str)) = false := by decide) : QE X (.Name x pos) (tC v) := ⟨pe_bltn hg hm hv r hn hd⟩
theorem qv (i : Nat) {x : Str} (hN : X.N[i]? = some x := by rfl) (hv : Vis X.env.scope x := by first | exact Or.inl rfl | exact Or.inr (Or.inl rfl) | exact Or.inr (Or.inr rfl)) (hd : (x == ("__debug__" : Str)) = false := by decide)
    (hcd : (x == ("__classdict__" : Str)) = false := by decide) : QE X (.Name x pos) (tVar i) := ⟨pe_var hN hv hd hcd⟩
theorem qe_op {op : Operator} {r : R2} (ho : OpR X (binaryOp op) r) (ha : QE X a ta) (hb : QE X b tb) : QE X (.BinOp a op b pos) (tOp r ta tb) := ⟨pe_op ho ha.h hb.h⟩
theorem qe_un {op : UnaryOp} {r : V → Hp → VK → Prop} (ho : UnR X (unaryOp op) r) (ha : QE X a ta) : QE X (.UnaryOp op a pos) (tUn r ta) := ⟨pe_un ho ha.h⟩
theorem qe_not (ha : QE X a ta) : QE X (.UnaryOp .Not a pos) (tNotV ta) := ⟨pe_not ha.h⟩
theorem qe_cmpR {op : CmpOp} {r : R2} (ho : OpR X (compareOp op) r) (ha : QE X a ta) (hb : QE X b tb) (hm : behindInMarks op b = false) : QE X (.Compare a [op] [b] pos) (tOp r ta tb) := ⟨pe_cmpR ho ha.h hb.h hm⟩
theorem qe_and (ha : QE X a ta) (hb : QE X (.BoolOp .And (b :: rest) pos) tb) : QE X (.BoolOp .And (a :: b :: rest) pos) (tAndV ta tb) := ⟨pe_and ha.h hb.h⟩
theorem qe_or (ha : QE X a ta) (hb : QE X (.BoolOp .Or (b :: rest) pos) tb) : QE X (.BoolOp .Or (a :: b :: rest) pos) (tOrV ta tb) := ⟨pe_or ha.h hb.h⟩
theorem qe_one {op} (h : QE X a ta) : QE X (.BoolOp op [a] pos) ta := ⟨pe_one h.h⟩
theorem qe_ifExp (hc : QT X c tA) (ha : QE X a ta) (hb : QE X b tb) : QE X (.IfExp c a b pos) (tIf tA ta tb) := ⟨pe_ifExp hc.h ha.h hb.h⟩
theorem qe_tup {x1} (h : QA X es tr) : QE X (.Tuple es x1 pos) (tTup tr) := ⟨pe_tup h.h⟩
theorem qe_lst (h : QA X es tr) : QE X (.List es pos) (tLst tr) := ⟨pe_lst h.h⟩
theorem qe_ix {r : R2} (hr : IxR X r) (ha : QE X a ta) (hb : QE X b tb) (hs : PlainIx b) : QE X (.Subscript a b pos) (tOp r ta tb) := ⟨pe_ix hr ha.h hb.h hs⟩
theorem qo_none : QO X none tNoPart := ⟨po_none⟩
theorem qo_some (h : QE X e te) : QO X (some e) (tPart te) := ⟨po_some h.h⟩
theorem qe_slice {r : V → Option Int → Option Int → Hp → VK → Prop} {lo hi : Option Expr} {tlo thi : TO} {p2 : Pos} (hr : SlR X r) (he : QE X e te) (hl : QO X lo tlo) (hu : QO X hi thi) : QE X (.Subscript e (.Slice lo hi none p2) pos) (tSl r te tlo thi) := ⟨pe_slice hr he.h hl.h hu.h⟩
theorem qe_fnS {k j : Nat} {x : Str} {ps : List Str} {sp : Sp} {p : Pos} (F : Fn X.prog X.w X.K X.mg X.base k x ps sp) (hr : Room j X.A) (hk : k ≤ j) (hg : Gl X x) (ha : QA X (e :: es) tr) (hdb : (x == ("__debug__" : Str)) = false := by decide)
    (hs : noStar (e :: es) = true := by rfl) : QE X (.Call (.Name x p) (e :: es) [] pos) (tCall sp [] E0 tr) := ⟨pe_fnS F hr hk hg ha.h hdb hs⟩
theorem qe_callBS {x : Str} {p : Pos} {id : String} {r : List V → Hp → VK → Prop} (hc : CallR X (.builtin id) r) (hg : Gl X x) (hm : X.mg x = none) (hv : bootBuiltins x = some (.builtin id)) (ha : QA X (e :: es) tr) (hn : x ≠ "__name__" := by decide) (hdb : (x == ("__debug__" : Str)) = false := by decide)
    (hs : noStar (e :: es) = true := by rfl) : QE X (.Call (.Name x p) (e :: es) [] pos) (tCB r tr) := ⟨pe_callBS hc hg hm hv ha.h hn hdb hs⟩
theorem qe_callTyS {x : Str} {p : Pos} {T : String} {r : List V → Hp → VK → Prop} (hc : CallR X (.type T) r) (hg : Gl X x) (hm : X.mg x = none) (hv : bootBuiltins x = some (.type T)) (ha : QA X (e :: es) tr) (hn : x ≠ "__name__" := by decide) (hdb : (x == ("__debug__" : Str)) = false := by decide)
    (hs : noStar (e :: es) = true := by rfl) : QE X (.Call (.Name x p) (e :: es) [] pos) (tCB r tr) := ⟨pe_callTyS hc hg hm hv ha.h hn hdb hs⟩
theorem qe_comp {target elt iter : Expr} {scope : Scope} {N' : List Str} {cap : List Nat} {t : Nat} (hc : X.calm = true) (S : CompOk X N' scope t cap) (hi : QI X target iter wi)
    (hg : ∀ C s3 H3 fp, QG (cxComp X N' scope C s3 H3 fp) target g) (he : ∀ C s3 H3 fp, QE (cxComp X N' scope C s3 H3 fp) elt te) (hs : ∀ x, foldedSetIterable iter X.env x = pure x := by intro _; rfl) :
    QE X (.ListComp elt [⟨target, iter, [], 0⟩] scope pos) (tComp t cap wi g te) := ⟨pe_comp hc S hi.h (fun C s3 H3 fp => (hg C s3 H3 fp).h) (fun C s3 H3 fp => (he C s3 H3 fp).h) hs⟩
theorem qt_cmpR {op : CmpOp} {r : R2} (ho : OpR X (compareOp op) r) (ha : QE X a ta) (hb : QE X b tb) (hm : behindInMarks op b = false) : QT X (.Compare a [op] [b] pos) (tTest (tOp r ta tb)) := ⟨pt_cmpR ho ha.h hb.h hm⟩
theorem qt_not (ha : QT X a tA) : QT X (.UnaryOp .Not a pos) (tNot tA) := ⟨pt_not ha.h⟩
theorem qt_val (h : QE X e te) (he : ∀ whole, isTrue e X.env whole = (do let v ← whole; standAt e.pos; holding [v] (truthy v)) := by intro _; rfl) : QT X e (tB te) := ⟨pt_val h.h he⟩
theorem qw_and1 (ha : QT X a tA) : QW X (.BoolOp .And [a] pos) tA := ⟨pw_and1 ha.h⟩
theorem qw_or1 (ha : QT X a tA) : QW X (.BoolOp .Or [a] pos) tA := ⟨pw_or1 ha.h⟩
theorem qw_and (ha : QT X a tA) (hb : QW X (.BoolOp .And (b :: rest) pos) tB') : QW X (.BoolOp .And (a :: b :: rest) pos) (tAnd tA tB') := ⟨pw_and ha.h hb.h⟩
theorem qw_or (ha : QT X a tA) (hb : QW X (.BoolOp .Or (b :: rest) pos) tB') : QW X (.BoolOp .Or (a :: b :: rest) pos) (tOr tA tB') := ⟨pw_or ha.h hb.h⟩
theorem qt_w (h : QW X e tA) : QT X e tA := ⟨h.h.pt⟩
end
section
variable {P : Program} {w : World} {K : PySem.W.Frag} {mg : Str → Option Value} {base : Heap}
/-- the rule for a def, by closed boxes -/
theorem Fun.okQ {x qual : Str} {st : Stmt} {f : Addr} {fd : FuncData} {N ps : List Str} {k : Nat} {sp : Sp} (F : Fun K x qual st f fd) (S : FnScope N ps (defScope st)) (len : ∀ vs H Q E, sp vs H Q E → vs.length = ps.length)
    (hbody : ∀ (cdv : Value) (A : Around) (outer : List Env) (s : Shared) (H : Hp) (vs : List V) (Q : VK) (E : XK), Room k (A.deeper (envOfC qual (defScope st) s.heap.objs.size f cdv)) → sp vs H Q E →
      ∃ t, QB (cxOf CX0 P w K mg base N qual (defScope st) f cdv A outer s H E).nox (defBody st) t ∧ t { nx := fun _ H' => Q .non H', rt := Q } (start N vs) H) : FnOk P w K mg base CX0 (k + 1) f fd ps sp :=
  F.ok S len fun cdv A outer s H vs Q E hr h => let ⟨t, h1, h2⟩ := hbody cdv A outer s H vs Q E hr h; ⟨t, h1.h, h2⟩
end
end L2

set_option Elab.async false
set_option linter.all false
set_option maxRecDepth 100000
set_option maxHeartbeats 4000000
/-! zip of two lists, of two tuples (alike long), over the hand layer -/
namespace L2
open PySem PySem.Spec PyProof.Rows
section
variable {prog : Program} {w : World} {A : Around} {E : Value → Shared → Prop} {s : Shared}
theorem tupNext_item {it t : Addr} {k : Nat} {items : Array Value} {x : Value} {Q : Value → Shared → Prop} (gi : s.heap.IsTupleIter it t k) (gt : s.heap.IsTuple t items) (gx : items[k]? = some x)
    (gq : ∀ h', h'.IsTupleIter it t (k + 1) → Heap.SameBut it s.heap h' → Q x { s with heap := h' }) : wpAny (model prog w) A (Builtin.SmallTypes.nextOf (.ref it)) Q E s := by
  obtain ⟨ob, eo, ec, ed⟩ := id gi
  obtain ⟨ot, et, _, nt, edt⟩ := gt
  unfold Builtin.SmallTypes.nextOf
  refine wpAny_bind (wpAny_callSpecial?_slot (name := Str.ofString "__next__") gi.typeIs F.slot_tuple_iterator_next (wpAny_call_entry F.slot_tuple_iterator_next gi.typeIs F.entry_tuple_iterator_next ?_ (F.args_tuple_iterator_next_1 _)))
  show wpAny _ _ (field (.ref it) 0 >>= _) _ _ _
  refine wpAny_bind (wpAny_field eo ed (x := .ref t) rfl ?_)
  show wpAny _ _ (if (Value.ref t == Value.none) = true then _ else _) _ _ _
  rw [if_neg (fun hq : (Value.ref t == Value.none) = true => Bool.false_ne_true hq)]
  show wpAny _ _ (field (.ref it) 1 >>= _) _ _ _
  refine wpAny_bind (wpAny_field eo ed (x := .int k 0) rfl ?_)
  show wpAny _ _ (seqItems? (.ref t) >>= _) _ _ _
  refine wpAny_bind (wpAny_seqItems et edt ?_)
  simp only [Int.toNat_natCast, gx]
  refine wpAny_bind (wpAny_setField eo ed (by simp) (wpAny_pure ⟨x, rfl, wpAny_pure (gq _ ?_ (Heap.SameBut.update ..))⟩))
  exact ⟨_, Heap.get?_update_self _ eo (Obj.isFreed_of_fields (Obj.data_mapFields ed _)), (Obj.cls_mapFields ..).trans ec, by rw [Obj.data_mapFields ed]; simp [rawInt]⟩
theorem tupNext_end {it t : Addr} {k : Nat} {items : Array Value} {Q : Value → Shared → Prop} (gh : A.handled = none) (gi : s.heap.IsTupleIter it t k) (gt : s.heap.IsTuple t items) (gx : items[k]? = none)
    (ge : ∀ h' e, Heap.ExtBut it s.heap h' → (∃ o, h'.get? e = some o ∧ o.cls = .type "StopIteration") → E (.ref e) { s with heap := h' }) : wpAny (model prog w) A (Builtin.SmallTypes.nextOf (.ref it)) Q E s := by
  obtain ⟨ob, eo, ec, ed⟩ := id gi
  obtain ⟨ot, et, _, nt, edt⟩ := gt
  unfold Builtin.SmallTypes.nextOf
  refine wpAny_bind (wpAny_callSpecial?_slot (name := Str.ofString "__next__") gi.typeIs F.slot_tuple_iterator_next (wpAny_call_entry F.slot_tuple_iterator_next gi.typeIs F.entry_tuple_iterator_next ?_ (F.args_tuple_iterator_next_1 _)))
  show wpAny _ _ (field (.ref it) 0 >>= _) _ _ _
  refine wpAny_bind (wpAny_field eo ed (x := .ref t) rfl ?_)
  show wpAny _ _ (if (Value.ref t == Value.none) = true then _ else _) _ _ _
  rw [if_neg (fun hq : (Value.ref t == Value.none) = true => Bool.false_ne_true hq)]
  show wpAny _ _ (field (.ref it) 1 >>= _) _ _ _
  refine wpAny_bind (wpAny_field eo ed (x := .int k 0) rfl ?_)
  show wpAny _ _ (seqItems? (.ref t) >>= _) _ _ _
  refine wpAny_bind (wpAny_seqItems et edt ?_)
  simp only [Int.toNat_natCast, gx]
  refine wpAny_bind (wpAny_rule (wpAny_bind (wpAny_setField eo ed (by simp) ?_)))
  show wpAny _ _ (newExc (.type "StopIteration") [] >>= _) _ _ _
  refine wpAny_bind ?_
  simp only [newExc, newTuple]
  refine wpAny_bind (wpAny_newObj_type ?_ (by size_fits))
  refine wpAny_bind (m := firstArgMember _ _) (wpAny_of_eq (a := Value.none) (by first | rfl | (simp only [firstArgMember]; rfl)) (wpAny_newObj_type ?_ (by size_fits)))
  simp only [raiseNew]
  refine wpAny_bind (wpAny_handled ?_)
  first | rw [show A.in1.handled = none from gh] | rw [gh]
  refine wpAny_bind (wpAny_pure (wpAny_throw ?_))
  exact ge _ _ (((Heap.SameBut.update ..).extBut.push _).push _) ⟨_, Heap.get?_push_size _ rfl, rfl⟩
theorem draws_tup (gh : A.handled = none) (it t : Addr) (hne : t ≠ it) (items : Array Value) :
    Draws prog w A it [it, t] items.size (fun i v => items[i]? = some v) (fun i h => h.IsTupleIter it t i ∧ h.IsTuple t items) where
  live := fun _ _ st => let ⟨o, ho, _⟩ := st.1; ⟨o, ho⟩
  frame := fun _ _ _ st hk => ⟨st.1.at fun o e => hk it (by simp) o e, st.2.at fun o e => hk t (by simp) o e⟩
  item := fun i s Q E hi st hQ => tupNext_item st.1 st.2 (x := items[i]) (by simp [hi]) fun h' hit' hs' => hQ _ h' s.toks (by simp [hi]) ⟨hit', st.2.extBut hs'.extBut hne⟩ hs'
  done := fun s Q E st hE => tupNext_end gh st.1 st.2 (by simp) hE
/-- what a zip's records keep apart -/
structure ZApart (z TI TO i1 i2 : Addr) (fp1 fp2 : List Addr) : Prop where
  m1 : i1 ∈ fp1
  m2 : i2 ∈ fp2
  z1 : z ∉ fp1
  z2 : z ∉ fp2
  o1 : TO ∉ fp1
  o2 : TO ∉ fp2
  c1 : i1 ∉ fp2
  c2 : i2 ∉ fp1
  tz : TI ≠ z
  oz : TO ≠ z
  to : TI ≠ TO
  t1 : TI ≠ i1
  t2 : TI ≠ i2
theorem ZApart.i1z {z TI TO i1 i2 : Addr} {fp1 fp2 : List Addr} (a : ZApart z TI TO i1 i2 fp1 fp2) : i1 ≠ z := fun e => a.z1 (e ▸ a.m1)
theorem ZApart.i2z {z TI TO i1 i2 : Addr} {fp1 fp2 : List Addr} (a : ZApart z TI TO i1 i2 fp1 fp2) : i2 ≠ z := fun e => a.z2 (e ▸ a.m2)
theorem ZApart.i1o {z TI TO i1 i2 : Addr} {fp1 fp2 : List Addr} (a : ZApart z TI TO i1 i2 fp1 fp2) : TO ≠ i1 := fun e => a.o1 (e ▸ a.m1)
theorem ZApart.i2o {z TI TO i1 i2 : Addr} {fp1 fp2 : List Addr} (a : ZApart z TI TO i1 i2 fp1 fp2) : TO ≠ i2 := fun e => a.o2 (e ▸ a.m2)
theorem ZApart.i12 {z TI TO i1 i2 : Addr} {fp1 fp2 : List Addr} (a : ZApart z TI TO i1 i2 fp1 fp2) : i1 ≠ i2 := fun e => a.c1 (e ▸ a.m2)
theorem setPair {T : Addr} {a b x : Value} {k : Nat} {Q : Unit → Shared → Prop} (gT : IsPair s.heap T a b)
    (g : ∀ h' c d, IsPair h' T c d → (#[c, d] : Array Value) = (#[a, b] : Array Value).setIfInBounds k x → Heap.SameBut T s.heap h' → Q () { s with heap := h' }) (hk : k = 0 ∨ k = 1) : wpAny (model prog w) A (updateSeq T (·.setIfInBounds k x)) Q E s := by
  refine wpAny_updateSeq_pair gT fun h' e hs => ?_
  rcases hk with rfl | rfl
  · exact g h' x b e rfl hs
  · exact g h' a x e rfl hs
theorem zip_draw {z TI TO i1 i2 : Addr} {fp1 fp2 : List Addr} {n k : Nat} {P1 P2 : Nat → Value → Prop} {S1 S2 : Nat → Heap → Prop} {a b : Value} {Q : Value → Shared → Prop} (D1 : Draws prog w A i1 fp1 n P1 S1) (D2 : Draws prog w A i2 fp2 n P2 S2) (ap : ZApart z TI TO i1 i2 fp1 fp2)
    (gz : IsZip s.heap z TI TO .none) (gI : IsPair s.heap TI (.ref i1) (.ref i2)) (gO : IsPair s.heap TO a b) (g1 : S1 k s.heap) (g2 : S2 k s.heap) (gk : k < n)
    (gq : ∀ x y h' tk, P1 k x → P2 k y → IsZip h' z TI TO (rawInt s.heap.objs.size) → IsPair h' TO x y → S1 (k + 1) h' → S2 (k + 1) h' → IsPair h' s.heap.objs.size x y → h'.objs.size = s.heap.objs.size + 1 →
      (∀ c o, c ≠ z → c ≠ TO → c ≠ i1 → c ≠ i2 → s.heap.get? c = some o → h'.get? c = some o) → Q (.ref s.heap.objs.size) { s with heap := h', toks := tk }) :
    wpAny (model prog w) A (Builtin.«zip.__next__» ⟨[.ref z], []⟩) (fun fin s' => ∃ v, fin = .done (.ret v) ∧ Q v s') E s := by
  show wpAny _ _ (field (.ref z) 2 >>= _) _ _ _
  refine wpAny_bind (wpAny_field gz rfl (x := .bool false) rfl ?_)
  show wpAny _ _ (field (.ref z) 3 >>= _) _ _ _
  refine wpAny_bind (wpAny_field gz rfl (x := .ref TI) rfl (wpAny_bind (wpAny_seqItems gI rfl ?_)))
  show wpAny _ _ (Builtin.SmallTypes.ownedTupleIsFree (.ref z) >>= _) _ _ _
  refine wpAny_bind ?_
  unfold Builtin.SmallTypes.ownedTupleIsFree
  refine wpAny_bind (wpAny_field gz rfl (x := .none) rfl (wpAny_pure ?_))
  simp only [if_true]
  refine wpAny_bind (wpAny_rule (wpAny_bind (wpAny_field gz rfl (x := .ref TO) rfl (wpAny_bind (wpAny_setField_rec gz (by simp) fun ha za sa => ?_)))))
  have za' : IsZip ha z TI TO .ellipsis := za
  refine wpAny_bind ?_
  simp only [List.zipIdx_cons, List.zipIdx_nil, List.forIn_cons, List.forIn_nil]
  refine wpAny_bind (wpAny_bind (wpAny_onRaise ?_))
  show wpAny _ _ (Builtin.SmallTypes.nextOf (.ref i1) >>= _) _ _ _
  have g1a : S1 k ha := D1.frame _ _ _ g1 fun c hc o e => sa.extBut c o (fun q => ap.z1 (q ▸ hc)) e
  refine wpAny_bind (D1.item k _ _ _ gk g1a fun x hb tb px g1b sb => wpAny_pure ?_)
  have sb' : Heap.SameBut i1 ha hb := sb
  have gOb : IsPair hb TO a b := sb'.extBut _ _ ap.i1o (sa.extBut _ _ ap.oz gO)
  refine wpAny_bind (wpAny_seqItems gOb rfl (wpAny_bind (setPair gOb (fun hc c d gOc ec sc => ?_) (.inl rfl))))
  have ec' : c = x ∧ d = b := by
    have := congrArg Array.toList ec
    simp at this
    exact this
  obtain ⟨rfl, rfl⟩ := ec'
  have sc' : Heap.SameBut TO hb hc := sc
  refine wpAny_bind (wpAny_letGo (wpAny_pure ?_))
  refine wpAny_bind (wpAny_bind (wpAny_onRaise ?_))
  show wpAny _ _ (Builtin.SmallTypes.nextOf (.ref i2) >>= _) _ _ _
  have g2c : S2 k hc := D2.frame _ _ _ g2 fun e he o q => sc'.extBut e o (fun r => ap.o2 (r ▸ he)) (sb'.extBut e o (fun r => ap.c1 (r ▸ he)) (sa.extBut e o (fun r => ap.z2 (r ▸ he)) q))
  refine wpAny_bind (D2.item k _ _ _ gk g2c fun y hd td py g2d sd => wpAny_pure ?_)
  have sd' : Heap.SameBut i2 hc hd := sd
  have gOd : IsPair hd TO c d := sd'.extBut _ _ ap.i2o gOc
  refine wpAny_bind (wpAny_seqItems gOd rfl (wpAny_bind (setPair gOd (fun he c' d' gOe ee se => ?_) (.inr rfl))))
  have ee' : c' = c ∧ d' = y := by
    have := congrArg Array.toList ee
    simp at this
    exact this
  obtain ⟨rfl, rfl⟩ := ee'
  have se' : Heap.SameBut TO hd he := se
  refine wpAny_bind (wpAny_letGo (wpAny_pure (wpAny_pure ?_)))
  refine wpAny_bind (wpAny_seqItems gOe rfl (wpAny_bind (wpAny_newTuple ?_)))
  have sz : he.objs.size = s.heap.objs.size := by rw [se'.1, sd'.1, sc'.1, sb'.1, sa.1]
  have ze : IsZip he z TI TO .ellipsis := se'.extBut _ _ (Ne.symm ap.oz) (sd'.extBut _ _ (Ne.symm ap.i2z) (sc'.extBut _ _ (Ne.symm ap.oz) (sb'.extBut _ _ (Ne.symm ap.i1z) za')))
  have ke : ∀ c o, c ≠ z → c ≠ TO → c ≠ i1 → c ≠ i2 → s.heap.get? c = some o → he.get? c = some o := fun c o q1 q2 q3 q4 e => se'.extBut _ _ q2 (sd'.extBut _ _ q4 (sc'.extBut _ _ q2 (sb'.extBut _ _ q3 (sa.extBut _ _ q1 e))))
  have g1e : S1 (k + 1) he := D1.frame _ _ _ g1b fun e h o q => se'.extBut e o (fun r => ap.o1 (r ▸ h)) (sd'.extBut e o (fun r => ap.c2 (r ▸ h)) (sc'.extBut e o (fun r => ap.o1 (r ▸ h)) q))
  have g2e : S2 (k + 1) he := D2.frame _ _ _ g2d fun e h o q => se'.extBut e o (fun r => ap.o2 (r ▸ h)) q
  have zlt : z < he.objs.size := Heap.lt_size ze
  show wpAny _ _ (Builtin.SmallTypes.ownedTupleHandOut (.ref z) (.ref he.objs.size) >>= _) _ _ _
  refine wpAny_bind ?_
  unfold Builtin.SmallTypes.ownedTupleHandOut
  have zf : IsZip (he.push { cls := .type "tuple", data := .seq #[c', d'] }) z TI TO .ellipsis := Heap.get?_push_of_some _ ze
  refine wpAny_bind (wpAny_setField_rec zf (by simp) fun hg zg sg => ?_)
  have zg' : IsZip hg z TI TO (rawInt he.objs.size) := zg
  refine wpAny_setField_rec zg' (by simp) fun hh zh sh => ?_
  have zh' : IsZip hh z TI TO (rawInt he.objs.size) := zh
  have up : ∀ c o, c ≠ z → he.get? c = some o → hh.get? c = some o := fun c o q e => sh.extBut _ _ q (sg.extBut _ _ q (Heap.get?_push_of_some _ e))
  have gTh : IsPair hh he.objs.size c' d' := sh.extBut _ _ (Nat.ne_of_gt zlt) (sg.extBut _ _ (Nat.ne_of_gt zlt) (Heap.get?_push_size _ rfl))
  have szh : hh.objs.size = he.objs.size + 1 := by rw [sh.1, sg.1, Heap.size_push]
  rw [sz] at zh' gTh szh
  refine wpAny_pure ⟨_, rfl, ?_⟩
  show Q (.ref he.objs.size) _
  rw [sz]
  exact gq c' d' hh td px py zh' (up _ _ ap.oz gOe) (D1.frame _ _ _ g1e fun e h o q => up e o (fun r => ap.z1 (r ▸ h)) q) (D2.frame _ _ _ g2e fun e h o q => up e o (fun r => ap.z2 (r ▸ h)) q) gTh szh
    fun c o q1 q2 q3 q4 e => up c o q1 (ke c o q1 q2 q3 q4 e)
theorem zip_stop {z TI TO i1 i2 : Addr} {fp1 fp2 : List Addr} {n : Nat} {P1 P2 : Nat → Value → Prop} {S1 S2 : Nat → Heap → Prop} {a b : Value} {Q : Fin → Shared → Prop} (D1 : Draws prog w A i1 fp1 n P1 S1) (D2 : Draws prog w A i2 fp2 n P2 S2) (ap : ZApart z TI TO i1 i2 fp1 fp2)
    (gz : IsZip s.heap z TI TO .none) (gI : IsPair s.heap TI (.ref i1) (.ref i2)) (gO : IsPair s.heap TO a b) (g1 : S1 n s.heap)
    (ge : ∀ h' e, (∀ c o, c ≠ z → c ≠ TO → c ≠ i1 → c ≠ i2 → s.heap.get? c = some o → h'.get? c = some o) → (∃ o, h'.get? e = some o ∧ o.cls = .type "StopIteration") → E (.ref e) { s with heap := h' }) :
    wpAny (model prog w) A (Builtin.«zip.__next__» ⟨[.ref z], []⟩) Q E s := by
  show wpAny _ _ (field (.ref z) 2 >>= _) _ _ _
  refine wpAny_bind (wpAny_field gz rfl (x := .bool false) rfl ?_)
  show wpAny _ _ (field (.ref z) 3 >>= _) _ _ _
  refine wpAny_bind (wpAny_field gz rfl (x := .ref TI) rfl (wpAny_bind (wpAny_seqItems gI rfl ?_)))
  show wpAny _ _ (Builtin.SmallTypes.ownedTupleIsFree (.ref z) >>= _) _ _ _
  refine wpAny_bind ?_
  unfold Builtin.SmallTypes.ownedTupleIsFree
  refine wpAny_bind (wpAny_field gz rfl (x := .none) rfl (wpAny_pure ?_))
  simp only [if_true]
  refine wpAny_bind (wpAny_rule (wpAny_bind (wpAny_field gz rfl (x := .ref TO) rfl (wpAny_bind (wpAny_setField_rec gz (by simp) fun ha za sa => ?_)))))
  have za' : IsZip ha z TI TO .ellipsis := za
  refine wpAny_bind ?_
  simp only [List.zipIdx_cons, List.zipIdx_nil, List.forIn_cons, List.forIn_nil]
  refine wpAny_bind (wpAny_bind (wpAny_onRaise ?_))
  show wpAny _ _ (Builtin.SmallTypes.nextOf (.ref i1) >>= _) _ _ _
  have g1a : S1 n ha := D1.frame _ _ _ g1 fun c hc o e => sa.extBut c o (fun q => ap.z1 (q ▸ hc)) e
  refine wpAny_bind (D1.done _ _ _ g1a fun hb e sb he => ?_)
  obtain ⟨oe, q1, q2⟩ := he
  have sb' : Heap.ExtBut i1 ha hb := sb
  have zb : IsZip hb z TI TO .ellipsis := sb' _ _ (Ne.symm ap.i1z) za'
  have hez : e ≠ z := fun x => by subst x; rw [zb] at q1; cases q1; simp at q2
  exact wpAny_setField_rec zb (by simp) fun hc _ sc => ge hc e (fun c o c1 _ c3 _ x => sc.extBut _ _ c1 (sb' _ _ c3 (sa.extBut _ _ c1 x))) ⟨oe, sc.extBut _ _ hez q1, q2⟩
end
end L2
namespace L2
open PySem PySem.Spec PyProof.Rows
/-- a list (κ = false) or a tuple (κ = true) -/
def Ob (κ : Bool) (xs : List V) : HO := match κ with | true => .tup xs | false => .lst xs
def IterK (κ : Bool) (h : Heap) (it a : Addr) (i : Nat) : Prop := match κ with | true => h.IsTupleIter it a i | false => h.IsListIter it a i
def SeqK (κ : Bool) (h : Heap) (a : Addr) (items : Array Value) : Prop := match κ with | true => h.IsTuple a items | false => h.IsList a items
theorem IterK.at {κ : Bool} {h h' : Heap} {it a : Addr} {i : Nat} (x : IterK κ h it a i) (e : ∀ o, h.get? it = some o → h'.get? it = some o) : IterK κ h' it a i := by
  cases κ
  · exact Heap.IsListIter.at x e
  · exact Heap.IsTupleIter.at x e
theorem IterK.obj {κ : Bool} {h : Heap} {it a : Addr} {i : Nat} (x : IterK κ h it a i) : ∃ o, h.get? it = some o ∧ ∀ v, o.data ≠ .cell v := by
  cases κ
  · obtain ⟨o, e, c, d⟩ := x; exact ⟨o, e, fun v z => by rw [d] at z; cases z⟩
  · obtain ⟨o, e, c, d⟩ := x; exact ⟨o, e, fun v z => by rw [d] at z; cases z⟩
theorem drawsK {prog : Program} {w : World} {A : Around} (κ : Bool) (hh : A.handled = none) (it a : Addr) (hne : a ≠ it) (items : Array Value) :
    Draws prog w A it [it, a] items.size (fun i v => items[i]? = some v) (fun i h => IterK κ h it a i ∧ SeqK κ h a items) := by
  cases κ
  · exact Draws.list hh it a hne items
  · exact draws_tup hh it a hne items
theorem Inv.seqK {X : Cx} {pins : List (Addr × Obj)} {σ : St} {H : Hp} {s : Shared} {κ : Bool} {a : Addr} {xs : List V} (I : Inv X pins σ H s) (h : H a = some (Ob κ xs)) : ∃ its : List Value, Vals xs its ∧ SeqK κ s.heap a its.toArray := by
  cases κ
  · obtain ⟨its, r, p, _⟩ := I.list (SqL.of h)
    exact ⟨its, r, p.isList⟩
  · obtain ⟨its, r, p, _⟩ := I.tuple (SqT.of h)
    exact ⟨its, r, p⟩
theorem Ob.inj {κ : Bool} {xs ys : List V} (h : Ob κ xs = Ob κ ys) : xs = ys := by
  cases κ
  · exact HO.lst.inj h
  · exact HO.tup.inj h
/-- zip of what stands at a and at b, alike long -/
def Itz (κ : Bool) (a b : Addr) : It :=
  ⟨fun i H => ∃ xs ys x y, H a = some (Ob κ xs) ∧ H b = some (Ob κ ys) ∧ xs.length = ys.length ∧ xs[i]? = some x ∧ ys[i]? = some y,
   fun i H v H' => ∃ p x y, v = .ref p ∧ H p = none ∧ H' = upd H p (.tup [x, y]) ∧ (∀ xs, H a = some (Ob κ xs) → xs[i]? = some x) ∧ ∀ ys, H b = some (Ob κ ys) → ys[i]? = some y,
   fun i H => ∃ xs ys, H a = some (Ob κ xs) ∧ H b = some (Ob κ ys) ∧ xs.length = ys.length ∧ xs.length = i⟩
theorem turn_zip {P : Program} {w : World} {K : PySem.W.Frag} {elts : List Expr} {x1} {tpos : Pos} (κ : Bool) (a b z TI TO i1 i2 : Addr) (nd : [z, TI, TO, i1, i2].Nodup) :
    Turn P w K (.Tuple elts x1 tpos) (Itz κ a b) [z, TI, TO, i1, i2] z (fun i h => IsZip h z TI TO .none ∧ IsPair h TI (.ref i1) (.ref i2) ∧ (∃ u v, IsPair h TO u v) ∧ IterK κ h i1 a i ∧ IterK κ h i2 b i) := by
  simp only [List.nodup_cons, List.mem_cons, List.not_mem_nil, or_false, not_or, List.nodup_nil, and_true, not_false_eq_true] at nd
  obtain ⟨⟨n1, n2, n3, n4⟩, ⟨n5, n6, n7⟩, ⟨n8, n9⟩, n10⟩ := nd
  have apart : ∀ {X : Cx} {pins : List (Addr × Obj)} {H : Hp} {xs ys : List V}, (∀ c ∈ [z, TI, TO, i1, i2], FpOk X pins H c) → H a = some (Ob κ xs) → H b = some (Ob κ ys) → ZApart z TI TO i1 i2 [i1, a] [i2, b] := by
    intro X pins H xs ys hf ha hb
    have na : ∀ c ∈ [z, TI, TO, i1, i2], a ≠ c := fun c hc e => by rw [e, (hf c hc).1] at ha; cases ha
    have nb : ∀ c ∈ [z, TI, TO, i1, i2], b ≠ c := fun c hc e => by rw [e, (hf c hc).1] at hb; cases hb
    have a1 := na z (by simp); have a2 := na TO (by simp); have a3 := na i2 (by simp)
    have b1 := nb z (by simp); have b2 := nb TO (by simp); have b3 := nb i1 (by simp)
    refine ⟨by simp, by simp, ?_, ?_, ?_, ?_, ?_, ?_, fun e => n1 e.symm, fun e => n2 e.symm, n5, n6, n7⟩
    · simp only [List.mem_cons, List.not_mem_nil, or_false, not_or]; exact ⟨n3, fun e => a1 e.symm⟩
    · simp only [List.mem_cons, List.not_mem_nil, or_false, not_or]; exact ⟨n4, fun e => b1 e.symm⟩
    · simp only [List.mem_cons, List.not_mem_nil, or_false, not_or]; exact ⟨n8, fun e => a2 e.symm⟩
    · simp only [List.mem_cons, List.not_mem_nil, or_false, not_or]; exact ⟨n9, fun e => b2 e.symm⟩
    · simp only [List.mem_cons, List.not_mem_nil, or_false, not_or]; exact ⟨n10, fun e => b3 e.symm⟩
    · simp only [List.mem_cons, List.not_mem_nil, or_false, not_or]; exact ⟨fun e => n10 e.symm, fun e => a3 e.symm⟩
  refine ⟨by simp, fun i h st c hc => ?_, fun i h h' st k => ?_, ?_, ?_, fun _ _ _ _ _ st h => wpAny_pyIter_zip st.1 h⟩
  · obtain ⟨s1, s2, ⟨u, v, s3⟩, s4, s5⟩ := st
    simp only [List.mem_cons, List.not_mem_nil, or_false] at hc
    rcases hc with rfl | rfl | rfl | rfl | rfl
    · exact ⟨_, s1, fun v z => by cases z⟩
    · exact ⟨_, s2, fun v z => by cases z⟩
    · exact ⟨_, s3, fun v z => by cases z⟩
    · exact s4.obj
    · exact s5.obj
  · obtain ⟨s1, s2, ⟨u, v, s3⟩, s4, s5⟩ := st
    exact ⟨k z (by simp) _ s1, k TI (by simp) _ s2, ⟨u, v, k TO (by simp) _ s3⟩, s4.at fun o e => k i1 (by simp) o e, s5.at fun o e => k i2 (by simp) o e⟩
  · intro X hP hw hK hc i pins s σ H E I hf st hg
    subst hP hw hK
    obtain ⟨xs, ys, x, y, ha, hb, hl, hx, hy⟩ := hg
    have ap := apart hf ha hb
    obtain ⟨s1, s2, ⟨u, v, s3⟩, s4, s5⟩ := st
    obtain ⟨ia, ra, qa⟩ := I.seqK ha
    obtain ⟨ib, rb, qb⟩ := I.seqK hb
    have la := ra.length
    have lb := rb.length
    have hA : X.A.in1.handled = none := I.ok.hd hc
    have hz : s.TypeIs (.ref z) "zip" := ⟨_, s1, rfl⟩
    have hi : i < xs.length := (List.getElem?_eq_some_iff.mp hx).1
    have D1 := drawsK (prog := X.prog) (w := X.w) κ hA i1 a (fun e => by rw [e, (hf i1 (by simp)).1] at ha; cases ha) ia.toArray
    have D2 := drawsK (prog := X.prog) (w := X.w) κ hA i2 b (fun e => by rw [e, (hf i2 (by simp)).1] at hb; cases hb) ib.toArray
    have e1 : ia.toArray.size = xs.length := by rw [List.size_toArray, la]
    have e2 : ib.toArray.size = xs.length := by rw [List.size_toArray, hl, lb]
    rw [e1] at D1
    rw [e2] at D2
    unfold pyNext
    refine wpAny_bind (wpAny_attempt (wpAny_callSpecial?_slot (name := Str.ofString "__next__") hz F.slot_zip_next (wpAny_call_entry F.slot_zip_next hz F.entry_zip_next
      (zip_draw D1 D2 ap s1 s2 s3 ⟨s4, qa⟩ ⟨s5, qb⟩ hi fun vx vy h' tk px py zz zo g1 g2 zt sz kp => wpAny_pure ?_) (F.args_zip_next_1 _))))
    refine ⟨_, rfl, wpAny_letOwnedTupleGo_zip zz fun h2 z2 sb => ?_⟩
    have hzn : z ≠ s.heap.objs.size := Nat.ne_of_lt (Heap.lt_size s1)
    have px' : ia[i]? = some vx := by simpa using px
    have py' : ib[i]? = some vy := by simpa using py
    obtain ⟨vx', ex, rx⟩ := ra.get hx
    obtain ⟨vy', ey, ry⟩ := rb.get hy
    rw [px'] at ex; cases ex
    rw [py'] at ey; cases ey
    have kk : ∀ c o, c ∉ [z, TI, TO, i1, i2] → s.heap.get? c = some o → h2.get? c = some o := fun c o hc q => by
      simp only [List.mem_cons, List.not_mem_nil, or_false, not_or] at hc
      exact sb.extBut c o hc.1 (kp c o hc.1 hc.2.2.1 hc.2.2.2.1 hc.2.2.2.2 q)
    have new : ObjOk X.prog X.w (upd H s.heap.objs.size (.tup [x, y])) h2 s.heap.objs.size (.tup [x, y]) :=
      ⟨by show 2 ≤ sizeLine; decide, [vx, vy], .cons rx (.cons ry .nil), ⟨_, sb.extBut _ _ (Ne.symm hzn) zt, rfl, _, rfl⟩⟩
    have up : ∀ {c : Addr} {o : Obj}, c ≠ z → h'.get? c = some o → h2.get? c = some o := fun hc q => sb.extBut _ _ hc q
    refine ⟨.ref s.heap.objs.size, upd H s.heap.objs.size (.tup [x, y]), I.turnedLaid (t' := tk) (ch := [z, TI, TO, i1, i2]) kk hf (Nat.le_refl _) new, rfl,
      ⟨_, x, y, rfl, I.hok.fresh (Nat.le_refl _), rfl, fun us hu => ?_, fun us hu => ?_⟩, ⟨z2, up (fun e => n1 e.symm) (kp _ _ (fun e => n1 e.symm) n5 n6 n7 s2), ⟨_, _, up (fun e => n2 e.symm) zo⟩, g1.1.at fun o q => up (fun e => n3 e.symm) q, g2.1.at fun o q => up (fun e => n4 e.symm) q⟩, fun c hc => ?_⟩
    · rw [ha] at hu; rw [← Ob.inj (Option.some.inj hu)]; exact hx
    · rw [hb] at hu; rw [← Ob.inj (Option.some.inj hu)]; exact hy
    · have hlt : c < s.heap.objs.size := by
        simp only [List.mem_cons, List.not_mem_nil, or_false] at hc
        rcases hc with rfl | rfl | rfl | rfl | rfl
        · exact Heap.lt_size s1
        · exact Heap.lt_size s2
        · exact Heap.lt_size s3
        · obtain ⟨o, e, _⟩ := s4.obj; exact Heap.lt_size e
        · obtain ⟨o, e, _⟩ := s5.obj; exact Heap.lt_size e
      rw [upd_ne (Nat.ne_of_lt hlt)]
      exact (hf c hc).1
  · intro X hP hw hK hc i pins s σ H E I hf st hg
    subst hP hw hK
    obtain ⟨xs, ys, ha, hb, hl, hi⟩ := hg
    subst hi
    have ap := apart hf ha hb
    obtain ⟨s1, s2, ⟨u, v, s3⟩, s4, s5⟩ := st
    obtain ⟨ia, ra, qa⟩ := I.seqK ha
    obtain ⟨ib, rb, qb⟩ := I.seqK hb
    have la := ra.length
    have lb := rb.length
    have hA : X.A.in1.handled = none := I.ok.hd hc
    have hz : s.TypeIs (.ref z) "zip" := ⟨_, s1, rfl⟩
    have D1 := drawsK (prog := X.prog) (w := X.w) κ hA i1 a (fun e => by rw [e, (hf i1 (by simp)).1] at ha; cases ha) ia.toArray
    have D2 := drawsK (prog := X.prog) (w := X.w) κ hA i2 b (fun e => by rw [e, (hf i2 (by simp)).1] at hb; cases hb) ib.toArray
    have e1 : ia.toArray.size = xs.length := by rw [List.size_toArray, la]
    have e2 : ib.toArray.size = xs.length := by rw [List.size_toArray, hl, lb]
    rw [e1] at D1
    rw [e2] at D2
    unfold pyNext
    refine wpAny_bind (wpAny_attempt (wpAny_callSpecial?_slot (name := Str.ofString "__next__") hz F.slot_zip_next (wpAny_call_entry F.slot_zip_next hz F.entry_zip_next
      (zip_stop D1 D2 ap s1 s2 s3 ⟨s4, qa⟩ fun h' e kp he => ?_) (F.args_zip_next_1 _))))
    obtain ⟨o, ho, hco⟩ := he
    refine wpAny_bind (wpAny_isInstance (T := "StopIteration") (b := true) ⟨o, ho, hco⟩ isSubtype_stop (wpAny_pure ⟨rfl, ?_⟩))
    refine I.turnedL (t' := s.toks) (ch := [z, TI, TO, i1, i2]) (fun c o hc q => ?_) hf
    simp only [List.mem_cons, List.not_mem_nil, or_false, not_or] at hc
    exact kp c o hc.1 hc.2.2.1 hc.2.2.2.1 hc.2.2.2.2 q
end L2
namespace L2
open PySem PySem.Spec PyProof.Rows
abbrev zq1 (h : Heap) (a : Addr) : Heap := h.push { cls := .type "tuple_iterator", data := .fields #[.ref a, .int 0 0] }
abbrev zq2 (h : Heap) (a b : Addr) : Heap := (zq1 h a).push { cls := .type "tuple_iterator", data := .fields #[.ref b, .int 0 0] }
abbrev zq3 (h : Heap) (a b : Addr) : Heap := (zq2 h a b).push { cls := .type "tuple", data := .seq #[.ref h.objs.size, .ref (zq1 h a).objs.size] }
abbrev zq4 (h : Heap) (a b : Addr) : Heap := (zq3 h a b).push { cls := .type "tuple", data := .seq #[.none, .none] }
abbrev zq5 (h : Heap) (a b : Addr) : Heap := (zq4 h a b).push { cls := .type "zip", data := .fields #[.none, .bool false, .bool false, .ref (zq2 h a b).objs.size, .ref (zq3 h a b).objs.size] }
theorem zipT_new (a b : Addr) (xs ys : Array Value) :
    Meets (Builtin.«zip.__new__» ⟨[.type "zip", .ref a, .ref b], []⟩) (fun _ R s => s.heap.IsTuple a xs ∧ s.heap.IsTuple b ys ∧ R (.ok (.ret (.ref (zq4 s.heap a b).objs.size))) { s with heap := zq5 s.heap a b }) :=
  .of_wp fun prog w A R s h => by
    obtain ⟨hp, g, d, tk, os⟩ := s; obtain ⟨ga, gb, h⟩ := h
    have hsub := sub_zip
    have gA : Heap.IsTuple (Shared.heap ⟨hp, g, d, tk, os⟩) a xs := ga
    have gB : Heap.IsTuple (Shared.heap ⟨hp.push { cls := .type "tuple_iterator", data := .fields #[.ref a, .int 0 0] }, g, d, tk, os⟩) b ys := Heap.IsTuple.push gb _
    wp_walk using wpAny_pyIter_tuple gA, wpAny_pyIter_tuple gB
    exact ⟨_, rfl, h⟩
theorem call_zipT {prog : Program} {w : World} {A : Around} {E : Value → Shared → Prop} {s : Shared} {a b : Addr} {xs ys : Array Value} {Q : Value → Shared → Prop} (ga : s.heap.IsTuple a xs) (gb : s.heap.IsTuple b ys)
    (g : ∀ h', IsZip h' (s.heap.objs.size + 4) (s.heap.objs.size + 2) (s.heap.objs.size + 3) .none → IsPair h' (s.heap.objs.size + 2) (.ref s.heap.objs.size) (.ref (s.heap.objs.size + 1)) → IsPair h' (s.heap.objs.size + 3) .none .none →
      h'.IsTupleIter s.heap.objs.size a 0 → h'.IsTupleIter (s.heap.objs.size + 1) b 0 → (∀ c o, s.heap.get? c = some o → h'.get? c = some o) → Q (.ref (s.heap.objs.size + 4)) { s with heap := h' }) :
    wpAny (model prog w) A (call (.type "zip") [.ref a, .ref b]) Q E s := by
  refine callType_new F.called_zip (by decide) (F.typeCall_zip_2 _ _) (F.newCall_zip_2 _ _) (fun obj => F.args_object_init_3 obj _ _) F.entry_zip_new (zipT_new a b xs ys) ⟨ga, gb, ?_⟩
  have y1 : (zq1 s.heap a).objs.size = s.heap.objs.size + 1 := Heap.size_push ..
  have y2 : (zq2 s.heap a b).objs.size = s.heap.objs.size + 2 := by rw [Heap.size_push, y1]
  have y3 : (zq3 s.heap a b).objs.size = s.heap.objs.size + 3 := by rw [Heap.size_push, y2]
  have y4 : (zq4 s.heap a b).objs.size = s.heap.objs.size + 4 := by rw [Heap.size_push, y3]
  have p4 : ∀ {c : Addr} {o : Obj}, (zq4 s.heap a b).get? c = some o → (zq5 s.heap a b).get? c = some o := fun e => Heap.get?_push_of_some _ e
  have p3 : ∀ {c : Addr} {o : Obj}, (zq3 s.heap a b).get? c = some o → (zq5 s.heap a b).get? c = some o := fun e => p4 (Heap.get?_push_of_some _ e)
  have p2 : ∀ {c : Addr} {o : Obj}, (zq2 s.heap a b).get? c = some o → (zq5 s.heap a b).get? c = some o := fun e => p3 (Heap.get?_push_of_some _ e)
  have p1 : ∀ {c : Addr} {o : Obj}, (zq1 s.heap a).get? c = some o → (zq5 s.heap a b).get? c = some o := fun e => p2 (Heap.get?_push_of_some _ e)
  have p0 : ∀ {c : Addr} {o : Obj}, s.heap.get? c = some o → (zq5 s.heap a b).get? c = some o := fun e => p1 (Heap.get?_push_of_some _ e)
  have x5 : (zq5 s.heap a b).get? (zq4 s.heap a b).objs.size = some _ := Heap.get?_push_size _ rfl
  have x4 : (zq5 s.heap a b).get? (zq3 s.heap a b).objs.size = some _ := p4 (Heap.get?_push_size _ rfl)
  have x3 : (zq5 s.heap a b).get? (zq2 s.heap a b).objs.size = some _ := p3 (Heap.get?_push_size _ rfl)
  have x2 : (zq5 s.heap a b).get? (zq1 s.heap a).objs.size = some _ := p2 (Heap.get?_push_size _ rfl)
  have x1 : (zq5 s.heap a b).get? s.heap.objs.size = some _ := p1 (Heap.get?_push_size _ rfl)
  show _ ∧ _
  rw [y2, y3, y4] at x5
  rw [y1, y2] at x3
  rw [y3] at x4
  rw [y1] at x2
  rw [y4]
  exact ⟨⟨_, x5, rfl⟩, g _ x5 x3 x4 ⟨_, x1, rfl, rfl⟩ ⟨_, x2, rfl, rfl⟩ fun c o e => p0 e⟩
theorem nd5 (n : Nat) : [n + 4, n + 2, n + 3, n, n + 1].Nodup := by
  simp only [List.nodup_cons, List.mem_cons, List.not_mem_nil, or_false, not_or, List.nodup_nil, and_true, not_false_eq_true]
  omega
theorem ge5 {n c : Nat} (h : c ∈ [n + 4, n + 2, n + 3, n, n + 1]) : n ≤ c := by
  simp only [List.mem_cons, List.not_mem_nil, or_false] at h
  omega
section
variable {X : Cx}
def iZip (ta : TA) : TI := fun σ H R => ta σ H fun vs H1 => ∃ κ a b xs ys, vs = [.ref a, .ref b] ∧ H1 a = some (Ob κ xs) ∧ H1 b = some (Ob κ ys) ∧ R (Itz κ a b) H1
theorem pi_zip {l r : Expr} {ta : TA} {p pos tpos : Pos} {elts : List Expr} {x1} (hg : Gl X "zip") (hm : X.mg "zip" = none) (ha : PA X [l, r] ta) (hs : isStar l = false := by rfl) (hs2 : isStar r = false := by rfl) :
    PI X (.Tuple elts x1 tpos) (.Call (.Name "zip" p) [l, r] [] pos) (iZip ta) := by
  intro pins s σ H R I h
  refine Call_ (ld_blt I hg hm boot_zip (PyProof.Rows.callWith_type1 (thn (ha pos pins s σ H _ I h) fun us s1 ⟨vs, H1, I1, r1, q1⟩ => ?_) (star_ok hs) (star_any (by simp only [noStar, hs2]; rfl))))
  obtain ⟨κ, a, b, xs, ys, rfl, ga, gb, q⟩ := q1
  obtain ⟨u, v, rfl, ru, rv⟩ := Vals.two r1
  cases ru
  cases rv
  obtain ⟨ia, ra, qa⟩ := I1.seqK ga
  obtain ⟨ib, rb, qb⟩ := I1.seqK gb
  have fin : ∀ h', IsZip h' (s1.heap.objs.size + 4) (s1.heap.objs.size + 2) (s1.heap.objs.size + 3) .none → IsPair h' (s1.heap.objs.size + 2) (.ref s1.heap.objs.size) (.ref (s1.heap.objs.size + 1)) → IsPair h' (s1.heap.objs.size + 3) .none .none →
      IterK κ h' s1.heap.objs.size a 0 → IterK κ h' (s1.heap.objs.size + 1) b 0 → (∀ c o, s1.heap.get? c = some o → h'.get? c = some o) →
      wpAny (model X.prog X.w) X.A (pyIter (.ref (s1.heap.objs.size + 4))) (PIE X pins σ (.Tuple elts x1 tpos) R) X.xe { s1 with heap := h' } := fun h' z1 z2 z3 z4 z5 kp => by
    refine wpAny_pyIter_zip z1 ?_
    refine ⟨s1.heap.objs.size + 4, _, _, _, H1, rfl, I1.kept (t' := s1.toks) kp, turn_zip κ a b _ _ _ _ _ ?_, ⟨z1, z2, ⟨_, _, z3⟩, z4, z5⟩, fun c hc => ?_, q⟩
    · exact nd5 _
    · have hle : s1.heap.objs.size ≤ c := ge5 hc
      exact I1.fpOk hle (I1.hok.fresh hle)
  cases κ
  · exact call_zip_2 qa qb fun h' z1 z2 z3 z4 z5 _ kp => fin h' z1 z2 z3 z4 z5 kp
  · exact call_zipT qa qb fun h' z1 z2 z3 z4 z5 kp => fin h' z1 z2 z3 z4 z5 kp
theorem qi_zip {l r : Expr} {ta : TA} {p pos tpos : Pos} {elts : List Expr} {x1} (hg : Gl X "zip") (hm : X.mg "zip" = none) (ha : QA X [l, r] ta) (hs : isStar l = false := by rfl) (hs2 : isStar r = false := by rfl) :
    QI X (.Tuple elts x1 tpos) (.Call (.Name "zip" p) [l, r] [] pos) (iZip ta) := ⟨pi_zip hg hm ha.h hs hs2⟩
end
/-- over zip of two that the body leaves as they are -/
theorem for_zip {κ : Bool} {a b : Addr} {xs ys : List V} {g : TG} {tb : TS} {D : Ends} {σ : St} {H : Hp} (hlen : xs.length = ys.length) (Pv : Nat → St → Hp → Prop) (h0 : Pv 0 σ H) (hl : ∀ i σ H, i ≤ xs.length → Pv i σ H → H a = some (Ob κ xs) ∧ H b = some (Ob κ ys))
    (hs : ∀ i x y p σ H, xs[i]? = some x → ys[i]? = some y → H p = none → Pv i σ H → g (.ref p) σ (upd H p (.tup [x, y])) fun σ2 H2 => tb { D with nx := Pv (i + 1), ct := Pv (i + 1), bk := D.nx } σ2 H2) (hd : ∀ σ H, Pv xs.length σ H → D.nx σ H) :
    ∃ W : Nat → Nat → St → Hp → Prop, (∃ m, W 0 m σ H) ∧ ∀ i m σ H, W i m σ H →
      ((Itz κ a b).stop i H ∧ D.nx σ H) ∨ ((Itz κ a b).go i H ∧ ∃ N : St → Hp → Prop, (∀ σ' H', N σ' H' → ∃ m', m' < m ∧ W (i + 1) m' σ' H') ∧ ∀ x H', (Itz κ a b).yld i H x H' → g x σ H' fun σ2 H2 => tb { D with nx := N, ct := N, bk := D.nx } σ2 H2) := by
  refine ⟨fun i m σ H => m = xs.length - i ∧ i ≤ xs.length ∧ Pv i σ H, ⟨xs.length, by simp, Nat.zero_le _, h0⟩, ?_⟩
  rintro i m σ H ⟨rfl, hi, p⟩
  obtain ⟨qa, qb⟩ := hl i σ H hi p
  by_cases hlt : i < xs.length
  · refine .inr ⟨⟨xs, ys, xs[i], ys[i]'(by omega), qa, qb, hlen, List.getElem?_eq_getElem hlt, List.getElem?_eq_getElem (by omega)⟩, Pv (i + 1), fun σ' H' p' => ⟨xs.length - (i + 1), by omega, rfl, hlt, p'⟩, fun v H' y => ?_⟩
    obtain ⟨pp, x', y', rfl, hn, rfl, ex, ey⟩ := y
    exact hs i x' y' pp σ H (ex xs qa) (ey ys qb) hn p
  · have e : i = xs.length := by omega
    subst e
    exact .inl ⟨⟨xs, ys, qa, qb, hlen, rfl⟩, hd σ H p⟩
theorem comp_zip {κ : Bool} {a b : Addr} {xs ys : List V} {D : Addr} {g : TG} {te : TE} {Q : VK} {σ : St} {H : Hp} (hlen : xs.length = ys.length) (Pv : Nat → St → Hp → Prop) (h0 : Pv 0 σ H) (hl : ∀ i σ H, i ≤ xs.length → Pv i σ H → H a = some (Ob κ xs) ∧ H b = some (Ob κ ys))
    (hs : ∀ i x y p σ H, xs[i]? = some x → ys[i]? = some y → H p = none → Pv i σ H → g (.ref p) σ (upd H p (.tup [x, y])) fun σ3 H3 => te σ3 H3 fun v H4 => ∃ zs, H4 D = some (.lst zs) ∧ zs.length < sizeLine ∧ ∃ m', m' < xs.length - i ∧ m' = xs.length - (i + 1) ∧ i + 1 ≤ xs.length ∧ Pv (i + 1) σ3 (upd H4 D (.lst (zs ++ [v]))))
    (hd : ∀ σ H, Pv xs.length σ H → Q (.ref D) H) : compW (Itz κ a b) D g te Q σ H := by
  refine ⟨fun i m σ H => m = xs.length - i ∧ i ≤ xs.length ∧ Pv i σ H, ⟨xs.length, by simp, Nat.zero_le _, h0⟩, ?_⟩
  rintro i m σ H ⟨rfl, hi, p⟩
  obtain ⟨qa, qb⟩ := hl i σ H hi p
  by_cases hlt : i < xs.length
  · refine .inr ⟨⟨xs, ys, xs[i], ys[i]'(by omega), qa, qb, hlen, List.getElem?_eq_getElem hlt, List.getElem?_eq_getElem (by omega)⟩, fun v H2 y => ?_⟩
    obtain ⟨pp, x', y', rfl, hn, rfl, ex, ey⟩ := y
    exact hs i x' y' pp σ H (ex xs qa) (ey ys qb) hn p
  · have e : i = xs.length := by omega
    subst e
    exact .inl ⟨⟨xs, ys, qa, qb, hlen, rfl⟩, hd σ H p⟩
end L2

set_option Elab.async false
set_option linter.all false
set_option maxRecDepth 100000
set_option maxHeartbeats 4000000
/-! assert that holds; isinstance of two types at once; is True; products of greater numbers; divmod by greater numbers -/
namespace L2
open PySem PySem.Spec PyProof.Rows
section
variable {X : Cx} {pos : Pos} {a b e : Expr} {ta tb te : TE} {tc : TT}
def tAssert (c : TT) : TS := fun D σ H => c σ H fun b H1 => b = true ∧ D.nx σ H1
theorem qs_assert {c : Expr} {m : Option Expr} (hc : QT X c tc) : QS X (.Assert c m pos) (tAssert tc) := ⟨by
  intro pins s σ H D I h
  exact wpAny_Assert_holds (thn (hc.h pins s σ H _ I h) fun b s1 ⟨H1, I1, q1⟩ => ⟨q1.1, σ, H1, I1, q1.2⟩)⟩
/-- isinstance(e, (T1, T2)): a tuple of two types is made on the way -/
def tIsi2 (K : PySem.W.Frag) (te : TE) (T1 T2 : String) : TE := fun σ H Q => te σ H fun x H1 => ∃ k, Kd K H1 x k ∧ T1 ∈ tys ∧ T2 ∈ tys ∧ ∀ p, H1 p = none → Q (.bl (isi k T1 || isi k T2)) (upd H1 p (.tup [.ty T1, .ty T2]))
theorem answers_of {H : Hp} {pins : List (Addr × Obj)} {σ : St} {s : Shared} {x : V} {u : Value} {k T : String} (I : Inv X pins σ H s) (r : RelV x u) (hk : Kd X.K H x k) (hT : T ∈ tys) : s.TypeIs u k ∧ Answers (fun s => s.TypeIs u k) u (.type T) (isi k T) := by
  simp only [tys, List.mem_cons, List.not_mem_nil, or_false] at hT
  cases hk with
  | non =>
    cases r
    refine ⟨rfl, ?_⟩
    rcases hT with rfl | rfl | rfl | rfl | rfl
    · exact Answers.of_false_none (by decide +kernel) F.isi_meta_int F.sub_NoneType_int
    · exact Answers.of_false_none (by decide +kernel) F.isi_meta_bool F.sub_NoneType_bool
    · exact Answers.of_false_none (by decide +kernel) F.isi_meta_tuple F.sub_NoneType_tuple
    · exact Answers.of_false_none (by decide +kernel) F.isi_meta_list F.sub_NoneType_list
    · exact Answers.of_false_none (by decide +kernel) F.isi_meta_str F.sub_NoneType_str
  | bl b =>
    cases r
    refine ⟨rfl, ?_⟩
    rcases hT with rfl | rfl | rfl | rfl | rfl
    · exact Answers.of_true F.isi_meta_int F.sub_bool_int
    · exact Answers.of_true F.isi_meta_bool F.sub_bool_bool
    · exact Answers.of_false_bool (by decide +kernel) F.isi_meta_tuple F.sub_bool_tuple
    · exact Answers.of_false_bool (by decide +kernel) F.isi_meta_list F.sub_bool_list
    · exact Answers.of_false_bool (by decide +kernel) F.isi_meta_str F.sub_bool_str
  | int i =>
    obtain ⟨t, rfl⟩ := r
    refine ⟨rfl, ?_⟩
    rcases hT with rfl | rfl | rfl | rfl | rfl
    · exact Answers.of_true F.isi_meta_int F.sub_int_int
    · exact Answers.of_false_int (by decide +kernel) F.isi_meta_bool F.sub_int_bool
    · exact Answers.of_false_int (by decide +kernel) F.isi_meta_tuple F.sub_int_tuple
    · exact Answers.of_false_int (by decide +kernel) F.isi_meta_list F.sub_int_list
    · exact Answers.of_false_int (by decide +kernel) F.isi_meta_str F.sub_int_str
  | str z =>
    obtain ⟨t, rfl⟩ := r
    refine ⟨rfl, ?_⟩
    rcases hT with rfl | rfl | rfl | rfl | rfl
    · exact Answers.of_false_str (by decide +kernel) F.isi_meta_int F.sub_str_int
    · exact Answers.of_false_str (by decide +kernel) F.isi_meta_bool F.sub_str_bool
    · exact Answers.of_false_str (by decide +kernel) F.isi_meta_tuple F.sub_str_tuple
    · exact Answers.of_false_str (by decide +kernel) F.isi_meta_list F.sub_str_list
    · exact Answers.of_true F.isi_meta_str F.sub_str_str
  | tup hq =>
    cases r
    obtain ⟨its, rv, ⟨o, ho, hc, _⟩, _⟩ := I.tuple hq
    refine ⟨⟨o, ho, hc⟩, ?_⟩
    rcases hT with rfl | rfl | rfl | rfl | rfl
    · exact Answers.of_false_tuple (by decide +kernel) F.isi_meta_int F.sub_tuple_int
    · exact Answers.of_false_tuple (by decide +kernel) F.isi_meta_bool F.sub_tuple_bool
    · exact Answers.of_true F.isi_meta_tuple F.sub_tuple_tuple
    · exact Answers.of_false_tuple (by decide +kernel) F.isi_meta_list F.sub_tuple_list
    · exact Answers.of_false_tuple (by decide +kernel) F.isi_meta_str F.sub_tuple_str
  | lst hq =>
    cases r
    obtain ⟨its, rv, ⟨o, n, ho, hc, _⟩, _⟩ := I.list hq
    refine ⟨⟨o, ho, hc⟩, ?_⟩
    rcases hT with rfl | rfl | rfl | rfl | rfl
    · exact Answers.of_false_list (by decide +kernel) F.isi_meta_int F.sub_list_int
    · exact Answers.of_false_list (by decide +kernel) F.isi_meta_bool F.sub_list_bool
    · exact Answers.of_false_list (by decide +kernel) F.isi_meta_tuple F.sub_list_tuple
    · exact Answers.of_true F.isi_meta_list F.sub_list_list
    · exact Answers.of_false_list (by decide +kernel) F.isi_meta_str F.sub_list_str
theorem qe_isi2 {x1 x2 : Str} {T1 T2 : String} {p p1 p2 p3 : Pos} {k : Nat} (hg : Gl X "isinstance") (hm : X.mg "isinstance" = none) (he : QE X e te) (h1 : Gl X x1) (m1 : X.mg x1 = none) (b1 : bootBuiltins x1 = some (.type T1)) (h2 : Gl X x2) (m2 : X.mg x2 = none) (b2 : bootBuiltins x2 = some (.type T2))
    (hs : isStar e = false := by rfl) (n1 : x1 ≠ "__name__" := by decide) (d1 : (x1 == ("__debug__" : Str)) = false := by decide) (n2 : x2 ≠ "__name__" := by decide) (d2 : (x2 == ("__debug__" : Str)) = false := by decide) :
    QE X (.Call (.Name "isinstance" p) [e, .Tuple [.Name x1 p1, .Name x2 p2] k p3] [] pos) (tIsi2 X.K te T1 T2) := ⟨by
  intro pins s σ H Q I h
  refine wpAny_Call_Name_kw (ld_blt I hg hm boot_isinstance ?_)
  refine PyProof.Rows.callWith_builtin1 ?_ (star_ok hs) (star_any rfl)
  rw [star_ok hs]
  show wpAny _ _ (spliced ((false, eval e X.env) :: backTo pos (starEach [.Tuple [.Name x1 p1, .Name x2 p2] k p3] X.env))) _ _ s
  refine Calls.spliced_cons (thn (he.h pins s σ H _ I h) fun u s1 ⟨x, H1, I1, r1, kk, hk, t1, t2, q⟩ => ?_)
  rw [star_ok (e := .Tuple [.Name x1 p1, .Name x2 p2] k p3) rfl]
  show wpAny _ _ (spliced ((false, eval (.Tuple [.Name x1 p1, .Name x2 p2] k p3) X.env) :: backTo pos (starEach [] X.env))) _ _ s1
  have both : PA X [.Name x1 p1, .Name x2 p2] (tCons (tC (.ty T1)) (tCons (tC (.ty T2)) tNil)) := pc (pe_bltn (v := .ty T1) h1 m1 b1 rfl n1 d1) (pc (pe_bltn (v := .ty T2) h2 m2 b2 rfl n2 d2) pa_nil)
  refine Calls.spliced_cons (wpAny_Tuple_spliced (thn (both p3 pins s1 σ H1 (fun vs H2 => vs = [.ty T1, .ty T2] ∧ H2 = H1) I1 ⟨rfl, rfl⟩) fun us s2 ⟨vs, H2, I2, r2, ev, eh⟩ => ?_))
  subst ev eh
  obtain ⟨v1, v2, rfl, w1, w2⟩ := Vals.two r2
  cases w1
  cases w2
  refine ⟨by show 2 ≤ sizeLine; decide, ?_⟩
  refine Calls.spliced_nil ?_
  have hf : H2 s2.heap.objs.size = none := I2.hok.fresh (Nat.le_refl _)
  have I3 : Inv X pins σ (upd H2 s2.heap.objs.size (.tup [.ty T1, .ty T2])) { s2 with heap := s2.heap.push { cls := .type "tuple", data := .seq [Value.type T1, Value.type T2].toArray } } :=
    I2.laid (t' := s2.toks) (fun b u e => Heap.get?_push_of_some _ e) (Nat.le_refl _) ⟨by show 2 ≤ sizeLine; decide, [.type T1, .type T2], .cons rfl (.cons rfl .nil), ⟨_, Heap.get?_push_size _ rfl, rfl, _, rfl⟩⟩
  have hk3 : Kd X.K (upd H2 s2.heap.objs.size (.tup [.ty T1, .ty T2])) x kk := by
    have up : ∀ b o, H2 b = some o → upd H2 s2.heap.objs.size (.tup [.ty T1, .ty T2]) b = some o := fun b o e => by rw [upd_ne (ne_of_none e hf)]; exact e
    cases hk with
    | non => exact .non
    | bl b => exact .bl b
    | int i => exact .int i
    | str z => exact .str z
    | tup hq =>
      rcases hq with (hq | ⟨o, hq⟩) | hq
      · exact .tup (.inl (.inl (up _ _ hq)))
      · exact .tup (.inl (.inr ⟨o, up _ _ hq⟩))
      · exact .tup (.inr hq)
    | lst hq =>
      rcases hq with (hq | ⟨o, hq⟩) | hq
      · exact .lst (.inl (.inl (up _ _ hq)))
      · exact .lst (.inl (.inr ⟨o, up _ _ hq⟩))
      · exact .lst (.inr hq)
  obtain ⟨g0, g1⟩ := answers_of I3 r1 hk3 t1
  obtain ⟨_, g2⟩ := answers_of I3 r1 hk3 t2
  refine IsiPair.tupleOf (cs := [.type T1, .type T2]) (vs := [isi kk T1, isi kk T2]) ⟨g1, g2, trivial⟩ g0 (Heap.get?_push_size _ rfl) fun tk => ?_
  refine ⟨.bl (isi kk T1 || isi kk T2), _, I3.tok _, ?_, q _ hf⟩
  show Value.bool ([isi kk T1, isi kk T2].any id) = Value.bool (isi kk T1 || isi kk T2)
  simp⟩
end
section
variable {X : Cx} {K : PySem.W.Frag} {pos : Pos}
theorem qg_tupK {es : List Expr} {gs : TGs} {k n : Nat} (e : X.K = K) (hc : X.calm = true) (h : QGs X es gs) (hn : (assignEach es X.env).length = n := by rfl) (hst : (assignEach es X.env).findIdx? (·.1) = none := by rfl) : QG X (.Tuple es k pos) (gTup K n gs) := by
  subst e; exact qg_tup hc h hn hst
/-- a product of two numbers that are not of thousands of figures -/
def CMulB (i j : Int) : Prop := i.natAbs < 2 ^ 8000 ∧ j.natAbs < 2 ^ 8000
theorem bits_le {a : Int} (h : a.natAbs < 2 ^ 8000) : Builtin.Int.intBits a ≤ 8001 := by
  unfold Builtin.Int.intBits
  split
  · omega
  · rename_i h0
    have hne : a.natAbs ≠ 0 := by
      intro z
      apply h0
      first | exact Int.natAbs_eq_zero.mp z | simp [Int.natAbs_eq_zero.mp z] | omega
    have := (Nat.log2_lt hne).mpr h
    omega
theorem CMulB.ok {i j : Int} (h : CMulB i j) : IntMulOk i j := by
  have h1 := bits_le h.1
  have h2 := bits_le h.2
  unfold IntMulOk
  have : Builtin.Int.intTooBig (Builtin.Int.intBits i + Builtin.Int.intBits j) = false := by
    unfold Builtin.Int.intTooBig
    simp only [decide_eq_false_iff_not]
    have : (16002 : Int) ≤ bitsLine := by decide
    omega
  rw [this]
  simp
theorem op_mulB : OpR X (binaryOp .Mult) (rI CMulB fun i j => .int (i * j)) := opI fun _ _ _ _ _ _ _ hc q => mul_int q hc.ok
end
section
variable {X : Cx}
def CDivZ (i j : Int) : Prop := j ≠ 0 ∧ j.natAbs < 2 ^ 8000
theorem op_fdivZ : OpR X (binaryOp .FloorDiv) (rI CDivZ fun i j => .int (i.fdiv j)) := opI fun i j _ _ _ _ _ hc q => by
  obtain ⟨h0, h1⟩ := hc
  have hl : j.natAbs.log2 < 9000 := by
    have := (Nat.log2_lt (show j.natAbs ≠ 0 by omega)).mpr h1
    omega
  exact floordiv_int h0 q (.inl (PyProof.noPylong_of_log2 hl))
end
end L2

set_option Elab.async false
set_option linter.all false
set_option maxRecDepth 100000
set_option maxHeartbeats 4000000
namespace L2
open PySem PySem.Spec PyProof.Rows
section
variable {X : Cx} {pos : Pos} {o e : Expr} {to : TE} {tr : TA}
theorem qe_append {ap : Pos} (ho : QE X o to) (ha : QA X [e] tr) (hbase : attributeBase o "append" X.env (eval o X.env) = eval o X.env := by rfl) (hline : (ap.endLine == pos.line) = true := by rfl) (hs : isStar e = false := by rfl) :
    QE X (.Call (.Attribute o "append" ap) [e] [] pos) (tBM X.K "list" rAppend to tr) :=
  ⟨pe_bm PySem.F.plainAttrs_list PySem.F.slot_list_append PySem.F.type_list_append mt_append ho.h ha.h hbase (by rw [star_ok hs]; rfl) hline (star_ok hs) (star_any rfl)⟩
end
section
variable {X : Cx}
theorem call_divmodB : CallR X (.builtin "divmod") (fun xs H Q => ∃ a b : Int, xs = [.int a, .int b] ∧ 0 < b ∧ b < 2 ^ 200 ∧ ∀ p, H p = none → Q (.ref p) (upd H p (.tup [.int (a / b), .int (a % b)]))) := by
  intro pins s σ H xs us Q I r h
  obtain ⟨a, b, rfl, h0, h1, q⟩ := h
  obtain ⟨u, v, rfl, rx, ry⟩ := Vals.two r
  obtain ⟨t, rfl⟩ := rx
  obtain ⟨t', rfl⟩ := ry
  have e1 : a.fdiv b = a / b := Int.fdiv_eq_ediv_of_nonneg _ (by omega)
  have e2 : a.fmod b = a % b := Int.fmod_eq_emod_of_nonneg _ (by omega)
  have hl : b.natAbs.log2 < 9000 := by
    have hb : b.natAbs < 2 ^ 200 := by omega
    have := (Nat.log2_lt (show b.natAbs ≠ 0 by omega)).mpr hb
    omega
  refine divmod_int (by omega) ?_ (.inl (PyProof.noPylong_of_log2 hl))
  refine ⟨.ref s.heap.objs.size, _, I.laid (o := .tup [.int (a / b), .int (a % b)]) (t' := s.toks + 1 + 1) (fun b u e => Heap.get?_push_of_some _ e) (Nat.le_refl _) ?_, rfl, q _ (I.hok.fresh (Nat.le_refl _))⟩
  refine ⟨by show 2 ≤ sizeLine; decide, [.int (a.fdiv b) s.toks, .int (a.fmod b) (s.toks + 1)], .cons ⟨_, by rw [e1]⟩ (.cons ⟨_, by rw [e2]⟩ .nil), ⟨_, Heap.get?_push_size _ rfl, rfl, _, rfl⟩⟩
theorem op_isB : OpR X (compareOp .Is) (fun x y H Q => ∃ a b : Bool, x = .bl a ∧ y = .bl b ∧ Q (.bl (a == b)) H) := by
  intro pins s σ H x y v u Q I rx ry h
  obtain ⟨a, b, rfl, rfl, q⟩ := h
  cases rx
  cases ry
  exact is_bool ⟨.bl _, H, I, rfl, q⟩
end
end L2

set_option Elab.async false
set_option linter.all false
set_option maxRecDepth 100000
set_option maxHeartbeats 4000000
/-! i.bit_length() -/
namespace L2
open PySem PySem.Spec PyProof.Rows
section
variable {X : Cx} {pos : Pos} {o e : Expr} {to : TE} {tr : TA}
def rBits : V → List V → Hp → VK → Prop := fun x vs H Q => ∃ i : Int, x = .int i ∧ vs = [] ∧ Q (.int ((Builtin.Int.intBits i : Nat) : Int)) H
theorem mt_bits : MtR X "int.bit_length" rBits := by
  intro pins s σ H x vs v us Q I rx rv h
  obtain ⟨i, rfl, rfl, q⟩ := h
  obtain ⟨t, rfl⟩ := rx
  cases rv
  exact call_int_bit_length ⟨.int _, H, I.tok _, ⟨_, rfl⟩, q⟩
theorem qe_bits {ap : Pos} (ho : QE X o to) (hbase : attributeBase o "bit_length" X.env (eval o X.env) = eval o X.env := by rfl) (hline : (ap.endLine == pos.line) = true := by rfl) :
    QE X (.Call (.Attribute o "bit_length" ap) [] [] pos) (tBM0 X.K "int" rBits to) :=
  ⟨pe_bm0 PySem.F.plainAttrs_int PySem.F.slot_int_bit_length PySem.F.type_int_bit_length mt_bits ho.h hbase hline⟩
end
end L2

set_option Elab.async false
set_option linter.all false
set_option maxRecDepth 100000
set_option maxHeartbeats 4000000
namespace L2
open PySem PySem.Spec PyProof.Rows
theorem itB {c : Bool} {A B : Prop} (h1 : c = true → A) (h2 : c = false → B) : if c = true then A else B := by
  cases c
  · rw [if_neg (by decide)]; exact h2 rfl
  · rw [if_pos rfl]; exact h1 rfl
section
variable {X : Cx} {K : PySem.W.Frag}
theorem call_isiK (e : X.K = K) : CallR X (.builtin "isinstance") (fun xs H Q => ∃ x k T, xs = [x, .ty T] ∧ Kd K H x k ∧ T ∈ tys ∧ Q (.bl (isi k T)) H) := by subst e; exact call_isi
theorem call_lenK (e : X.K = K) : CallR X (.builtin "len") (fun xs H Q => ∃ p ys, xs = [.ref p] ∧ (SqL K H p ys ∨ SqT K H p ys) ∧ Q (.int ys.length) H) := by subst e; exact call_len_seq
theorem call_allK (hc : X.calm = true) (e : X.K = K) : CallR X (.builtin "all") (fun xs H Q => ∃ (p : Addr) (bs : List Bool), xs = [.ref p] ∧ SqL K H p (bs.map V.bl) ∧ Q (.bl (bs.all id)) H) := by subst e; exact call_allB hc
theorem ix_listK (e : X.K = K) : IxR X (rIxL K) := by subst e; exact ix_list
theorem ix_tupK (e : X.K = K) : IxR X (rIxT K) := by subst e; exact ix_tup
end
end L2
namespace My
open PySem L2 PyProof.Rows
theorem bt_isinstance : bootBuiltins "isinstance" = some (.builtin "isinstance") := boot_isinstance
theorem bt_abs : bootBuiltins "abs" = some (.builtin "abs") := boot_abs
theorem bt_divmod : bootBuiltins "divmod" = some (.builtin "divmod") := boot_divmod
theorem bt_min : bootBuiltins "min" = some (.builtin "min") := boot_min
theorem bt_all : bootBuiltins "all" = some (.builtin "all") := boot_all
theorem bt_len : bootBuiltins "len" = some (.builtin "len") := PySem.boot_len
theorem bt_int : bootBuiltins "int" = some (.type "int") := by decide +kernel
theorem bt_bool : bootBuiltins "bool" = some (.type "bool") := by decide +kernel
theorem bt_tuple : bootBuiltins "tuple" = some (.type "tuple") := by decide +kernel
theorem bt_list : bootBuiltins "list" = some (.type "list") := by decide +kernel
theorem bt_str : bootBuiltins "str" = some (.type "str") := by decide +kernel
/-- the built-in names are not the text's own -/
structure Txt (mg : Str → Option Value) : Prop where
  n_isinstance : mg "isinstance" = none
  n_abs : mg "abs" = none
  n_divmod : mg "divmod" = none
  n_min : mg "min" = none
  n_all : mg "all" = none
  n_len : mg "len" = none
  n_int : mg "int" = none
  n_bool : mg "bool" = none
  n_tuple : mg "tuple" = none
  n_list : mg "list" = none
  n_str : mg "str" = none
  n_range : mg "range" = none
  n_enumerate : mg "enumerate" = none
  n_zip : mg "zip" = none
def top (i : Nat) : Stmt := PySem.Challenge.pw_sidecut_k05_lengths_and_units.main.body.getD i (.Pass ⟨0, 0, 0, 0⟩)
/-- all but what stands at p is as it was -/
def Ext (p : Addr) (H H' : Hp) : Prop := ∀ b o, H b = some o → b ≠ p → H' b = some o
theorem Ext.refl (p : Addr) (H : Hp) : Ext p H H := fun _ _ h _ => h
theorem Ext.trans {p : Addr} {H H1 H2 : Hp} (a : Ext p H H1) (b : Ext p H1 H2) : Ext p H H2 := fun c o h n => b c o (a c o h n) n
theorem Ext.of {p : Addr} {H H' : Hp} (a : Same H H') : Ext p H H' := fun c o h _ => a c o h
theorem Same.upd {H : Hp} {p : Addr} {o : HO} (h : H p = none) : Same H (L2.upd H p o) := fun b u e => by rw [upd_ne (ne_of_none e h)]; exact e
theorem Ext.same {p : Addr} {H H' H0 : Hp} (s : Same H0 H) (n : H0 p = none) (e : Ext p H H') : Same H0 H' := fun c o h => e c o (s c o h) (ne_of_none h n)
/-- the box of draws: what is left of a great number, the seed, how often was drawn -/
def Box (H : Hp) (p : Addr) (n : Int) : Prop := ∃ A B c : Int, H p = some (.lst [.int A, .int B, .int c]) ∧ 0 ≤ A ∧ 0 ≤ B ∧ B < 2147483647 ∧ 0 ≤ c ∧ c ≤ n
theorem Box.mono {H : Hp} {p : Addr} {n m : Int} (b : Box H p n) (h : n ≤ m) : Box H p m := let ⟨A, B, c, h1, h2, h3, h4, h5, h6⟩ := b; ⟨A, B, c, h1, h2, h3, h4, h5, by omega⟩
theorem Box.same {H H' : Hp} {p : Addr} {n : Int} (b : Box H p n) (h : Same H H') : Box H' p n := let ⟨A, B, c, h1, h2⟩ := b; ⟨A, B, c, h _ _ h1, h2⟩
theorem cdiv {i j : Int} (h0 : 0 < j) (h1 : j < 1073741824) : CDivB i j := by
  refine ⟨h0, Int.lt_of_lt_of_le h1 ?_⟩
  have : (2 : Int) ^ 30 ≤ 2 ^ 8000 := by
    have h : (2 : Nat) ^ 30 ≤ 2 ^ 8000 := Nat.pow_le_pow_right (by decide) (by decide)
    exact_mod_cast h
  exact Int.le_trans (by decide) this
theorem at0 {x : V} {r : List V} : atI (x :: r) 0 = some x := atI_nat (j := 0) rfl
theorem at1 {x y : V} {r : List V} : atI (x :: y :: r) 1 = some y := atI_nat (j := 1) rfl
theorem at2 {x y z : V} {r : List V} : atI (x :: y :: z :: r) 2 = some z := atI_nat (j := 2) rfl
section
variable {P : Program} {w : World} {K : PySem.W.Frag} {mg : Str → Option Value} {base : Heap}
end
end My

set_option Elab.async false
set_option linter.all false
set_option maxRecDepth 100000
set_option maxHeartbeats 4000000
namespace My
open PySem L2 PyProof.Rows
section
variable {P : Program} {w : World} {K : PySem.W.Frag} {mg : Str → Option Value} {base : Heap}
/-! ### _law_box_of -/
abbrev s_box_of : Stmt := top 19
def spBoxOf (K : PySem.W.Frag) : Sp := fun vs H Q _ => ∃ (a : Addr) (ns : List Int) (k : Int), vs = [.ref a, .int k] ∧ SqL K H a (ns.map V.int) ∧ 0 ≤ k ∧ k ≤ 1000 ∧ ∀ p H', H p = none → Same H H' → Box H' p 0 → Q (.ref p) H'
theorem sc_box_of : FnScope ["_law_script", "_law_k", "_law_cell"] ["_law_script", "_law_k"] (defScope s_box_of) := ⟨rfl, rfl, rfl, by decide +kernel, rfl, by decide +kernel, by decide +kernel⟩
theorem ok_box_of {f : Addr} {fd : FuncData} (F : Fun K "_law_box_of" "_law_box_of" s_box_of f fd) (T : Txt mg) : FnOk P w K mg base CX0 1 f fd ["_law_script", "_law_k"] (spBoxOf K) := by
  refine F.okQ sc_box_of (fun vs H Q E h => ?_) (fun cdv A outer s H vs Q E hr h => ?_)
  · obtain ⟨a, ns, k, rfl, _⟩ := h; rfl
  · obtain ⟨a, ns, k, rfl, hS, h0, h1, q⟩ := h
    refine ⟨_, (qb_cons (qs_set (i := 2) sc_box_of.nd rfl (Or.inl rfl) qe_int)
  (qb_cons (qs_if (qt_cmpR op_lt (qv 1) (qe_callBS call_len_seq rfl T.n_len bt_len (qc (qv 0) qa_nil)) (nomark _)) (qb_one (qs_set (i := 2) sc_box_of.nd rfl (Or.inl rfl) (qe_ix ix_list (qv 0) (qv 1) (fun _ _ => rfl)))) qb_nil)
  (qb_one (qs_ret (qe_lst (qc (qe_op op_mul (qe_callBS call_absV rfl T.n_abs bt_abs (qc (qv 2) qa_nil)) (qe_callTyS call_intB rfl T.n_int bt_int (qc (qe_cmpR op_ge (qe_callBS call_absV rfl T.n_abs bt_abs (qc (qv 2) qa_nil)) (qe_op op_pow qe_int qe_int) (nomark _)) qa_nil))) (qc (qe_op op_mod (qe_op op_add (qv 2) (qe_op op_mul (qe_op op_mul qe_int (qv 1)) (qv 1))) qe_int) (qc qe_int qa_nil)))))))), ?_⟩
    refine ⟨_, rfl, _, rfl, a, _, rfl, .inl hS, _, _, rfl, rfl, _, rfl, ?_⟩
    have hp : CPow 10 18 := ⟨by decide, by decide, by decide⟩
    refine itB (fun e => ?_) (fun e => ?_)
    · have e' : k < ((ns.map V.int).length : Int) := by simpa using e
      rw [List.length_map] at e'
      have hk : k.toNat < ns.length := by omega
      have hat : atI (ns.map V.int) k = some (V.int ns[k.toNat]) := by
        have e3 : k = ((k.toNat : Nat) : Int) := by omega
        have z := atI_nat (xs := ns.map V.int) (j := k.toNat) (v := V.int ns[k.toNat]) (by rw [List.getElem?_map, List.getElem?_eq_getElem hk]; rfl)
        rw [← e3] at z
        exact z
      refine ⟨_, rfl, _, rfl, a, _, k, _, rfl, rfl, hS, hat, ?_⟩
      refine ⟨_, rfl, _, rfl, _, rfl, _, rfl, _, _, rfl, rfl, hp, _, _, rfl, rfl, _, rfl, _, _, rfl, rfl, .inr (by split <;> decide), ?_⟩
      refine ⟨_, rfl, _, rfl, _, _, rfl, rfl, .inl (by decide), _, rfl, _, _, rfl, rfl, .inr (by omega), _, _, rfl, rfl, _, _, rfl, rfl, (by show (0 : Int) < 2147483647; decide), (by show 3 ≤ sizeLine; decide), fun p hp' => ?_⟩
      refine q p _ hp' (Same.upd hp') ⟨_, _, _, upd_same, ?_, ?_, ?_, by decide, by decide⟩
      · exact Int.mul_nonneg (by omega) (by split <;> decide)
      · exact Int.emod_nonneg _ (by decide)
      · exact Int.emod_lt_of_pos _ (by decide)
    · refine ⟨_, rfl, _, rfl, _, rfl, _, rfl, _, _, rfl, rfl, hp, _, _, rfl, rfl, _, rfl, _, _, rfl, rfl, .inr (by split <;> decide), ?_⟩
      refine ⟨_, rfl, _, rfl, _, _, rfl, rfl, .inl (by decide), _, rfl, _, _, rfl, rfl, .inr (by omega), _, _, rfl, rfl, _, _, rfl, rfl, (by show (0 : Int) < 2147483647; decide), (by show 3 ≤ sizeLine; decide), fun p hp' => ?_⟩
      refine q p _ hp' (Same.upd hp') ⟨_, _, _, upd_same, ?_, ?_, ?_, by decide, by decide⟩
      · exact Int.mul_nonneg (by omega) (by split <;> decide)
      · exact Int.emod_nonneg _ (by decide)
      · exact Int.emod_lt_of_pos _ (by decide)
end
end My

set_option Elab.async false
set_option linter.all false
set_option maxRecDepth 100000
set_option maxHeartbeats 4000000
namespace My
open PySem L2 PyProof.Rows
section
variable {P : Program} {w : World} {K : PySem.W.Frag} {mg : Str → Option Value} {base : Heap}
/-! ### _law_take -/
abbrev s_take : Stmt := top 20
def spTake : Sp := fun vs H Q _ => ∃ (p : Addr) (m n : Int), vs = [.ref p, .int m] ∧ Box H p n ∧ n ≤ 1000000 ∧ 1 ≤ m ∧ m < 2 ^ 200 ∧ ∀ r H', 0 ≤ r → r < m → Ext p H H' → Box H' p (n + 1) → Q (.int r) H'
theorem sc_take : FnScope ["_law_box", "_law_many", "_law_once", "_law_found"] ["_law_box", "_law_many"] (defScope s_take) := ⟨rfl, rfl, rfl, by decide +kernel, rfl, by decide +kernel, by decide +kernel⟩
theorem ok_take {f : Addr} {fd : FuncData} (F : Fun K "_law_take" "_law_take" s_take f fd) (T : Txt mg) : FnOk P w K mg base CX0 1 f fd ["_law_box", "_law_many"] spTake := by
  refine F.okQ sc_take (fun vs H Q E h => ?_) (fun cdv A outer s H vs Q E hr h => ?_)
  · obtain ⟨p, m, n, rfl, _⟩ := h; rfl
  · obtain ⟨p, m, n, rfl, ⟨a, b, c, hp, ha, hb, hb2, hc, hcn⟩, hn, h1, h2, q⟩ := h
    refine ⟨_, (qb_cons (qs_if (qt_cmpR op_gt (qe_ix ix_list (qv 0) qe_int (fun _ _ => rfl)) qe_int (nomark _)) (qb_cons (qs_asg (qe_callBS call_divmodB rfl T.n_divmod bt_divmod (qc (qe_ix ix_list (qv 0) qe_int (fun _ _ => rfl)) (qc (qv 1) qa_nil))) (qg_tup rfl (qgs_cons (qg_sub (qv 0) qe_int set_list) (qgs_cons (qg_name (i := 3) sc_take.nd rfl (Or.inl rfl)) qgs_nil))))
  (qb_one (qs_ret (qv 3)))) qb_nil)
  (qb_cons (qs_asg (qe_op op_add (qe_ix ix_list (qv 0) qe_int (fun _ _ => rfl)) qe_int) (qg_sub (qv 0) qe_int set_list))
  (qb_cons (qs_set (i := 2) sc_take.nd rfl (Or.inl rfl) (qe_op op_mod (qe_op op_pow (qe_op op_add (qe_ix ix_list (qv 0) qe_int (fun _ _ => rfl)) (qe_op op_mul qe_int (qe_ix ix_list (qv 0) qe_int (fun _ _ => rfl)))) qe_int) qe_int))
  (qb_one (qs_ret (qe_op op_mod (qe_op op_fdivB (qe_op op_mod (qe_op op_add (qe_op op_mul (qv 2) qe_int) (qe_op op_mul (qe_op op_mul (qe_ix ix_list (qv 0) qe_int (fun _ _ => rfl)) (qe_ix ix_list (qv 0) qe_int (fun _ _ => rfl))) qe_int)) qe_int) qe_int) (qv 1))))))), ?_⟩
    refine ⟨_, rfl, p, _, _, _, rfl, rfl, SqL.of hp, at0, _, _, rfl, rfl, _, rfl, ?_⟩
    refine itB (fun e => ?_) (fun e => ?_)
    · have ha' : 0 < a := by simpa using e
      refine ⟨_, rfl, p, _, _, _, rfl, rfl, SqL.of hp, at0, _, rfl, _, _, rfl, by omega, h2, fun t ht => ?_⟩
      have npt : p ≠ t := ne_of_none hp ht
      have hp' : (upd H t (.tup [.int (a / m), .int (a % m)])) p = some (.lst [.int a, .int b, .int c]) := by rw [upd_ne npt]; exact hp
      refine ⟨_, _, rfl, SqT.of upd_same, rfl, _, _, rfl, _, rfl, p, _, _, _, rfl, rfl, hp', rfl, _, _, rfl, rfl, _, rfl, ?_⟩
      refine q _ _ (Int.emod_nonneg _ (by omega)) (Int.emod_lt_of_pos _ (by omega)) (fun d o z hd => ?_) ⟨_, _, _, upd_same, ?_, hb, hb2, hc, by omega⟩
      · rw [upd_ne hd, upd_ne (ne_of_none z ht)]; exact z
      · exact Int.ediv_nonneg ha (by omega)
    · refine ⟨_, rfl, p, _, _, _, rfl, rfl, SqL.of hp, at2, _, _, rfl, rfl, _, rfl, p, _, _, _, rfl, rfl, hp, rfl, ?_⟩
      have hq : (upd H p (.lst ([V.int a, .int b, .int c].set 2 (.int (c + 1))))) p = some (.lst [.int a, .int b, .int (c + 1)]) := upd_same
      have hpw : CPow (b + 39373 * (c + 1)) 5 := ⟨by decide, by decide, by omega⟩
      refine ⟨_, rfl, p, _, _, _, rfl, rfl, SqL.of hq, at1, _, rfl, p, _, _, _, rfl, rfl, SqL.of hq, at2, _, _, rfl, rfl, .inl (by decide), _, _, rfl, rfl, _, _, rfl, rfl, hpw, _, _, rfl, rfl, (by show (0 : Int) < 2147483647; decide), ?_⟩
      refine ⟨_, rfl, _, _, rfl, rfl, .inr (by decide), _, rfl, p, _, _, _, rfl, rfl, SqL.of hq, at2, _, rfl, p, _, _, _, rfl, rfl, SqL.of hq, at2, _, _, rfl, rfl, .inl (by omega), _, _, rfl, rfl, .inr (by decide), _, _, rfl, rfl, _, _, rfl, rfl, (by show (0 : Int) < 2147483629; decide), _, _, rfl, rfl, cdiv (by decide) (by decide), _, rfl, _, _, rfl, rfl, by omega, ?_⟩
      refine q _ _ (Int.emod_nonneg _ (by omega)) (Int.emod_lt_of_pos _ (by omega)) (fun d o z hd => ?_) ⟨_, _, _, hq, ha, hb, hb2, by omega, by omega⟩
      rw [upd_ne hd]; exact z
end
end My

set_option Elab.async false
set_option linter.all false
set_option maxRecDepth 100000
set_option maxHeartbeats 4000000
namespace My
open PySem L2 PyProof.Rows
section
variable {P : Program} {w : World} {K : PySem.W.Frag} {mg : Str → Option Value} {base : Heap}
/-! ### greatest common divisors, lowest terms -/
theorem gcd_step (x y : Nat) : Nat.gcd y (x % y) = Nat.gcd x y := by
  rw [Nat.gcd_comm x y, Nat.gcd_rec y x, Nat.gcd_comm]
def lowN (n d : Int) : Int := (if 0 < d then n else -n) / ((Nat.gcd n.natAbs d.natAbs : Nat) : Int)
def lowD (n d : Int) : Int := (if 0 < d then d else -d) / ((Nat.gcd n.natAbs d.natAbs : Nat) : Int)
theorem low_core {n d : Int} {g : Nat} (hd : 0 < d) (hg : g = Nat.gcd n.natAbs d.natAbs) : (n / (g : Int)).natAbs ≤ n.natAbs ∧ 1 ≤ d / (g : Int) ∧ d / (g : Int) ≤ d ∧ Nat.gcd (n / (g : Int)).natAbs (d / (g : Int)).natAbs = 1 := by
  have g0 : 0 < g := by rw [hg]; exact Nat.gcd_pos_of_pos_right _ (by omega)
  have dn : (g : Int) ∣ n := by rw [hg]; exact Int.ofNat_dvd_left.mpr (Nat.gcd_dvd_left _ _)
  have dd : (g : Int) ∣ d := by rw [hg]; exact Int.ofNat_dvd_left.mpr (Nat.gcd_dvd_right _ _)
  have en : (n / (g : Int)).natAbs = n.natAbs / g := by rw [Int.natAbs_ediv_of_dvd dn]; simp
  have ed : (d / (g : Int)).natAbs = d.natAbs / g := by rw [Int.natAbs_ediv_of_dvd dd]; simp
  refine ⟨by rw [en]; exact Nat.div_le_self _ _, ?_, ?_, ?_⟩
  · obtain ⟨k, hk⟩ := dd
    have hg' : (0 : Int) < g := by omega
    rw [hk, Int.mul_ediv_cancel_left _ (by omega)]
    rcases Int.lt_or_le 0 k with h | h
    · omega
    · have : (g : Int) * k ≤ 0 := Int.mul_nonpos_of_nonneg_of_nonpos (by omega) h
      omega
  · exact Int.ediv_le_self _ (by omega)
  · rw [en, ed, Nat.gcd_div (by rw [hg]; exact Nat.gcd_dvd_left _ _) (by rw [hg]; exact Nat.gcd_dvd_right _ _), ← hg, Nat.div_self g0]
theorem low_facts {n d : Int} (hd : d ≠ 0) : (lowN n d).natAbs ≤ n.natAbs ∧ 1 ≤ lowD n d ∧ lowD n d ≤ d.natAbs ∧ Nat.gcd (lowN n d).natAbs (lowD n d).natAbs = 1 := by
  unfold lowN lowD
  by_cases h : 0 < d
  · rw [if_pos h, if_pos h]
    have := low_core (n := n) (d := d) h rfl
    refine ⟨this.1, this.2.1, ?_, this.2.2.2⟩
    have := this.2.2.1
    omega
  · rw [if_neg h, if_neg h]
    have h' : 0 < -d := by omega
    have := low_core (n := -n) (d := -d) h' rfl
    simp only [Int.natAbs_neg] at this
    refine ⟨this.1, this.2.1, ?_, this.2.2.2⟩
    have := this.2.2.1
    omega
theorem cdivG {i : Int} {n d : Int} (hd : d ≠ 0) (hb : d.natAbs < 2 ^ 8000) : CDivB i ((Nat.gcd n.natAbs d.natAbs : Nat) : Int) := by
  have h1 : 0 < Nat.gcd n.natAbs d.natAbs := Nat.gcd_pos_of_pos_right _ (by omega)
  have h2 : Nat.gcd n.natAbs d.natAbs ≤ d.natAbs := Nat.gcd_le_right _ (by omega)
  have h3 : Nat.gcd n.natAbs d.natAbs < 2 ^ 8000 := Nat.lt_of_le_of_lt h2 hb
  refine ⟨by omega, ?_⟩
  exact_mod_cast h3
/-! ### _law_lowest -/
abbrev s_lowest : Stmt := top 22
def spLowest : Sp := fun vs H Q _ => ∃ (n d : Int), vs = [.int n, .int d] ∧ d ≠ 0 ∧ d.natAbs < 2 ^ 8000 ∧ ∀ p, H p = none → Q (.ref p) (upd H p (.tup [.int (lowN n d), .int (lowD n d)]))
theorem sc_lowest : FnScope ["_law_n", "_law_d", "_law_one", "_law_other"] ["_law_n", "_law_d"] (defScope s_lowest) := ⟨rfl, rfl, rfl, by decide +kernel, rfl, by decide +kernel, by decide +kernel⟩
theorem ok_lowest {f : Addr} {fd : FuncData} (F : Fun K "_law_lowest" "_law_lowest" s_lowest f fd) (T : Txt mg) : FnOk P w K mg base CX0 1 f fd ["_law_n", "_law_d"] spLowest := by
  refine F.okQ sc_lowest (fun vs H Q E h => ?_) (fun cdv A outer s H vs Q E hr h => ?_)
  · obtain ⟨n, d, rfl, _⟩ := h; rfl
  · obtain ⟨n, d, rfl, hd, hb, q⟩ := h
    refine ⟨_, (qb_cons (qs_par (i := 2) (j := 3) rfl sc_lowest.nd rfl rfl (by decide) rfl rfl (qc (qe_callBS call_absV rfl T.n_abs bt_abs (qc (qv 0) qa_nil)) (qc (qe_callBS call_absV rfl T.n_abs bt_abs (qc (qv 1) qa_nil)) qa_nil)) rfl)
  (qb_cons (qs_while PassesOwn.never (qt_cmpR op_gt (qv 3) qe_int (nomark _)) (qb_one (qs_par (i := 2) (j := 3) rfl sc_lowest.nd rfl rfl (by decide) rfl rfl (qc (qv 3) (qc (qe_op op_mod (qv 2) (qv 3)) qa_nil)) rfl)))
  (qb_one (qs_ret (qe_ifExp (qt_cmpR op_gt (qv 1) qe_int (nomark _)) (qe_tup (qc (qe_op op_fdivB (qv 0) (qv 2)) (qc (qe_op op_fdivB (qv 1) (qv 2)) qa_nil))) (qe_tup (qc (qe_op op_fdivB (qe_un un_neg (qv 0)) (qv 2)) (qc (qe_op op_fdivB (qe_un un_neg (qv 1)) (qv 2)) qa_nil)))))))), ?_⟩
    refine ⟨_, rfl, _, rfl, _, rfl, _, rfl, _, _, rfl, ?_⟩
    refine ⟨fun m σ H' => ∃ x y : Nat, σ = [some (.int n), some (.int d), some (.int x), some (.int y)] ∧ m = y ∧ Nat.gcd x y = Nat.gcd n.natAbs d.natAbs ∧ H' = H, ⟨_, _, _, rfl, rfl, rfl, rfl⟩, ?_⟩
    rintro m σ H' ⟨x, y, rfl, rfl, hg, rfl⟩
    refine ⟨_, rfl, _, _, rfl, rfl, _, rfl, ?_⟩
    refine itB (fun e => ?_) (fun e => ?_)
    · have hy : 0 < m := by
        have := of_decide_eq_true e
        omega
      refine ⟨fun σ' H'' => σ' = [some (.int n), some (.int d), some (.int (m : Int)), some (.int ((x % m : Nat) : Int))] ∧ H'' = H', fun σ' H'' ⟨e1, e2⟩ => ?_, ?_⟩
      · subst e1 e2
        exact ⟨x % m, Nat.mod_lt _ hy, m, x % m, rfl, rfl, by rw [gcd_step]; exact hg, rfl⟩
      · refine ⟨_, rfl, _, rfl, _, rfl, _, _, rfl, rfl, (by show (0 : Int) < (m : Int); omega), _, _, rfl, rfl, rfl⟩
    · have hy : m = 0 := by
        have := of_decide_eq_false e
        omega
      subst hy
      rw [Nat.gcd_zero_right] at hg
      subst hg
      refine ⟨_, rfl, _, _, rfl, rfl, _, rfl, ?_⟩
      refine itB (fun e => ?_) (fun e => ?_)
      · have hd' : 0 < d := of_decide_eq_true e
        refine ⟨_, rfl, _, rfl, _, _, rfl, rfl, cdivG hd hb, _, rfl, _, rfl, _, _, rfl, rfl, cdivG hd hb, (by show 2 ≤ sizeLine; decide), fun p hp => ?_⟩
        have := q p hp
        unfold lowN lowD at this
        rw [if_pos hd', if_pos hd'] at this
        exact this
      · have hd' : ¬ 0 < d := of_decide_eq_false e
        refine ⟨_, rfl, _, rfl, _, rfl, _, _, rfl, rfl, cdivG hd hb, _, rfl, _, rfl, _, rfl, _, _, rfl, rfl, cdivG hd hb, (by show 2 ≤ sizeLine; decide), fun p hp => ?_⟩
        have := q p hp
        unfold lowN lowD at this
        rw [if_neg hd', if_neg hd'] at this
        exact this
end
end My

set_option Elab.async false
set_option linter.all false
set_option maxRecDepth 100000
set_option maxHeartbeats 4000000
namespace My
open PySem L2 PyProof.Rows
section
variable {P : Program} {w : World} {K : PySem.W.Frag} {mg : Str → Option Value} {base : Heap}
/-! ### common_divisor -/
abbrev s_common_divisor : Stmt := top 1
def spCommon : Sp := fun vs H Q _ => ∃ (n d : Int), vs = [.int n, .int d] ∧ Q (.int ((Nat.gcd n.natAbs d.natAbs : Nat) : Int)) H
theorem sc_common_divisor : FnScope ["one", "other"] ["one", "other"] (defScope s_common_divisor) := ⟨rfl, rfl, rfl, by decide +kernel, rfl, by decide +kernel, by decide +kernel⟩
theorem ok_common_divisor {f : Addr} {fd : FuncData} (F : Fun K "common_divisor" "common_divisor" s_common_divisor f fd) (T : Txt mg) : FnOk P w K mg base CX0 1 f fd ["one", "other"] spCommon := by
  refine F.okQ sc_common_divisor (fun vs H Q E h => ?_) (fun cdv A outer s H vs Q E hr h => ?_)
  · obtain ⟨n, d, rfl, _⟩ := h; rfl
  · obtain ⟨n, d, rfl, q⟩ := h
    refine ⟨_, (qb_cons (qs_par (i := 0) (j := 1) rfl sc_common_divisor.nd rfl rfl (by decide) rfl rfl (qc (qe_callBS call_absV rfl T.n_abs bt_abs (qc (qv 0) qa_nil)) (qc (qe_callBS call_absV rfl T.n_abs bt_abs (qc (qv 1) qa_nil)) qa_nil)) rfl)
  (qb_cons (qs_while PassesOwn.never (qt_cmpR op_ne (qv 1) qe_int (nomark _)) (qb_one (qs_par (i := 0) (j := 1) rfl sc_common_divisor.nd rfl rfl (by decide) rfl rfl (qc (qv 1) (qc (qe_op op_mod (qv 0) (qv 1)) qa_nil)) rfl)))
  (qb_one (qs_ret (qv 0))))), ?_⟩
    refine ⟨_, rfl, _, rfl, _, rfl, _, rfl, _, _, rfl, ?_⟩
    refine ⟨fun m σ H' => ∃ x y : Nat, σ = [some (.int x), some (.int y)] ∧ m = y ∧ Nat.gcd x y = Nat.gcd n.natAbs d.natAbs ∧ H' = H, ⟨_, _, _, rfl, rfl, rfl, rfl⟩, ?_⟩
    rintro m σ H' ⟨x, y, rfl, rfl, hg, rfl⟩
    refine ⟨_, rfl, rfl, _, rfl, ?_⟩
    by_cases hy : m = 0
    · subst hy
      rw [Nat.gcd_zero_right] at hg
      subst hg
      refine iteNS rfl ?_
      exact ⟨_, rfl, q⟩
    · have e : decide ((V.int (m : Int)) = V.int 0) = false := by
        refine decide_eq_false fun z => hy ?_
        injection z with z
        omega
      show if (!decide ((V.int (m : Int)) = V.int 0)) = true then _ else _
      rw [e]
      refine iteT ?_
      refine ⟨fun σ' H'' => σ' = [some (.int (m : Int)), some (.int ((x % m : Nat) : Int))] ∧ H'' = H', fun σ' H'' ⟨e1, e2⟩ => ?_, ?_⟩
      · subst e1 e2
        exact ⟨x % m, Nat.mod_lt _ (by omega), m, x % m, rfl, rfl, by rw [gcd_step]; exact hg, rfl⟩
      · refine ⟨_, rfl, _, rfl, _, rfl, _, _, rfl, rfl, (by show (0 : Int) < (m : Int); omega), _, _, rfl, rfl, rfl⟩
end
end My

set_option Elab.async false
set_option linter.all false
set_option maxRecDepth 100000
set_option maxHeartbeats 4000000
namespace My
open PySem L2 PyProof.Rows
section
variable {P : Program} {w : World} {K : PySem.W.Frag} {mg : Str → Option Value} {base : Heap}
/-! ### _law_folded -/
theorem cut_take (xs : List V) (m : Nat) : cutV xs none (some (m : Int)) = xs.take m := by
  unfold cutV
  rw [HT.sIx_none, HT.sIx_nat, List.drop_zero, Nat.sub_zero]
  rcases Nat.le_total m xs.length with h | h
  · rw [Nat.min_eq_left h]
  · rw [Nat.min_eq_right h, List.take_of_length_le (Nat.le_refl _), List.take_of_length_le h]
theorem cut_sub {xs : List V} {lo hi : Option Int} {y : V} (h : y ∈ cutV xs lo hi) : y ∈ xs := by
  unfold cutV at h
  exact List.mem_of_mem_drop (List.mem_of_mem_take h)
theorem cut_len (xs : List V) (m k : Nat) : (cutV xs (some (m : Int)) (some (k : Int))).length ≤ xs.length - m := by
  unfold cutV
  rw [HT.sIx_nat, HT.sIx_nat, List.length_take, List.length_drop]
  omega
abbrev s_folded : Stmt := top 21
def spFolded (K : PySem.W.Frag) : Sp := fun vs H Q _ => ∃ (a : Addr) (ns : List Int) (m : Nat), vs = [.ref a, .int (m : Int)] ∧ SqL K H a (ns.map V.int) ∧ ns.length ≤ 63 ∧ 2 ≤ m ∧ m ≤ 63 ∧
  ∀ p (cs : List Int) H', H p = none → Same H H' → H' p = some (.lst (cs.map V.int)) → 2 ≤ cs.length → cs.length ≤ m → Q (.ref p) H'
theorem sc_folded : FnScope ["_law_script", "_law_many", "_law_cells", "_law_k", "_law_cell"] ["_law_script", "_law_many"] (defScope s_folded) := ⟨rfl, rfl, rfl, by decide +kernel, rfl, by decide +kernel, by decide +kernel⟩
theorem flat_zero (k : Nat) : (List.replicate k [V.int 0]).flatten = (List.replicate k (0 : Int)).map V.int := by
  induction k with
  | zero => rfl
  | succ n ih => rw [List.replicate_succ, List.flatten_cons, ih, List.replicate_succ, List.map_cons]; rfl
theorem sl1000 {n : Nat} (h : n ≤ 1000) : n ≤ sizeLine := Nat.le_of_lt (small1000 h)
theorem ok_folded {f : Addr} {fd : FuncData} (F : Fun K "_law_folded" "_law_folded" s_folded f fd) (T : Txt mg) : FnOk P w K mg base CX0 1 f fd ["_law_script", "_law_many"] (spFolded K) := by
  refine F.okQ sc_folded (fun vs H Q E h => ?_) (fun cdv A outer s H vs Q E hr h => ?_)
  · obtain ⟨a, ns, m, rfl, _⟩ := h; rfl
  · obtain ⟨a, ns, m, rfl, hS, hl, hm2, hm, q⟩ := h
    refine ⟨_, (qb_cons (qs_set (i := 2) sc_folded.nd rfl (Or.inl rfl) (qe_callTyS call_list_of rfl T.n_list bt_list (qc (qe_slice sl_list (qv 0) qo_none (qo_some (qv 1))) qa_nil)))
  (qb_cons (qs_for PassesOwn.never rfl (qi_enum rfl T.n_enumerate (qc (qe_slice sl_list (qv 0) (qo_some (qv 1)) (qo_some qe_int)) qa_nil)) (qg_tup rfl (qgs_cons (qg_name (i := 3) sc_folded.nd rfl (Or.inl rfl)) (qgs_cons (qg_name (i := 4) sc_folded.nd rfl (Or.inl rfl)) qgs_nil)))
    (qb_one (qs_asg (qe_op op_add (qe_ix ix_list (qv 2) (qe_op op_mod (qv 3) (qv 1)) (fun _ _ => rfl)) (qe_op op_mul (qv 4) (qe_op op_add (qv 3) qe_int))) (qg_sub (qv 2) (qe_op op_mod (qv 3) (qv 1)) set_list))))
  (qb_one (qs_ret (qe_op op_cat (qv 2) (qe_op op_rep (qe_lst (qc qe_int qa_nil)) (qe_op op_sub qe_int (qe_callBS call_len_seq rfl T.n_len bt_len (qc (qv 2) qa_nil))))))))), ?_⟩
    refine ⟨_, rfl, _, rfl, _, rfl, a, _, rfl, hS, fun s1 hs1 => ⟨s1, _, rfl, .inl (SqL.of upd_same), fun c hc => ?_⟩⟩
    rw [cut_take, ← List.map_take] at hc ⊢
    have sm1 : Same H (upd H s1 (.lst ((ns.take m).map V.int))) := Same.upd hs1
    have hcH : H c = none := sm1.free hc
    have sm2 : Same H (upd (upd H s1 (.lst ((ns.take m).map V.int))) c (.lst ((ns.take m).map V.int))) := sm1.trans (Same.upd hc)
    generalize hH2 : upd (upd H s1 (.lst ((ns.take m).map V.int))) c (.lst ((ns.take m).map V.int)) = H2 at sm2 ⊢
    have hc2 : H2 c = some (.lst ((ns.take m).map V.int)) := by rw [← hH2]; exact upd_same
    refine ⟨_, rfl, _, rfl, _, rfl, _, rfl, a, _, rfl, sm2.seq hS, fun s2 hs2 => ⟨s2, rfl, ⟨_, SqL.of upd_same⟩, ?_⟩⟩
    have sm3 : Same H2 (upd H2 s2 (.lst (cutV (ns.map V.int) (some (m : Int)) (some 63)))) := Same.upd hs2
    have nsc : s2 ≠ c := fun z => by rw [z, hc2] at hs2; cases hs2
    refine for_enum (K := K) (a := s2) (xs := cutV (ns.map V.int) (some (m : Int)) (some 63))
      (fun i σ H3 => ∃ (cs : List Int) (v3 v4 : Option V), σ = [some (.ref a), some (.int (m : Int)), some (.ref c), v3, v4] ∧ H3 c = some (.lst (cs.map V.int)) ∧ cs.length = (ns.take m).length ∧ Same H H3 ∧ H3 s2 = some (.lst (cutV (ns.map V.int) (some (m : Int)) (some 63))))
      ⟨_, none, none, rfl, sm3 _ _ hc2, rfl, sm2.trans sm3, upd_same⟩ (fun i σ H3 _ ⟨_, _, _, _, _, _, _, h⟩ => SqL.of h) ?_ ?_
    · rintro i x p σ H3 hi hp ⟨cs, v3, v4, rfl, h3, hl3, sm, hs2'⟩
      obtain ⟨z, hz⟩ : ∃ z, x = V.int z := by
        have := cut_sub (List.mem_of_getElem? hi)
        obtain ⟨z, _, e⟩ := List.mem_map.mp this
        exact ⟨z, e.symm⟩
      subst hz
      have hilt : i < ns.length - m := by
        have h1 := (List.getElem?_eq_some_iff.mp hi).1
        have h2 := cut_len (ns.map V.int) m 63
        rw [List.length_map] at h2
        exact Nat.lt_of_lt_of_le h1 h2
      have hcl : cs.length = m := by rw [hl3, List.length_take]; omega
      have npc : c ≠ p := ne_of_none h3 hp
      have nps : s2 ≠ p := ne_of_none hs2' hp
      have h3' : (upd H3 p (.tup [.int (i : Int), .int z])) c = some (.lst (cs.map V.int)) := by rw [upd_ne npc]; exact h3
      have em : ((i : Int) % (m : Int)) = ((i % m : Nat) : Int) := rfl
      have hj : i % m < cs.length := by rw [hcl]; exact Nat.mod_lt _ (by omega)
      have hat : atI (cs.map V.int) ((i : Int) % (m : Int)) = some (V.int cs[i % m]) := by
        rw [em]; exact atI_nat (by rw [List.getElem?_map, List.getElem?_eq_getElem hj]; rfl)
      have hix : ixN (cs.map V.int).length ((i : Int) % (m : Int)) = some (i % m) := by
        rw [em]
        unfold ixN
        rw [if_pos (by omega), if_pos (by rw [List.length_map]; omega), Int.toNat_natCast]
      have hmp : (fun (_ j : Int) => 0 < j) (i : Int) (m : Int) := by show (0 : Int) < (m : Int); omega
      refine ⟨p, _, rfl, SqT.of upd_same, rfl, _, _, rfl, _, _, rfl, rfl, ?_⟩
      refine ⟨_, rfl, _, rfl, _, rfl, _, _, rfl, rfl, hmp, c, _, _, _, rfl, rfl, SqL.of h3', hat, _, rfl, _, rfl, _, _, rfl, rfl, _, _, rfl, rfl, .inr (by omega), _, _, rfl, rfl, _, rfl, _, rfl, _, rfl, _, _, rfl, rfl, hmp, c, _, _, _, rfl, rfl, h3', hix, ?_⟩
      refine ⟨cs.set (i % m) (cs[i % m] + z * ((i : Int) + 2)), _, _, rfl, ?_, by rw [List.length_set]; exact hl3, fun b o e => ?_, ?_⟩
      · rw [upd_same, List.map_set]
      · rw [upd_ne (ne_of_none e hcH), upd_ne (ne_of_none (sm _ _ e) hp)]; exact sm _ _ e
      · rw [upd_ne nsc, upd_ne nps]; exact hs2'
    · rintro σ H3 ⟨cs, v3, v4, rfl, h3, hl3, sm, hs2'⟩
      have hcm : cs.length ≤ m := by rw [hl3, List.length_take]; omega
      refine ⟨_, rfl, (by show 1 ≤ sizeLine; decide), fun z hz => ⟨_, rfl, c, _, rfl, .inl (SqL.of ((Same.upd hz) _ _ h3)), _, _, rfl, rfl, z, _, _, rfl, rfl, upd_same, ?_, ?_, ?_, fun r hr' => ⟨c, r, _, _, rfl, rfl, (Same.upd hr') _ _ ((Same.upd hz) _ _ h3), upd_same, ?_, fun p hp => ?_⟩⟩⟩
      · show -(2 ^ 63 : Int) ≤ 2 - ((cs.map V.int).length : Int); rw [List.length_map]; omega
      · show 2 - ((cs.map V.int).length : Int) < 2 ^ 63; rw [List.length_map]; omega
      · show 1 * (2 - ((cs.map V.int).length : Int)).toNat ≤ sizeLine
        rw [List.length_map]; exact sl1000 (by omega)
      · show (cs.map V.int).length + (List.replicate (2 - ((cs.map V.int).length : Int)).toNat [V.int 0]).flatten.length ≤ sizeLine
        rw [flat_zero, List.length_map, List.length_map, List.length_replicate]; exact sl1000 (by omega)
      · have sm4 : Same H (upd (upd H3 z (.lst [V.int 0])) r (.lst (List.replicate (2 - ((cs.map V.int).length : Int)).toNat [V.int 0]).flatten)) := (sm.trans (Same.upd hz)).trans (Same.upd hr')
        refine q p (cs ++ List.replicate (2 - (cs.length : Int)).toNat 0) _ (sm4.free hp) (sm4.trans (Same.upd hp)) ?_ ?_ ?_
        · rw [upd_same, List.map_append, flat_zero, List.length_map]
        · rw [List.length_append, List.length_replicate]; omega
        · rw [List.length_append, List.length_replicate]; omega
end
end My

set_option Elab.async false
set_option linter.all false
set_option maxRecDepth 100000
set_option maxHeartbeats 4000000
namespace My
open PySem L2 PyProof.Rows
section
variable {P : Program} {w : World} {K : PySem.W.Frag} {mg : Str → Option Value} {base : Heap}
/-! ### _law_fraction_by -/
theorem at_in {xs : List V} {j : Int} (h0 : 0 ≤ j) (h1 : j < (xs.length : Int)) : ∃ v, v ∈ xs ∧ atI xs j = some v := by
  have hj : j.toNat < xs.length := by omega
  refine ⟨xs[j.toNat], List.getElem_mem hj, ?_⟩
  have e : j = ((j.toNat : Nat) : Int) := by omega
  have z := atI_nat (xs := xs) (j := j.toNat) (v := xs[j.toNat]) (List.getElem?_eq_getElem hj)
  rw [← e] at z
  exact z
theorem at_two {x y : V} {j : Int} (h0 : 0 ≤ j) (h1 : j < 2) : ∃ v, (v = x ∨ v = y) ∧ atI [x, y] j = some v := by
  obtain ⟨v, hv, e⟩ := at_in (xs := [x, y]) h0 h1
  refine ⟨v, ?_, e⟩
  simpa using hv
abbrev s_fraction_by : Stmt := top 26
/-- a fraction stands at t -/
def FracAt (H : Hp) (t : Addr) (a b : Int) : Prop := H t = some (.tup [.int a, .int b])
structure Small (a b : Int) : Prop where
  n : a.natAbs ≤ 9999
  d0 : 1 ≤ b
  d : b ≤ 999
  g : Nat.gcd a.natAbs b.natAbs = 1
def spFractionBy : Sp := fun vs H Q _ => ∃ (p : Addr) (n : Int), vs = [.ref p] ∧ Box H p n ∧ n ≤ 900000 ∧ ∀ t a b H', H t = none → Ext p H H' → Box H' p (n + 5) → H' t = some (.tup [.int a, .int b]) → Small a b → Q (.ref t) H'
theorem sc_fraction_by : FnScope ["_law_box", "_law_way", "_law_hand"] ["_law_box"] (defScope s_fraction_by) := ⟨rfl, rfl, rfl, by decide +kernel, rfl, by decide +kernel, by decide +kernel⟩
theorem small8 {d : Int} (h : d.natAbs < 1073741824) : d.natAbs < 2 ^ 8000 := Nat.lt_of_lt_of_le h (by
  have : (2 : Nat) ^ 30 ≤ 2 ^ 8000 := Nat.pow_le_pow_right (by decide) (by decide)
  exact Nat.le_trans (by decide) this)
theorem Ext.free {p : Addr} {H H' : Hp} {t : Addr} (e : Ext p H H') (n : p ≠ t) (h : H' t = none) : H t = none := by
  cases q : H t with
  | none => rfl
  | some o => rw [e t o q (Ne.symm n)] at h; cases h
theorem Box.ne {H : Hp} {p t : Addr} {n : Int} (b : Box H p n) (h : H t = none) : p ≠ t := by
  obtain ⟨_, _, _, h1, _⟩ := b
  exact ne_of_none h1 h
theorem hand2 {r : Int} (h0 : 0 ≤ r) (h1 : r < 2) : 1 - 2 * r = 1 ∨ 1 - 2 * r = -1 := by omega
theorem hand_mul {h x : Int} (hh : h = 1 ∨ h = -1) : (h * x).natAbs = x.natAbs := by
  rcases hh with rfl | rfl
  · rw [Int.one_mul]
  · rw [Int.neg_one_mul, Int.natAbs_neg]
theorem ok_fraction_by {f : Addr} {fd : FuncData} (F : Fun K "_law_fraction_by" "_law_fraction_by" s_fraction_by f fd) (T : Txt mg)
    (g_take : Fn P w K mg base 1 "_law_take" ["_law_box", "_law_many"] spTake) (g_lowest : Fn P w K mg base 1 "_law_lowest" ["_law_n", "_law_d"] spLowest) : FnOk P w K mg base CX0 2 f fd ["_law_box"] spFractionBy := by
  refine F.okQ sc_fraction_by (fun vs H Q E h => ?_) (fun cdv A outer s H vs Q E hr h => ?_)
  · obtain ⟨p, n, rfl, _⟩ := h; rfl
  · obtain ⟨p, n, rfl, hB, hn, q⟩ := h
    refine ⟨_, (qb_cons (qs_par (i := 1) (j := 2) rfl sc_fraction_by.nd rfl rfl (by decide) rfl rfl (qc (qe_fnS g_take hr (by omega) rfl (qc (qv 0) (qc qe_int qa_nil))) (qc (qe_op op_sub qe_int (qe_op op_mul qe_int (qe_fnS g_take hr (by omega) rfl (qc (qv 0) (qc qe_int qa_nil))))) qa_nil)) rfl)
  (qb_cons (qs_if (qt_cmpR op_lt (qv 1) qe_int (nomark _)) (qb_one (qs_ret (qe_tup (qc (qe_op op_mul (qe_op op_mul (qv 2) (qe_fnS g_take hr (by omega) rfl (qc (qv 0) (qc qe_int qa_nil)))) (qv 1)) (qc qe_int qa_nil))))) qb_nil)
  (qb_cons (qs_if (qt_cmpR op_eq (qv 1) qe_int (nomark _)) (qb_one (qs_ret (qe_fnS g_lowest hr (by omega) rfl (qc (qe_op op_mul (qv 2) (qe_fnS g_take hr (by omega) rfl (qc (qv 0) (qc qe_int qa_nil)))) (qc (qe_op op_add qe_int (qe_fnS g_take hr (by omega) rfl (qc (qv 0) (qc qe_int qa_nil)))) qa_nil))))) qb_nil)
  (qb_cons (qs_if (qt_cmpR op_eq (qv 1) qe_int (nomark _)) (qb_one (qs_ret (qe_fnS g_lowest hr (by omega) rfl (qc (qe_op op_mul (qv 2) qe_int) (qc (qe_op op_sub qe_int (qe_fnS g_take hr (by omega) rfl (qc (qv 0) (qc qe_int qa_nil)))) qa_nil))))) qb_nil)
  (qb_one (qs_ret (qe_fnS g_lowest hr (by omega) rfl (qc (qe_op op_mul (qv 2) (qe_fnS g_take hr (by omega) rfl (qc (qv 0) (qc qe_int qa_nil)))) (qc (qe_op op_add qe_int (qe_fnS g_take hr (by omega) rfl (qc (qv 0) (qc (qe_ix ix_list (qe_lst (qc qe_int (qc qe_int qa_nil))) (qe_op op_sub (qv 1) qe_int) (fun _ _ => rfl)) qa_nil)))) qa_nil))))))))), ?_⟩
    refine ⟨_, rfl, p, 6, n, rfl, hB, by omega, by decide, by decide, fun way H1 w0 w1 e1 b1 => ?_⟩
    refine ⟨_, rfl, p, 2, n + 1, rfl, b1, by omega, by decide, by decide, fun r2 H2 r0 r1 e2 b2 => ?_⟩
    refine ⟨_, _, rfl, rfl, .inl (by decide), _, _, rfl, rfl, _, _, rfl, ?_⟩
    have hh := hand2 r0 r1
    have hhb : -(2 ^ 64) < 1 - 2 * r2 ∧ 1 - 2 * r2 < 2 ^ 64 := by omega
    have e12 := e1.trans e2
    have fin : ∀ (H3 : Hp) (t : Addr) (a b : Int), Ext p H2 H3 → Box H3 p (n + 5) → H3 t = none → Small a b → Q (.ref t) (upd H3 t (.tup [.int a, .int b])) := fun H3 t a b e b3 ht sm =>
      q t a b _ ((e12.trans e).free (b3.ne ht) ht) ((e12.trans e).trans (Ext.of (Same.upd ht))) (b3.same (Same.upd ht)) upd_same sm
    have low : ∀ (H3 : Hp) (a b : Int), Ext p H2 H3 → Box H3 p (n + 5) → a.natAbs ≤ 9999 → 1 ≤ b → b ≤ 999 → ∀ t, H3 t = none → Q (.ref t) (upd H3 t (.tup [.int (lowN a b), .int (lowD a b)])) := fun H3 a b e b3 h1 h2 h3 t ht => by
      have lf := low_facts (n := a) (d := b) (by omega)
      exact fin H3 t _ _ e b3 ht ⟨by omega, lf.2.1, by omega, lf.2.2.2⟩
    refine ⟨_, rfl, _, _, rfl, rfl, _, rfl, itB (fun e => ?_) (fun e => ?_)⟩
    · have hw : way < 2 := of_decide_eq_true e
      refine ⟨_, rfl, _, rfl, p, 12, n + 2, rfl, b2.mono (by omega), by omega, by decide, by decide, fun r3 H3 r0' r1' e3 b3 => ?_⟩
      refine ⟨_, _, rfl, rfl, .inl hhb, _, rfl, _, _, rfl, rfl, .inr (by omega), (by show 2 ≤ sizeLine; decide), fun t ht => ?_⟩
      refine fin H3 t _ _ e3 (b3.mono (by omega)) ht ?_
      have hx : ((1 - 2 * r2) * r3 * way).natAbs ≤ 11 := by
        rw [Int.natAbs_mul, hand_mul hh]
        have h1 : r3.natAbs ≤ 11 := by omega
        have h2 : way.natAbs ≤ 1 := by omega
        exact Nat.mul_le_mul h1 h2
      exact ⟨Nat.le_trans hx (by decide), by decide, by decide, by simp⟩
    · have hw : ¬ way < 2 := of_decide_eq_false e
      refine ⟨_, rfl, rfl, _, rfl, itB (fun e => ?_) (fun e => ?_)⟩
      · refine ⟨_, rfl, _, rfl, p, 20, n + 2, rfl, b2.mono (by omega), by omega, by decide, by decide, fun r3 H3 r0' r1' e3 b3 => ?_⟩
        refine ⟨_, _, rfl, rfl, .inl hhb, _, rfl, p, 12, n + 3, rfl, b3.mono (by omega), by omega, by decide, by decide, fun r4 H4 r0'' r1'' e4 b4 => ?_⟩
        refine ⟨_, _, rfl, rfl, _, _, rfl, by omega, small8 (by omega), ?_⟩
        exact low H4 _ _ (e3.trans e4) (b4.mono (by omega)) (by rw [hand_mul hh]; omega) (by omega) (by omega)
      · have hw2 : way ≠ 2 := fun z => by subst z; simp at e
        refine ⟨_, rfl, rfl, _, rfl, itB (fun e => ?_) (fun e => ?_)⟩
        · refine ⟨_, rfl, _, _, rfl, rfl, .inl hhb, _, rfl, p, 3, n + 2, rfl, b2.mono (by omega), by omega, by decide, by decide, fun r3 H3 r0' r1' e3 b3 => ?_⟩
          refine ⟨_, _, rfl, rfl, _, _, rfl, by omega, small8 (by omega), ?_⟩
          exact low H3 _ _ e3 (b3.mono (by omega)) (by rw [hand_mul hh]; decide) (by omega) (by omega)
        · have hw3 : way ≠ 3 := fun z => by subst z; simp at e
          refine ⟨_, rfl, _, rfl, p, 10000, n + 2, rfl, b2.mono (by omega), by omega, by decide, by decide, fun r3 H3 r0' r1' e3 b3 => ?_⟩
          refine ⟨_, _, rfl, rfl, .inl hhb, _, rfl, (by show 2 ≤ sizeLine; decide), fun z hz => ⟨_, rfl, _, _, rfl, rfl, ?_⟩⟩
          obtain ⟨m, hm, hmm⟩ : ∃ m : Int, atI [V.int 65, V.int 999] (way - 4) = some (V.int m) ∧ (m = 65 ∨ m = 999) := by
            have : way = 4 ∨ way = 5 := by omega
            rcases this with rfl | rfl
            · exact ⟨65, at0, .inl rfl⟩
            · exact ⟨999, at1, .inr rfl⟩
          refine ⟨z, _, _, _, rfl, rfl, SqL.of upd_same, hm, ?_⟩
          refine ⟨p, m, n + 3, rfl, (b3.same (Same.upd hz)).mono (by omega), by omega, by omega, by omega, fun r4 H4 r0'' r1'' e4 b4 => ?_⟩
          refine ⟨_, _, rfl, rfl, _, _, rfl, by omega, small8 (by omega), ?_⟩
          exact low H4 _ _ ((e3.trans (Ext.of (Same.upd hz))).trans e4) (b4.mono (by omega)) (by rw [hand_mul hh]; omega) (by omega) (by omega)
end
end My

set_option Elab.async false
set_option linter.all false
set_option maxRecDepth 100000
set_option maxHeartbeats 4000000
namespace My
open PySem L2 PyProof.Rows
section
variable {P : Program} {w : World} {K : PySem.W.Frag} {mg : Str → Option Value} {base : Heap}
/-! ### _law_like, where both are alike -/
def Sc : V → Prop
  | .int _ => True
  | .bl _ => True
  | .non => True
  | .str _ => True
  | _ => False
def Alike (H : Hp) : Nat → V → V → Prop
  | 0, x, y => x = y ∧ Sc x
  | n + 1, x, y => (x = y ∧ Sc x) ∨ ∃ κ a b xs ys, x = .ref a ∧ y = .ref b ∧ H a = some (Ob κ xs) ∧ H b = some (Ob κ ys) ∧ xs.length = ys.length ∧ xs.length ≤ 1000 ∧ ∀ (i : Nat) u v, xs[i]? = some u → ys[i]? = some v → Alike H n u v
theorem Alike.mono {H H' : Hp} (s : Same H H') : ∀ {n : Nat} {x y : V}, Alike H n x y → Alike H' n x y
  | 0, _, _, h => h
  | n + 1, _, _, h => by
    rcases h with h | ⟨κ, a, b, xs, ys, h1, h2, h3, h4, h5, h6, h7⟩
    · exact .inl h
    · exact .inr ⟨κ, a, b, xs, ys, h1, h2, s _ _ h3, s _ _ h4, h5, h6, fun i u v hu hv => Alike.mono s (h7 i u v hu hv)⟩
theorem Alike.sc {H : Hp} : ∀ {n : Nat} {x : V}, Sc x → Alike H n x x
  | 0, _, h => ⟨rfl, h⟩
  | _ + 1, _, h => .inl ⟨rfl, h⟩
theorem Alike.up {H : Hp} : ∀ {n : Nat} {x y : V}, Alike H n x y → Alike H (n + 1) x y
  | 0, _, _, h => .inl h
  | n + 1, _, _, h => by
    rcases h with h | ⟨κ, a, b, xs, ys, h1, h2, h3, h4, h5, h6, h7⟩
    · exact .inl h
    · exact .inr ⟨κ, a, b, xs, ys, h1, h2, h3, h4, h5, h6, fun i u v hu hv => (h7 i u v hu hv).up⟩
theorem ob_kd {H : Hp} {κ : Bool} {a : Addr} {xs : List V} (h : H a = some (Ob κ xs)) : Kd K H (.ref a) (if κ then "tuple" else "list") := by
  cases κ
  · exact .lst (SqL.of h)
  · exact .tup (SqT.of h)
theorem ob_len {H : Hp} {κ : Bool} {a : Addr} {xs : List V} (h : H a = some (Ob κ xs)) : SqL K H a xs ∨ SqT K H a xs := by
  cases κ
  · exact .inl (SqL.of h)
  · exact .inr (SqT.of h)
theorem sameKd {H H' : Hp} {x : V} {k : String} (s : Same H H') (h : Kd K H x k) : Kd K H' x k := by
  cases h with
  | non => exact .non
  | bl b => exact .bl b
  | int i => exact .int i
  | str z => exact .str z
  | tup hq =>
    rcases hq with (hq | ⟨o, hq⟩) | hq
    · exact .tup (.inl (.inl (s _ _ hq)))
    · exact .tup (.inl (.inr ⟨o, s _ _ hq⟩))
    · exact .tup (.inr hq)
  | lst hq =>
    rcases hq with (hq | ⟨o, hq⟩) | hq
    · exact .lst (.inl (.inl (s _ _ hq)))
    · exact .lst (.inl (.inr ⟨o, s _ _ hq⟩))
    · exact .lst (.inr hq)
abbrev s_like : Stmt := top 28
def spLike (n : Nat) : Sp := fun vs H Q _ => ∃ (x y : V), vs = [x, y] ∧ Alike H n x y ∧ ∀ H', Same H H' → Q (.bl true) H'
def spLikeN : Nat → Sp
  | 0 => fun _ _ _ _ => False
  | n + 1 => spLike n
theorem sc_like : FnScope ["_law_found", "_law_due"] ["_law_found", "_law_due"] (defScope s_like) := ⟨rfl, rfl, rfl, by decide +kernel, rfl, by decide +kernel, by decide +kernel⟩
theorem ok_like1 {f : Addr} {fd : FuncData} {n : Nat} (F : Fun K "_law_like" "_law_like" s_like f fd) (T : Txt mg) (g_like : Fn P w K mg base n "_law_like" ["_law_found", "_law_due"] (spLikeN n)) : FnOk P w K mg base CX0 (n + 1) f fd ["_law_found", "_law_due"] (spLike n) := by
  refine F.okQ sc_like (fun vs H Q E h => ?_) (fun cdv A outer s H vs Q E hr h => ?_)
  · obtain ⟨x, y, rfl, _⟩ := h; rfl
  · obtain ⟨x, y, rfl, hA, q⟩ := h
    refine ⟨_, (qb_cons (qs_if (qt_val (qe_isi2 rfl T.n_isinstance (qv 1) rfl T.n_list bt_list rfl T.n_tuple bt_tuple) (by intro _; rfl)) (qb_cons (qs_if (qt_w (qw_or (qt_cmpR op_ne (qe_callBS call_isi rfl T.n_isinstance bt_isinstance (qc (qv 0) (qc (qe_bltn (v := .ty "list") rfl T.n_list bt_list rfl) qa_nil))) (qe_callBS call_isi rfl T.n_isinstance bt_isinstance (qc (qv 1) (qc (qe_bltn (v := .ty "list") rfl T.n_list bt_list rfl) qa_nil))) (nomark _)) (qw_or1 (qt_cmpR op_ne (qe_callBS call_isi rfl T.n_isinstance bt_isinstance (qc (qv 0) (qc (qe_bltn (v := .ty "tuple") rfl T.n_tuple bt_tuple rfl) qa_nil))) (qe_callBS call_isi rfl T.n_isinstance bt_isinstance (qc (qv 1) (qc (qe_bltn (v := .ty "tuple") rfl T.n_tuple bt_tuple rfl) qa_nil))) (nomark _))))) (qb_one (qs_ret qe_bl)) qb_nil)
  (qb_one (qs_ret (qe_and (qe_cmpR op_eq (qe_callBS call_len_seq rfl T.n_len bt_len (qc (qv 0) qa_nil)) (qe_callBS call_len_seq rfl T.n_len bt_len (qc (qv 1) qa_nil)) (nomark _)) (qe_one (qe_callBS (call_allB rfl) rfl T.n_all bt_all (qc (qe_comp (N' := ["_law_one", "_law_other"]) (t := 2) (cap := []) rfl (CompOk.of rfl) (qi_zip rfl T.n_zip (qc (qv 0) (qc (qv 1) qa_nil))) (fun _ _ _ _ => (qg_tupK (K := K) (n := 2) rfl rfl (qgs_cons (qg_name (i := 0) (show List.Nodup (["_law_one", "_law_other"] : List Str) by decide +kernel) rfl (Or.inl rfl) (Or.inr rfl)) (qgs_cons (qg_name (i := 1) (show List.Nodup (["_law_one", "_law_other"] : List Str) by decide +kernel) rfl (Or.inl rfl) (Or.inr rfl)) qgs_nil)))) (fun _ _ _ _ => (qe_fnS g_like hr (by omega) rfl (qc (qv 0) (qc (qv 1) qa_nil))))) qa_nil))))))) qb_nil)
  (qb_cons (qs_if (qt_w (qw_or (qt_cmpR op_isN (qv 1) qe_non (nomark _)) (qw_or1 (qt_val (qe_callBS call_isi rfl T.n_isinstance bt_isinstance (qc (qv 1) (qc (qe_bltn (v := .ty "str") rfl T.n_str bt_str rfl) qa_nil))) (by intro _; rfl))))) (qb_one (qs_ret (qe_and (qe_cmpR op_eq (qv 0) (qv 1) (nomark _)) (qe_one (qe_cmpR op_eq (qe_callBS call_isi rfl T.n_isinstance bt_isinstance (qc (qv 0) (qc (qe_bltn (v := .ty "str") rfl T.n_str bt_str rfl) qa_nil))) (qe_callBS call_isi rfl T.n_isinstance bt_isinstance (qc (qv 1) (qc (qe_bltn (v := .ty "str") rfl T.n_str bt_str rfl) qa_nil))) (nomark _)))))) qb_nil)
  (qb_cons (qs_if (qt_val (qe_callBS call_isi rfl T.n_isinstance bt_isinstance (qc (qv 1) (qc (qe_bltn (v := .ty "bool") rfl T.n_bool bt_bool rfl) qa_nil))) (by intro _; rfl)) (qb_one (qs_ret (qe_and (qe_callBS call_isi rfl T.n_isinstance bt_isinstance (qc (qv 0) (qc (qe_bltn (v := .ty "bool") rfl T.n_bool bt_bool rfl) qa_nil))) (qe_one (qe_cmpR op_eq (qv 0) (qv 1) (nomark _)))))) qb_nil)
  (qb_one (qs_ret (qe_and (qe_callBS call_isi rfl T.n_isinstance bt_isinstance (qc (qv 0) (qc (qe_bltn (v := .ty "int") rfl T.n_int bt_int rfl) qa_nil))) (qe_and (qe_not (qe_callBS call_isi rfl T.n_isinstance bt_isinstance (qc (qv 0) (qc (qe_bltn (v := .ty "bool") rfl T.n_bool bt_bool rfl) qa_nil)))) (qe_one (qe_cmpR op_eq (qv 0) (qv 1) (nomark _)))))))))), ?_⟩
    have cs : (x = y ∧ Sc x) ∨ ∃ m, n = m + 1 ∧ ∃ κ a b xs ys, x = .ref a ∧ y = .ref b ∧ H a = some (Ob κ xs) ∧ H b = some (Ob κ ys) ∧ xs.length = ys.length ∧ xs.length ≤ 1000 ∧ ∀ (i : Nat) u v, xs[i]? = some u → ys[i]? = some v → Alike H m u v := by
      cases n with
      | zero => exact .inl hA
      | succ m =>
        rcases hA with h | h
        · exact .inl h
        · exact .inr ⟨m, rfl, h⟩
    rcases cs with ⟨rfl, hs⟩ | ⟨m, rfl, κ, a, b, xs, ys, rfl, rfl, ha, hb, hl, hl2, hall⟩
    · cases x with
      | int i =>
        refine ⟨_, rfl, "int", .int i, by decide, by decide, fun p hp => ⟨_, rfl, iteF ?_⟩⟩
        refine ⟨_, rfl, rfl, _, rfl, ?_⟩
        rw [decide_eq_false (show ¬ V.int i = V.non from fun z => by cases z)]
        refine iteF ⟨_, rfl, _, _, _, rfl, .int i, by decide, _, rfl, iteF ?_⟩
        refine ⟨_, rfl, _, _, _, rfl, .int i, by decide, _, rfl, iteF ?_⟩
        refine ⟨_, rfl, _, _, _, rfl, .int i, by decide, _, rfl, iteT ?_⟩
        refine ⟨_, rfl, _, _, _, rfl, .int i, by decide, _, rfl, _, rfl, iteT ?_⟩
        refine ⟨_, rfl, _, rfl, rfl, ?_⟩
        rw [decide_eq_true rfl]
        exact q _ (Same.upd hp)
      | bl c =>
        refine ⟨_, rfl, "bool", .bl c, by decide, by decide, fun p hp => ⟨_, rfl, iteF ?_⟩⟩
        refine ⟨_, rfl, rfl, _, rfl, ?_⟩
        rw [decide_eq_false (show ¬ V.bl c = V.non from fun z => by cases z)]
        refine iteF ⟨_, rfl, _, _, _, rfl, .bl c, by decide, _, rfl, iteF ?_⟩
        refine ⟨_, rfl, _, _, _, rfl, .bl c, by decide, _, rfl, iteT ?_⟩
        refine ⟨_, rfl, _, _, _, rfl, .bl c, by decide, _, rfl, iteT ?_⟩
        refine ⟨_, rfl, _, rfl, rfl, ?_⟩
        rw [decide_eq_true rfl]
        exact q _ (Same.upd hp)
      | non =>
        refine ⟨_, rfl, "NoneType", .non, by decide, by decide, fun p hp => ⟨_, rfl, iteF ?_⟩⟩
        refine ⟨_, rfl, rfl, _, rfl, ?_⟩
        rw [decide_eq_true rfl]
        refine iteT (iteT ⟨_, rfl, _, rfl, rfl, _, rfl, ?_⟩)
        rw [decide_eq_true rfl]
        refine iteT ⟨_, rfl, _, _, _, rfl, .non, by decide, _, rfl, _, _, _, rfl, .non, by decide, rfl, ?_⟩
        rw [decide_eq_true rfl]
        exact q _ (Same.upd hp)
      | str z =>
        refine ⟨_, rfl, "str", .str z, by decide, by decide, fun p hp => ⟨_, rfl, iteF ?_⟩⟩
        refine ⟨_, rfl, rfl, _, rfl, ?_⟩
        rw [decide_eq_false (show ¬ V.str z = V.non from fun z => by cases z)]
        refine iteF ⟨_, rfl, _, _, _, rfl, .str z, by decide, _, rfl, iteT ?_⟩
        refine ⟨_, rfl, _, rfl, rfl, _, rfl, ?_⟩
        rw [decide_eq_true rfl]
        refine iteT ⟨_, rfl, _, _, _, rfl, .str z, by decide, _, rfl, _, _, _, rfl, .str z, by decide, rfl, ?_⟩
        rw [decide_eq_true rfl]
        exact q _ (Same.upd hp)
      | byt _ => exact hs.elim
      | flt _ => exact hs.elim
      | ref _ => exact hs.elim
      | ty _ => exact hs.elim
    · have ka : Kd K H (.ref a) (if κ then "tuple" else "list") := ob_kd ha
      have kb : Kd K H (.ref b) (if κ then "tuple" else "list") := ob_kd hb
      refine ⟨_, rfl, _, kb, by decide, by decide, fun p hp => ⟨_, rfl, ?_⟩⟩
      have e1 : (isi (if κ then "tuple" else "list") "list" || isi (if κ then "tuple" else "list") "tuple") = true := by cases κ <;> decide
      rw [e1]
      have sp : Same H (upd H p (.tup [.ty "list", .ty "tuple"])) := Same.upd hp
      generalize upd H p (.tup [.ty "list", .ty "tuple"]) = H1 at sp ⊢
      have ka1 := sameKd sp ka
      have kb1 := sameKd sp kb
      have ha1 := sp _ _ ha
      have hb1 := sp _ _ hb
      refine iteT ⟨_, rfl, _, _, _, rfl, ka1, by decide, _, rfl, _, _, _, rfl, kb1, by decide, rfl, _, rfl, iteNS rfl ?_⟩
      refine ⟨_, rfl, _, _, _, rfl, ka1, by decide, _, rfl, _, _, _, rfl, kb1, by decide, rfl, _, rfl, iteNS rfl ?_⟩
      refine ⟨_, rfl, a, _, rfl, ob_len ha1, _, rfl, b, _, rfl, ob_len hb1, rfl, _, rfl, ?_⟩
      rw [decide_eq_true (show V.int (xs.length : Int) = V.int (ys.length : Int) by rw [hl])]
      refine iteT ?_
      refine ⟨_, rfl, _, rfl, κ, a, b, xs, ys, rfl, ha1, hb1, fun D hD => ?_⟩
      refine comp_zip (κ := κ) (a := a) (b := b) (xs := xs) (ys := ys) (D := D) hl (fun i σ' H' => (∃ v1 v2, σ' = [v1, v2]) ∧ Same H1 H' ∧ H' D = some (.lst ((List.replicate i true).map V.bl))) ⟨⟨none, none, rfl⟩, Same.upd hD, upd_same⟩ ?_ ?_ ?_
      · rintro i σ' H' _ ⟨_, s', _⟩
        exact ⟨s' _ _ ha1, s' _ _ hb1⟩
      · rintro i u v p2 σ' H' hu hv hp2 ⟨⟨v1, v2, rfl⟩, s', hD'⟩
        have hi : i < xs.length := (List.getElem?_eq_some_iff.mp hu).1
        have s2 : Same H1 (upd H' p2 (.tup [u, v])) := s'.trans (Same.upd hp2)
        refine ⟨p2, _, rfl, SqT.of upd_same, rfl, _, _, rfl, _, _, rfl, rfl, ?_⟩
        refine ⟨_, rfl, _, rfl, u, v, rfl, (hall i u v hu hv).mono (sp.trans s2), fun H5 s5 => ?_⟩
        have hD5 := s5 _ _ ((Same.upd hp2) _ _ hD')
        refine ⟨_, hD5, ?_, _, ?_, rfl, hi, ⟨_, _, rfl⟩, fun c o e => ?_, ?_⟩
        · rw [List.length_map, List.length_replicate]; exact small1000 (by omega)
        · omega
        · rw [upd_ne (ne_of_none e hD)]
          exact s5 _ _ (s2 _ _ e)
        · rw [upd_same, List.replicate_succ', List.map_append]; rfl
      · rintro σ' H' ⟨_, s', hD'⟩
        refine ⟨D, _, rfl, SqL.of hD', ?_⟩
        have e2 : (List.replicate xs.length true).all id = true := by simp
        rw [e2]
        exact q _ (sp.trans s')
theorem ok_like {f : Addr} {fd : FuncData} (F : Fun K "_law_like" "_law_like" s_like f fd) (T : Txt mg) (hm : mg "_law_like" = some (.ref f)) (hk : PySem.W.keepIn K (.ref f) = true) (hb : Binds K fd ["_law_found", "_law_due"] []) :
    ∀ n, FnOk P w K mg base CX0 n f fd ["_law_found", "_law_due"] (spLikeN n)
  | 0 => ⟨fun _ _ _ _ h => h.elim, fun _ _ _ _ _ _ _ _ _ _ _ _ _ h => h.elim⟩
  | n + 1 => ok_like1 F T ⟨⟨f, fd, ok_like F T hm hk hb n, hm, hk, hb⟩⟩
end
end My

set_option Elab.async false
set_option linter.all false
set_option maxRecDepth 100000
set_option maxHeartbeats 4000000
namespace My
open PySem L2 PyProof.Rows
section
variable {P : Program} {w : World} {K : PySem.W.Frag} {mg : Str → Option Value} {base : Heap}
/-! ### fractions as numbers: what is reckoned, and that lowest terms are one -/
abbrev Fr := Int × Int
structure Nrm (p : Fr) : Prop where
  d : 1 ≤ p.2
  g : Nat.gcd p.1.natAbs p.2.natAbs = 1
def low (n d : Int) : Fr := (lowN n d, lowD n d)
def fadd (p q : Fr) : Fr := low (p.1 * q.2 + q.1 * p.2) (p.2 * q.2)
def fsub (p q : Fr) : Fr := low (p.1 * q.2 - q.1 * p.2) (p.2 * q.2)
def fmul (p q : Fr) : Fr := low (p.1 * q.1) (p.2 * q.2)
def fover (p q : Fr) : Fr := low (p.1 * q.2) (p.2 * q.1)
def fneg (p : Fr) : Fr := (-p.1, p.2)
def val (p : Fr) : Rat := (p.1 : Rat) / (p.2 : Rat)
theorem low_nrm {n d : Int} (hd : d ≠ 0) : Nrm (low n d) := ⟨(low_facts hd).2.1, (low_facts hd).2.2.2⟩
theorem low_cross {n d : Int} (hd : d ≠ 0) : lowN n d * d = n * lowD n d := by
  have dn : ((Nat.gcd n.natAbs d.natAbs : Nat) : Int) ∣ n := Int.ofNat_dvd_left.mpr (Nat.gcd_dvd_left _ _)
  have dd : ((Nat.gcd n.natAbs d.natAbs : Nat) : Int) ∣ d := Int.ofNat_dvd_left.mpr (Nat.gcd_dvd_right _ _)
  have g0 : ((Nat.gcd n.natAbs d.natAbs : Nat) : Int) ≠ 0 := by
    have := Nat.gcd_pos_of_pos_right n.natAbs (show 0 < d.natAbs by omega)
    omega
  unfold lowN lowD
  generalize ((Nat.gcd n.natAbs d.natAbs : Nat) : Int) = g at dn dd g0
  obtain ⟨k, hk⟩ := dn
  obtain ⟨m, hm⟩ := dd
  by_cases h : 0 < d
  · rw [if_pos h, if_pos h, hk, hm, Int.mul_ediv_cancel_left _ g0, Int.mul_ediv_cancel_left _ g0]
    grind
  · rw [if_neg h, if_neg h, hk, hm, ← Int.mul_neg, ← Int.mul_neg, Int.mul_ediv_cancel_left _ g0, Int.mul_ediv_cancel_left _ g0]
    grind
theorem val_low {n d : Int} (hd : d ≠ 0) : val (low n d) = (n : Rat) / (d : Rat) := by
  have h := low_cross (n := n) hd
  have h1 := (low_facts (n := n) hd).2.1
  have a1 : ((lowD n d : Int) : Rat) ≠ 0 := by
    have : lowD n d ≠ 0 := by omega
    exact_mod_cast this
  have a2 : (d : Rat) ≠ 0 := by exact_mod_cast hd
  have h' : ((lowN n d : Int) : Rat) * (d : Rat) = (n : Rat) * ((lowD n d : Int) : Rat) := by exact_mod_cast h
  show ((lowN n d : Int) : Rat) / ((lowD n d : Int) : Rat) = (n : Rat) / (d : Rat)
  grind
theorem Nrm.ne {p : Fr} (h : Nrm p) : p.2 ≠ 0 := by have := h.d; omega
theorem Nrm.neR {p : Fr} (h : Nrm p) : (p.2 : Rat) ≠ 0 := by have := h.ne; exact_mod_cast this
theorem mul_ne {p q : Fr} (hp : Nrm p) (hq : Nrm q) : p.2 * q.2 ≠ 0 := Int.mul_ne_zero hp.ne hq.ne
theorem val_add {p q : Fr} (hp : Nrm p) (hq : Nrm q) : val (fadd p q) = val p + val q := by
  have h1 := hp.neR
  have h2 := hq.neR
  unfold fadd
  rw [val_low (mul_ne hp hq)]
  unfold val
  push_cast
  grind
theorem val_sub {p q : Fr} (hp : Nrm p) (hq : Nrm q) : val (fsub p q) = val p - val q := by
  have h1 := hp.neR
  have h2 := hq.neR
  unfold fsub
  rw [val_low (mul_ne hp hq)]
  unfold val
  push_cast
  grind
theorem val_mul {p q : Fr} (hp : Nrm p) (hq : Nrm q) : val (fmul p q) = val p * val q := by
  have h1 := hp.neR
  have h2 := hq.neR
  unfold fmul
  rw [val_low (mul_ne hp hq)]
  unfold val
  push_cast
  grind
theorem val_neg {p : Fr} (hp : Nrm p) : val (fneg p) = - val p := by
  have h1 := hp.neR
  show ((-p.1 : Int) : Rat) / (p.2 : Rat) = - ((p.1 : Rat) / (p.2 : Rat))
  push_cast
  grind
theorem nrm_add {p q : Fr} (hp : Nrm p) (hq : Nrm q) : Nrm (fadd p q) := low_nrm (mul_ne hp hq)
theorem nrm_sub {p q : Fr} (hp : Nrm p) (hq : Nrm q) : Nrm (fsub p q) := low_nrm (mul_ne hp hq)
theorem nrm_mul {p q : Fr} (hp : Nrm p) (hq : Nrm q) : Nrm (fmul p q) := low_nrm (mul_ne hp hq)
theorem nrm_neg {p : Fr} (hp : Nrm p) : Nrm (fneg p) := ⟨hp.d, by show Nat.gcd (-p.1).natAbs p.2.natAbs = 1; rw [Int.natAbs_neg]; exact hp.g⟩
theorem nrm_int (n : Int) : Nrm (n, 1) := ⟨by show (1 : Int) ≤ 1; decide, by simp⟩
theorem val_inj {p q : Fr} (hp : Nrm p) (hq : Nrm q) (h : val p = val q) : p = q := by
  have h1 := hp.neR
  have h2 := hq.neR
  have e : p.1 * q.2 = q.1 * p.2 := by
    unfold val at h
    have h' : (p.1 : Rat) * q.2 = q.1 * p.2 := by grind
    exact_mod_cast h'
  have en : p.1.natAbs * q.2.natAbs = q.1.natAbs * p.2.natAbs := by rw [← Int.natAbs_mul, ← Int.natAbs_mul, e]
  have d1 : p.2.natAbs ∣ q.2.natAbs := by
    have : p.2.natAbs ∣ p.1.natAbs * q.2.natAbs := by rw [en]; exact Nat.dvd_mul_left _ _
    exact Nat.Coprime.dvd_of_dvd_mul_left (show Nat.Coprime p.2.natAbs p.1.natAbs by unfold Nat.Coprime; rw [Nat.gcd_comm]; exact hp.g) this
  have d2 : q.2.natAbs ∣ p.2.natAbs := by
    have : q.2.natAbs ∣ q.1.natAbs * p.2.natAbs := by rw [← en]; exact Nat.dvd_mul_left _ _
    exact Nat.Coprime.dvd_of_dvd_mul_left (show Nat.Coprime q.2.natAbs q.1.natAbs by unfold Nat.Coprime; rw [Nat.gcd_comm]; exact hq.g) this
  have ed : p.2.natAbs = q.2.natAbs := Nat.dvd_antisymm d1 d2
  have ed' : p.2 = q.2 := by have := hp.d; have := hq.d; omega
  have e2 : p.1 = q.1 := by
    rw [ed'] at e
    exact Int.eq_of_mul_eq_mul_right hq.ne e
  exact Prod.ext e2 ed'
/-! ### a fraction, a vector in the heap -/
structure Fc (H : Hp) (v : V) (p : Fr) (e : Nat) : Prop where
  ex : ∃ a, v = .ref a ∧ H a = some (.tup [.int p.1, .int p.2])
  nr : Nrm p
  bn : p.1.natAbs < 2 ^ e
  bd : p.2.natAbs < 2 ^ e
theorem Fc.mono {H H' : Hp} {v : V} {p : Fr} {e : Nat} (h : Fc H v p e) (s : Same H H') : Fc H' v p e := ⟨let ⟨a, h1, h2⟩ := h.ex; ⟨a, h1, s _ _ h2⟩, h.nr, h.bn, h.bd⟩
theorem Fc.up {H : Hp} {v : V} {p : Fr} {e f : Nat} (h : Fc H v p e) (k : e ≤ f) : Fc H v p f :=
  ⟨h.ex, h.nr, Nat.lt_of_lt_of_le h.bn (Nat.pow_le_pow_right (by decide) k), Nat.lt_of_lt_of_le h.bd (Nat.pow_le_pow_right (by decide) k)⟩
theorem Fc.of {H : Hp} {t : Addr} {a b : Int} (h : H t = some (.tup [.int a, .int b])) (s : Small a b) : Fc H (.ref t) (a, b) 14 :=
  ⟨⟨t, rfl, h⟩, ⟨s.d0, s.g⟩, Nat.lt_of_le_of_lt s.n (by decide), by have := s.d; have := s.d0; show b.natAbs < 2 ^ 14; omega⟩
theorem Fc.alike {H : Hp} {v w : V} {p q : Fr} {e f n : Nat} (h : Fc H v p e) (k : Fc H w q f) (hpq : p = q) : Alike H (n + 1) v w := by
  subst hpq
  obtain ⟨a, rfl, ha⟩ := h.ex
  obtain ⟨b, rfl, hb⟩ := k.ex
  refine .inr ⟨true, a, b, _, _, rfl, rfl, ha, hb, rfl, by show 2 ≤ 1000; decide, fun i u v hu hv => ?_⟩
  rw [hu] at hv
  cases hv
  match i, hu with
  | 0, hu => cases hu; exact Alike.sc trivial
  | 1, hu => cases hu; exact Alike.sc trivial
theorem pow8 {x e : Nat} (h : x < 2 ^ e) (he : e ≤ 8000) : x < 2 ^ 8000 := Nat.lt_of_lt_of_le h (Nat.pow_le_pow_right (by decide) he)
theorem mul_pow {x y : Int} {e f : Nat} (hx : x.natAbs < 2 ^ e) (hy : y.natAbs < 2 ^ f) : (x * y).natAbs < 2 ^ (e + f) := by
  rw [Int.natAbs_mul, Nat.pow_add]
  exact Nat.mul_lt_mul'' hx hy
theorem add_pow {x y : Int} {e : Nat} (hx : x.natAbs < 2 ^ e) (hy : y.natAbs < 2 ^ e) : (x + y).natAbs < 2 ^ (e + 1) := by
  have := Int.natAbs_add_le x y
  rw [Nat.pow_succ]
  omega
theorem sub_pow {x y : Int} {e : Nat} (hx : x.natAbs < 2 ^ e) (hy : y.natAbs < 2 ^ e) : (x - y).natAbs < 2 ^ (e + 1) := by
  rw [Int.sub_eq_add_neg]
  exact add_pow hx (by rw [Int.natAbs_neg]; exact hy)
theorem Fc.low {H : Hp} {r : Addr} {n d : Int} {e : Nat} (hr : H r = none) (hd : d ≠ 0) (hn : n.natAbs < 2 ^ e) (hb : d.natAbs < 2 ^ e) : Fc (upd H r (.tup [.int (lowN n d), .int (lowD n d)])) (.ref r) (low n d) e := by
  have lf := low_facts (n := n) hd
  refine ⟨⟨r, rfl, upd_same⟩, low_nrm hd, Nat.lt_of_le_of_lt lf.1 hn, ?_⟩
  show (lowD n d).natAbs < 2 ^ e
  have := lf.2.2.1
  have := lf.2.1
  omega
def spBin (op : Fr → Fr → Fr) : Sp := fun vs H Q _ => ∃ (x y : V) (p q : Fr) (e f : Nat), vs = [x, y] ∧ Fc H x p e ∧ Fc H y q f ∧ e + f ≤ 3000 ∧ ∀ v H', Same H H' → Fc H' v (op p q) (e + f + 1) → Q v H'
end
end My

set_option Elab.async false
set_option linter.all false
set_option maxRecDepth 100000
set_option maxHeartbeats 4000000
namespace My
open PySem L2 PyProof.Rows
section
variable {P : Program} {w : World} {K : PySem.W.Frag} {mg : Str → Option Value} {base : Heap}
/-! ### fraction -/
abbrev s_fraction : Stmt := top 2
theorem sc_fraction : FnScope ["n", "d", "divisor"] ["n", "d"] (defScope s_fraction) := ⟨rfl, rfl, rfl, by decide +kernel, rfl, by decide +kernel, by decide +kernel⟩
theorem fdiv_pos {n d m : Int} (hd : 0 < d) (hm : ((Nat.gcd n.natAbs d.natAbs : Nat) : Int) ∣ m) : m.fdiv ((Nat.gcd n.natAbs d.natAbs : Nat) : Int) = m / ((Nat.gcd n.natAbs d.natAbs : Nat) : Int) :=
  Int.fdiv_eq_ediv_of_nonneg _ (by omega)
theorem fdiv_neg {g m : Int} (h0 : g ≠ 0) (hm : g ∣ m) : m.fdiv (-g) = (-m) / g := by
  obtain ⟨k, rfl⟩ := hm
  have e1 : g * k = (-g) * (-k) := by grind
  have e2 : -(g * k) = g * (-k) := by grind
  rw [e2, Int.mul_ediv_cancel_left _ h0, e1, Int.mul_fdiv_cancel_left _ (by omega)]
theorem ok_fraction {f : Addr} {fd : FuncData} (F : Fun K "fraction" "fraction" s_fraction f fd) (T : Txt mg) (g_common_divisor : Fn P w K mg base 1 "common_divisor" ["one", "other"] spCommon) : FnOk P w K mg base CX0 2 f fd ["n", "d"] spLowest := by
  refine F.okQ sc_fraction (fun vs H Q E h => ?_) (fun cdv A outer s H vs Q E hr h => ?_)
  · obtain ⟨n, d, rfl, _⟩ := h; rfl
  · obtain ⟨n, d, rfl, hd, hb, q⟩ := h
    refine ⟨_, (qb_cons (qs_assert (qt_cmpR op_ne (qv 1) qe_int (nomark _)))
  (qb_cons (qs_set (i := 2) sc_fraction.nd rfl (Or.inl rfl) (qe_fnS g_common_divisor hr (by omega) rfl (qc (qv 0) (qc (qv 1) qa_nil))))
  (qb_cons (qs_if (qt_cmpR op_lt (qv 1) qe_int (nomark _)) (qb_one (qs_set (i := 2) sc_fraction.nd rfl (Or.inl rfl) (qe_un un_neg (qv 2)))) qb_nil)
  (qb_one (qs_ret (qe_tup (qc (qe_op op_fdivZ (qv 0) (qv 2)) (qc (qe_op op_fdivZ (qv 1) (qv 2)) qa_nil)))))))), ?_⟩
    have g1 : 0 < Nat.gcd n.natAbs d.natAbs := Nat.gcd_pos_of_pos_right _ (by omega)
    have g2 : Nat.gcd n.natAbs d.natAbs < 2 ^ 8000 := Nat.lt_of_le_of_lt (Nat.gcd_le_right _ (by omega)) hb
    have dn : ((Nat.gcd n.natAbs d.natAbs : Nat) : Int) ∣ n := Int.ofNat_dvd_left.mpr (Nat.gcd_dvd_left _ _)
    have dd : ((Nat.gcd n.natAbs d.natAbs : Nat) : Int) ∣ d := Int.ofNat_dvd_left.mpr (Nat.gcd_dvd_right _ _)
    refine ⟨_, rfl, rfl, _, rfl, ?_, ?_⟩
    · show (!decide (V.int d = V.int 0)) = true
      have e : decide (V.int d = V.int 0) = false := decide_eq_false (fun z => hd (V.int.inj z))
      rw [e]; rfl
    refine ⟨_, rfl, _, rfl, n, d, rfl, ?_⟩
    refine ⟨_, rfl, _, _, rfl, rfl, _, rfl, itB (fun e => ?_) (fun e => ?_)⟩
    · have hd' : ¬ 0 < d := by have := of_decide_eq_true e; omega
      have cz : ∀ i : Int, CDivZ i (-((Nat.gcd n.natAbs d.natAbs : Nat) : Int)) := fun i => ⟨by omega, by rw [Int.natAbs_neg]; exact g2⟩
      refine ⟨_, rfl, _, rfl, ?_⟩
      refine ⟨_, rfl, _, rfl, _, _, rfl, rfl, cz _, _, rfl, _, rfl, _, _, rfl, rfl, cz _, (by show 2 ≤ sizeLine; decide), fun p hp => ?_⟩
      have := q p hp
      unfold lowN lowD at this
      rw [if_neg hd', if_neg hd', ← fdiv_neg (by omega) dn, ← fdiv_neg (by omega) dd] at this
      exact this
    · have hd' : 0 < d := by have := of_decide_eq_false e; omega
      have cz : ∀ i : Int, CDivZ i ((Nat.gcd n.natAbs d.natAbs : Nat) : Int) := fun i => ⟨by omega, g2⟩
      refine ⟨_, rfl, _, rfl, _, _, rfl, rfl, cz _, _, rfl, _, rfl, _, _, rfl, rfl, cz _, (by show 2 ≤ sizeLine; decide), fun p hp => ?_⟩
      have := q p hp
      unfold lowN lowD at this
      rw [if_pos hd', if_pos hd', ← fdiv_pos hd' dn, ← fdiv_pos hd' dd] at this
      exact this
end
end My

set_option Elab.async false
set_option linter.all false
set_option maxRecDepth 100000
set_option maxHeartbeats 4000000
namespace My
open PySem L2 PyProof.Rows
section
variable {P : Program} {w : World} {K : PySem.W.Frag} {mg : Str → Option Value} {base : Heap}
/-! ### the reckonings of the program and of the law -/
abbrev s_added : Stmt := top 3
theorem sc_added : FnScope ["one", "other"] ["one", "other"] (defScope s_added) := ⟨rfl, rfl, rfl, by decide +kernel, rfl, by decide +kernel, by decide +kernel⟩
theorem ok_added {f : Addr} {fd : FuncData} (F : Fun K "added" "added" s_added f fd) (T : Txt mg) (g_fraction : Fn P w K mg base 2 "fraction" ["n", "d"] spLowest) : FnOk P w K mg base CX0 3 f fd ["one", "other"] (spBin fadd) := by
  refine F.okQ sc_added (fun vs H Q E h => ?_) (fun cdv A outer s H vs Q E hr h => ?_)
  · obtain ⟨v1, v2, x, y, e1, e2, rfl, _⟩ := h; rfl
  · obtain ⟨v1, v2, x, y, e1, e2, rfl, fx, fy, he, k⟩ := h
    refine ⟨_, (qb_one (qs_ret (qe_fnS g_fraction hr (by omega) rfl (qc (qe_op op_add (qe_op op_mulB (qe_ix ix_tup (qv 0) qe_int (fun _ _ => rfl)) (qe_ix ix_tup (qv 1) qe_int (fun _ _ => rfl))) (qe_op op_mulB (qe_ix ix_tup (qv 1) qe_int (fun _ _ => rfl)) (qe_ix ix_tup (qv 0) qe_int (fun _ _ => rfl)))) (qc (qe_op op_mulB (qe_ix ix_tup (qv 0) qe_int (fun _ _ => rfl)) (qe_ix ix_tup (qv 1) qe_int (fun _ _ => rfl))) qa_nil))))), ?_⟩
    obtain ⟨p, rfl, hp⟩ := fx.ex
    obtain ⟨q, rfl, hq⟩ := fy.ex
    have m1 : CMulB x.1 y.2 := ⟨pow8 fx.bn (by omega), pow8 fy.bd (by omega)⟩
    have m2 : CMulB y.1 x.2 := ⟨pow8 fy.bn (by omega), pow8 fx.bd (by omega)⟩
    have m3 : CMulB x.2 y.2 := ⟨pow8 fx.bd (by omega), pow8 fy.bd (by omega)⟩
    have hd : (x.2 * y.2).natAbs < 2 ^ (e1 + e2) := mul_pow fx.bd fy.bd
    have hn : (x.1 * y.2 + y.1 * x.2).natAbs < 2 ^ (e1 + e2 + 1) := add_pow (mul_pow fx.bn fy.bd) (by rw [Nat.add_comm]; exact mul_pow fy.bn fx.bd)
    refine ⟨_, rfl, p, _, _, _, rfl, rfl, SqT.of hp, at0, _, rfl, q, _, _, _, rfl, rfl, SqT.of hq, at1, _, _, rfl, rfl, m1, _, rfl, q, _, _, _, rfl, rfl, SqT.of hq, at0, _, rfl, p, _, _, _, rfl, rfl, SqT.of hp, at1, _, _, rfl, rfl, m2, _, _, rfl, rfl, _, rfl, p, _, _, _, rfl, rfl, SqT.of hp, at1, _, rfl, q, _, _, _, rfl, rfl, SqT.of hq, at1, _, _, rfl, rfl, m3, _, _, rfl, mul_ne fx.nr fy.nr, pow8 hd (by omega), fun r hr' => ?_⟩
    exact k _ _ (Same.upd hr') (Fc.low hr' (mul_ne fx.nr fy.nr) hn (Nat.lt_of_lt_of_le hd (Nat.pow_le_pow_right (by decide) (by omega))))
abbrev s_times : Stmt := top 4
theorem sc_times : FnScope ["one", "other"] ["one", "other"] (defScope s_times) := ⟨rfl, rfl, rfl, by decide +kernel, rfl, by decide +kernel, by decide +kernel⟩
theorem ok_times {f : Addr} {fd : FuncData} (F : Fun K "times" "times" s_times f fd) (T : Txt mg) (g_fraction : Fn P w K mg base 2 "fraction" ["n", "d"] spLowest) : FnOk P w K mg base CX0 3 f fd ["one", "other"] (spBin fmul) := by
  refine F.okQ sc_times (fun vs H Q E h => ?_) (fun cdv A outer s H vs Q E hr h => ?_)
  · obtain ⟨v1, v2, x, y, e1, e2, rfl, _⟩ := h; rfl
  · obtain ⟨v1, v2, x, y, e1, e2, rfl, fx, fy, he, k⟩ := h
    refine ⟨_, (qb_one (qs_ret (qe_fnS g_fraction hr (by omega) rfl (qc (qe_op op_mulB (qe_ix ix_tup (qv 0) qe_int (fun _ _ => rfl)) (qe_ix ix_tup (qv 1) qe_int (fun _ _ => rfl))) (qc (qe_op op_mulB (qe_ix ix_tup (qv 0) qe_int (fun _ _ => rfl)) (qe_ix ix_tup (qv 1) qe_int (fun _ _ => rfl))) qa_nil))))), ?_⟩
    obtain ⟨p, rfl, hp⟩ := fx.ex
    obtain ⟨q, rfl, hq⟩ := fy.ex
    have m1 : CMulB x.1 y.1 := ⟨pow8 fx.bn (by omega), pow8 fy.bn (by omega)⟩
    have m3 : CMulB x.2 y.2 := ⟨pow8 fx.bd (by omega), pow8 fy.bd (by omega)⟩
    have hd : (x.2 * y.2).natAbs < 2 ^ (e1 + e2) := mul_pow fx.bd fy.bd
    have hn : (x.1 * y.1).natAbs < 2 ^ (e1 + e2 + 1) := Nat.lt_of_lt_of_le (mul_pow fx.bn fy.bn) (Nat.pow_le_pow_right (by decide) (by omega))
    refine ⟨_, rfl, p, _, _, _, rfl, rfl, SqT.of hp, at0, _, rfl, q, _, _, _, rfl, rfl, SqT.of hq, at0, _, _, rfl, rfl, m1, _, rfl, p, _, _, _, rfl, rfl, SqT.of hp, at1, _, rfl, q, _, _, _, rfl, rfl, SqT.of hq, at1, _, _, rfl, rfl, m3, _, _, rfl, mul_ne fx.nr fy.nr, pow8 hd (by omega), fun r hr' => ?_⟩
    exact k _ _ (Same.upd hr') (Fc.low hr' (mul_ne fx.nr fy.nr) hn (Nat.lt_of_lt_of_le hd (Nat.pow_le_pow_right (by decide) (by omega))))
abbrev s_sum : Stmt := top 23
theorem sc_sum : FnScope ["_law_p", "_law_q"] ["_law_p", "_law_q"] (defScope s_sum) := ⟨rfl, rfl, rfl, by decide +kernel, rfl, by decide +kernel, by decide +kernel⟩
theorem ok_sum {f : Addr} {fd : FuncData} (F : Fun K "_law_sum" "_law_sum" s_sum f fd) (T : Txt mg) (g_lowest : Fn P w K mg base 1 "_law_lowest" ["_law_n", "_law_d"] spLowest) : FnOk P w K mg base CX0 2 f fd ["_law_p", "_law_q"] (spBin fadd) := by
  refine F.okQ sc_sum (fun vs H Q E h => ?_) (fun cdv A outer s H vs Q E hr h => ?_)
  · obtain ⟨v1, v2, x, y, e1, e2, rfl, _⟩ := h; rfl
  · obtain ⟨v1, v2, x, y, e1, e2, rfl, fx, fy, he, k⟩ := h
    refine ⟨_, (qb_one (qs_ret (qe_fnS g_lowest hr (by omega) rfl (qc (qe_op op_add (qe_op op_mulB (qe_ix ix_tup (qv 0) qe_int (fun _ _ => rfl)) (qe_ix ix_tup (qv 1) qe_int (fun _ _ => rfl))) (qe_op op_mulB (qe_ix ix_tup (qv 1) qe_int (fun _ _ => rfl)) (qe_ix ix_tup (qv 0) qe_int (fun _ _ => rfl)))) (qc (qe_op op_mulB (qe_ix ix_tup (qv 0) qe_int (fun _ _ => rfl)) (qe_ix ix_tup (qv 1) qe_int (fun _ _ => rfl))) qa_nil))))), ?_⟩
    obtain ⟨p, rfl, hp⟩ := fx.ex
    obtain ⟨q, rfl, hq⟩ := fy.ex
    have m1 : CMulB x.1 y.2 := ⟨pow8 fx.bn (by omega), pow8 fy.bd (by omega)⟩
    have m2 : CMulB y.1 x.2 := ⟨pow8 fy.bn (by omega), pow8 fx.bd (by omega)⟩
    have m3 : CMulB x.2 y.2 := ⟨pow8 fx.bd (by omega), pow8 fy.bd (by omega)⟩
    have hd : (x.2 * y.2).natAbs < 2 ^ (e1 + e2) := mul_pow fx.bd fy.bd
    have hn : (x.1 * y.2 + y.1 * x.2).natAbs < 2 ^ (e1 + e2 + 1) := add_pow (mul_pow fx.bn fy.bd) (by rw [Nat.add_comm]; exact mul_pow fy.bn fx.bd)
    refine ⟨_, rfl, p, _, _, _, rfl, rfl, SqT.of hp, at0, _, rfl, q, _, _, _, rfl, rfl, SqT.of hq, at1, _, _, rfl, rfl, m1, _, rfl, q, _, _, _, rfl, rfl, SqT.of hq, at0, _, rfl, p, _, _, _, rfl, rfl, SqT.of hp, at1, _, _, rfl, rfl, m2, _, _, rfl, rfl, _, rfl, p, _, _, _, rfl, rfl, SqT.of hp, at1, _, rfl, q, _, _, _, rfl, rfl, SqT.of hq, at1, _, _, rfl, rfl, m3, _, _, rfl, mul_ne fx.nr fy.nr, pow8 hd (by omega), fun r hr' => ?_⟩
    exact k _ _ (Same.upd hr') (Fc.low hr' (mul_ne fx.nr fy.nr) hn (Nat.lt_of_lt_of_le hd (Nat.pow_le_pow_right (by decide) (by omega))))
abbrev s_product : Stmt := top 25
theorem sc_product : FnScope ["_law_p", "_law_q"] ["_law_p", "_law_q"] (defScope s_product) := ⟨rfl, rfl, rfl, by decide +kernel, rfl, by decide +kernel, by decide +kernel⟩
theorem ok_product {f : Addr} {fd : FuncData} (F : Fun K "_law_product" "_law_product" s_product f fd) (T : Txt mg) (g_lowest : Fn P w K mg base 1 "_law_lowest" ["_law_n", "_law_d"] spLowest) : FnOk P w K mg base CX0 2 f fd ["_law_p", "_law_q"] (spBin fmul) := by
  refine F.okQ sc_product (fun vs H Q E h => ?_) (fun cdv A outer s H vs Q E hr h => ?_)
  · obtain ⟨v1, v2, x, y, e1, e2, rfl, _⟩ := h; rfl
  · obtain ⟨v1, v2, x, y, e1, e2, rfl, fx, fy, he, k⟩ := h
    refine ⟨_, (qb_one (qs_ret (qe_fnS g_lowest hr (by omega) rfl (qc (qe_op op_mulB (qe_ix ix_tup (qv 0) qe_int (fun _ _ => rfl)) (qe_ix ix_tup (qv 1) qe_int (fun _ _ => rfl))) (qc (qe_op op_mulB (qe_ix ix_tup (qv 0) qe_int (fun _ _ => rfl)) (qe_ix ix_tup (qv 1) qe_int (fun _ _ => rfl))) qa_nil))))), ?_⟩
    obtain ⟨p, rfl, hp⟩ := fx.ex
    obtain ⟨q, rfl, hq⟩ := fy.ex
    have m1 : CMulB x.1 y.1 := ⟨pow8 fx.bn (by omega), pow8 fy.bn (by omega)⟩
    have m3 : CMulB x.2 y.2 := ⟨pow8 fx.bd (by omega), pow8 fy.bd (by omega)⟩
    have hd : (x.2 * y.2).natAbs < 2 ^ (e1 + e2) := mul_pow fx.bd fy.bd
    have hn : (x.1 * y.1).natAbs < 2 ^ (e1 + e2 + 1) := Nat.lt_of_lt_of_le (mul_pow fx.bn fy.bn) (Nat.pow_le_pow_right (by decide) (by omega))
    refine ⟨_, rfl, p, _, _, _, rfl, rfl, SqT.of hp, at0, _, rfl, q, _, _, _, rfl, rfl, SqT.of hq, at0, _, _, rfl, rfl, m1, _, rfl, p, _, _, _, rfl, rfl, SqT.of hp, at1, _, rfl, q, _, _, _, rfl, rfl, SqT.of hq, at1, _, _, rfl, rfl, m3, _, _, rfl, mul_ne fx.nr fy.nr, pow8 hd (by omega), fun r hr' => ?_⟩
    exact k _ _ (Same.upd hr') (Fc.low hr' (mul_ne fx.nr fy.nr) hn (Nat.lt_of_lt_of_le hd (Nat.pow_le_pow_right (by decide) (by omega))))
end
end My

set_option Elab.async false
set_option linter.all false
set_option maxRecDepth 100000
set_option maxHeartbeats 4000000
namespace My
open PySem L2 PyProof.Rows
section
variable {P : Program} {w : World} {K : PySem.W.Frag} {mg : Str → Option Value} {base : Heap}
/-! ### vectors -/
def Vc (H : Hp) (v : V) (x y : Fr) (e : Nat) : Prop := ∃ a vx vy, v = .ref a ∧ H a = some (.tup [vx, vy]) ∧ Fc H vx x e ∧ Fc H vy y e
theorem Vc.mono {H H' : Hp} {v : V} {x y : Fr} {e : Nat} (h : Vc H v x y e) (s : Same H H') : Vc H' v x y e := let ⟨a, vx, vy, h1, h2, h3, h4⟩ := h; ⟨a, vx, vy, h1, s _ _ h2, h3.mono s, h4.mono s⟩
theorem Vc.up {H : Hp} {v : V} {x y : Fr} {e f : Nat} (h : Vc H v x y e) (k : e ≤ f) : Vc H v x y f := let ⟨a, vx, vy, h1, h2, h3, h4⟩ := h; ⟨a, vx, vy, h1, h2, h3.up k, h4.up k⟩
theorem Vc.alike {H : Hp} {v w : V} {x y x' y' : Fr} {e f n : Nat} (h : Vc H v x y e) (k : Vc H w x' y' f) (hx : x = x') (hy : y = y') : Alike H (n + 2) v w := by
  obtain ⟨a, vx, vy, rfl, ha, h1, h2⟩ := h
  obtain ⟨b, wx, wy, rfl, hb, k1, k2⟩ := k
  refine .inr ⟨true, a, b, _, _, rfl, rfl, ha, hb, rfl, by show 2 ≤ 1000; decide, fun i u v hu hv => ?_⟩
  match i, hu, hv with
  | 0, hu, hv => cases hu; cases hv; exact h1.alike k1 hx
  | 1, hu, hv => cases hu; cases hv; exact h2.alike k2 hy
theorem Vc.nx {H : Hp} {v : V} {x y : Fr} {e : Nat} (h : Vc H v x y e) : Nrm x := let ⟨_, _, _, _, _, h3, _⟩ := h; h3.nr
theorem Vc.ny {H : Hp} {v : V} {x y : Fr} {e : Nat} (h : Vc H v x y e) : Nrm y := let ⟨_, _, _, _, _, _, h4⟩ := h; h4.nr
def fdot (x y x' y' : Fr) : Fr := fadd (fmul x x') (fmul y y')
def fcross (x y x' y' : Fr) : Fr := fsub (fmul x y') (fmul y x')
def spVV (op : Fr → Fr → Fr) : Sp := fun vs H Q _ => ∃ (v u : V) (x y x' y' : Fr) (e f : Nat), vs = [v, u] ∧ Vc H v x y e ∧ Vc H u x' y' f ∧ e + f ≤ 3000 ∧ ∀ r H', Same H H' → Vc H' r (op x x') (op y y') (e + f + 1) → Q r H'
def spVF : Sp := fun vs H Q _ => ∃ (v u : V) (x y b : Fr) (e f : Nat), vs = [v, u] ∧ Vc H v x y e ∧ Fc H u b f ∧ e + f ≤ 3000 ∧ ∀ r H', Same H H' → Vc H' r (fmul x b) (fmul y b) (e + f + 1) → Q r H'
def spDot (op : Fr → Fr → Fr → Fr → Fr) : Sp := fun vs H Q _ => ∃ (v u : V) (x y x' y' : Fr) (e f : Nat), vs = [v, u] ∧ Vc H v x y e ∧ Vc H u x' y' f ∧ e + f ≤ 1400 ∧ ∀ r H', Same H H' → Fc H' r (op x y x' y') (e + f + 1 + (e + f + 1) + 1) → Q r H'
def spLeft : Sp := fun vs H Q _ => ∃ (v : V) (x y : Fr) (e : Nat), vs = [v] ∧ Vc H v x y e ∧ ∀ r H', Same H H' → Vc H' r (fneg y) x e → Q r H'
abbrev s_scaled : Stmt := top 9
theorem sc_scaled : FnScope ["vector", "by"] ["vector", "by"] (defScope s_scaled) := ⟨rfl, rfl, rfl, by decide +kernel, rfl, by decide +kernel, by decide +kernel⟩
theorem ok_scaled {f : Addr} {fd : FuncData} (F : Fun K "scaled" "scaled" s_scaled f fd) (T : Txt mg) (g_times : Fn P w K mg base 3 "times" ["one", "other"] (spBin fmul)) : FnOk P w K mg base CX0 4 f fd ["vector", "by"] spVF := by
  refine F.okQ sc_scaled (fun vs H Q E h => ?_) (fun cdv A outer s H vs Q E hr h => ?_)
  · obtain ⟨v, u, x, y, b, e, f, rfl, _⟩ := h; rfl
  · obtain ⟨v, u, x, y, b, e, f, rfl, ⟨p, vx, vy, rfl, hp, fx, fy⟩, fb, he, k⟩ := h
    refine ⟨_, (qb_one (qs_ret (qe_tup (qc (qe_fnS g_times hr (by omega) rfl (qc (qe_ix ix_tup (qv 0) qe_int (fun _ _ => rfl)) (qc (qv 1) qa_nil))) (qc (qe_fnS g_times hr (by omega) rfl (qc (qe_ix ix_tup (qv 0) qe_int (fun _ _ => rfl)) (qc (qv 1) qa_nil))) qa_nil))))), ?_⟩
    refine ⟨_, rfl, p, _, _, _, rfl, rfl, SqT.of hp, at0, _, rfl, vx, u, x, b, e, f, rfl, fx, fb, he, fun r1 H1 s1 c1 => ?_⟩
    refine ⟨_, rfl, p, _, _, _, rfl, rfl, SqT.of (s1 _ _ hp), at1, _, rfl, vy, u, y, b, e, f, rfl, fy.mono s1, fb.mono s1, he, fun r2 H2 s2 c2 => ⟨(by show 2 ≤ sizeLine; decide), fun r hr' => ?_⟩⟩
    exact k _ _ ((s1.trans s2).trans (Same.upd hr')) ⟨r, r1, r2, rfl, upd_same, (c1.mono s2).mono (Same.upd hr'), c2.mono (Same.upd hr')⟩
abbrev s_dot : Stmt := top 10
theorem sc_dot : FnScope ["one", "other"] ["one", "other"] (defScope s_dot) := ⟨rfl, rfl, rfl, by decide +kernel, rfl, by decide +kernel, by decide +kernel⟩
theorem ok_dot {f : Addr} {fd : FuncData} (F : Fun K "dot" "dot" s_dot f fd) (T : Txt mg) (g_times : Fn P w K mg base 3 "times" ["one", "other"] (spBin fmul)) (g_added : Fn P w K mg base 3 "added" ["one", "other"] (spBin fadd)) : FnOk P w K mg base CX0 4 f fd ["one", "other"] (spDot fdot) := by
  refine F.okQ sc_dot (fun vs H Q E h => ?_) (fun cdv A outer s H vs Q E hr h => ?_)
  · obtain ⟨v, u, x, y, x', y', e, f, rfl, _⟩ := h; rfl
  · obtain ⟨v, u, x, y, x', y', e, f, rfl, ⟨p, vx, vy, rfl, hp, fx, fy⟩, ⟨q, wx, wy, rfl, hq, gx, gy⟩, he, k⟩ := h
    refine ⟨_, (qb_one (qs_ret (qe_fnS g_added hr (by omega) rfl (qc (qe_fnS g_times hr (by omega) rfl (qc (qe_ix ix_tup (qv 0) qe_int (fun _ _ => rfl)) (qc (qe_ix ix_tup (qv 1) qe_int (fun _ _ => rfl)) qa_nil))) (qc (qe_fnS g_times hr (by omega) rfl (qc (qe_ix ix_tup (qv 0) qe_int (fun _ _ => rfl)) (qc (qe_ix ix_tup (qv 1) qe_int (fun _ _ => rfl)) qa_nil))) qa_nil))))), ?_⟩
    refine ⟨_, rfl, p, _, _, _, rfl, rfl, SqT.of hp, at0, _, rfl, q, _, _, _, rfl, rfl, SqT.of hq, at0, vx, wx, x, x', e, f, rfl, fx, gx, by omega, fun r1 H1 s1 c1 => ?_⟩
    refine ⟨_, rfl, p, _, _, _, rfl, rfl, SqT.of (s1 _ _ hp), at1, _, rfl, q, _, _, _, rfl, rfl, SqT.of (s1 _ _ hq), at1, vy, wy, y, y', e, f, rfl, fy.mono s1, gy.mono s1, by omega, fun r2 H2 s2 c2 => ?_⟩
    exact ⟨r1, r2, _, _, _, _, rfl, c1.mono s2, c2, by omega, fun r H3 s3 c3 => k _ _ ((s1.trans s2).trans s3) c3⟩
end
end My

set_option Elab.async false
set_option linter.all false
set_option maxRecDepth 100000
set_option maxHeartbeats 4000000
namespace My
open PySem L2 PyProof.Rows
section
variable {P : Program} {w : World} {K : PySem.W.Frag} {mg : Str → Option Value} {base : Heap}
theorem Fc.monoT {H H' : Hp} {v : V} {p : Fr} {e : Nat} (h : Fc H v p e) (s : ∀ b xs, H b = some (.tup xs) → H' b = some (.tup xs)) : Fc H' v p e := ⟨let ⟨a, h1, h2⟩ := h.ex; ⟨a, h1, s _ _ h2⟩, h.nr, h.bn, h.bd⟩
theorem tup_updL {H : Hp} {l : Addr} {xs zs : List V} (h : H l = some (.lst xs)) : ∀ b ys, H b = some (.tup ys) → upd H l (.lst zs) b = some (.tup ys) := fun b ys e => by
  rw [upd_ne (fun z => by rw [z, h] at e; cases e)]; exact e
theorem same_updL {H0 H : Hp} {l : Addr} {o : HO} (s : Same H0 H) (h : H0 l = none) : Same H0 (upd H l o) := fun b u e => by
  rw [upd_ne (ne_of_none e h)]; exact s _ _ e
theorem alike_list {H : Hp} {a b : Addr} {xs ys : List V} {n : Nat} (ha : H a = some (.lst xs)) (hb : H b = some (.lst ys)) (hl : xs.length = ys.length) (h2 : xs.length ≤ 1000) (h : ∀ (i : Nat) u v, xs[i]? = some u → ys[i]? = some v → Alike H n u v) : Alike H (n + 1) (.ref a) (.ref b) :=
  .inr ⟨false, a, b, xs, ys, rfl, rfl, ha, hb, hl, h2, h⟩
theorem ext_tup {p : Addr} {H H' : Hp} {n : Int} (e : Ext p H H') (b : Box H p n) : ∀ c xs, H c = some (.tup xs) → H' c = some (.tup xs) := fun c xs h => e _ _ h (by
  obtain ⟨_, _, _, h1, _⟩ := b
  exact ne_of h h1 (by intro z; cases z))
theorem Box.upd {H : Hp} {p D : Addr} {o : HO} {n : Int} (b : Box H p n) (h : p ≠ D) : Box (L2.upd H D o) p n := let ⟨A, B, c, h1, h2⟩ := b; ⟨A, B, c, by rw [upd_ne h]; exact h1, h2⟩
theorem Fc.neg {H : Hp} {r : Addr} {p : Fr} {e : Nat} (h : H r = some (.tup [.int (-p.1), .int p.2])) (n : Nrm p) (b1 : p.1.natAbs < 2 ^ e) (b2 : p.2.natAbs < 2 ^ e) : Fc H (.ref r) (fneg p) e :=
  ⟨⟨r, rfl, h⟩, nrm_neg n, by show (-p.1).natAbs < 2 ^ e; rw [Int.natAbs_neg]; exact b1, b2⟩
end
end My

set_option Elab.async false
set_option linter.all false
set_option maxRecDepth 100000
set_option maxHeartbeats 4000000
namespace My
open PySem L2 PyProof.Rows
section
variable {P : Program} {w : World} {K : PySem.W.Frag} {mg : Str → Option Value} {base : Heap}
/-! ### over -/
def spOver : Sp := fun vs H Q _ => ∃ (x y : V) (p q : Fr) (e f : Nat), vs = [x, y] ∧ Fc H x p e ∧ Fc H y q f ∧ e + f ≤ 3000 ∧ q.1 ≠ 0 ∧ ∀ v H', Same H H' → Fc H' v (fover p q) (e + f + 1) → Q v H'
abbrev s_over : Stmt := top 5
theorem sc_over : FnScope ["one", "other"] ["one", "other"] (defScope s_over) := ⟨rfl, rfl, rfl, by decide +kernel, rfl, by decide +kernel, by decide +kernel⟩
theorem ok_over {f : Addr} {fd : FuncData} (F : Fun K "over" "over" s_over f fd) (T : Txt mg) (g_fraction : Fn P w K mg base 2 "fraction" ["n", "d"] spLowest) : FnOk P w K mg base CX0 3 f fd ["one", "other"] spOver := by
  refine F.okQ sc_over (fun vs H Q E h => ?_) (fun cdv A outer s H vs Q E hr h => ?_)
  · obtain ⟨v1, v2, x, y, e1, e2, rfl, _⟩ := h; rfl
  · obtain ⟨v1, v2, x, y, e1, e2, rfl, fx, fy, he, h0, k⟩ := h
    refine ⟨_, (qb_one (qs_ret (qe_fnS g_fraction hr (by omega) rfl (qc (qe_op op_mulB (qe_ix ix_tup (qv 0) qe_int (fun _ _ => rfl)) (qe_ix ix_tup (qv 1) qe_int (fun _ _ => rfl))) (qc (qe_op op_mulB (qe_ix ix_tup (qv 0) qe_int (fun _ _ => rfl)) (qe_ix ix_tup (qv 1) qe_int (fun _ _ => rfl))) qa_nil))))), ?_⟩
    obtain ⟨p, rfl, hp⟩ := fx.ex
    obtain ⟨q, rfl, hq⟩ := fy.ex
    have m1 : CMulB x.1 y.2 := ⟨pow8 fx.bn (by omega), pow8 fy.bd (by omega)⟩
    have m3 : CMulB x.2 y.1 := ⟨pow8 fx.bd (by omega), pow8 fy.bn (by omega)⟩
    have hd : (x.2 * y.1).natAbs < 2 ^ (e1 + e2) := mul_pow fx.bd fy.bn
    have hn : (x.1 * y.2).natAbs < 2 ^ (e1 + e2) := mul_pow fx.bn fy.bd
    have hne : x.2 * y.1 ≠ 0 := Int.mul_ne_zero fx.nr.ne h0
    have up : 2 ^ (e1 + e2) ≤ 2 ^ (e1 + e2 + 1) := Nat.pow_le_pow_right (by decide) (by omega)
    refine ⟨_, rfl, p, _, _, _, rfl, rfl, SqT.of hp, at0, _, rfl, q, _, _, _, rfl, rfl, SqT.of hq, at1, _, _, rfl, rfl, m1, _, rfl, p, _, _, _, rfl, rfl, SqT.of hp, at1, _, rfl, q, _, _, _, rfl, rfl, SqT.of hq, at0, _, _, rfl, rfl, m3, _, _, rfl, hne, pow8 hd (by omega), fun r hr' => ?_⟩
    exact k _ _ (Same.upd hr') (Fc.low hr' hne (Nat.lt_of_lt_of_le hn up) (Nat.lt_of_lt_of_le hd up))
end
end My

set_option Elab.async false
set_option linter.all false
set_option maxRecDepth 100000
set_option maxHeartbeats 4000000
namespace My
open PySem L2 PyProof.Rows
section
variable {P : Program} {w : World} {K : PySem.W.Frag} {mg : Str → Option Value} {base : Heap}
/-! ### whole roots -/
def IsRt (n r : Nat) : Prop := r * r ≤ n ∧ n < (r + 1) * (r + 1)
theorem IsRt.uniq {n r s : Nat} (h : IsRt n r) (k : IsRt n s) : r = s := by
  rcases Nat.lt_trichotomy r s with z | z | z
  · have := Nat.mul_le_mul (show r + 1 ≤ s from z) (show r + 1 ≤ s from z)
    have := h.2; have := k.1; omega
  · exact z
  · have := Nat.mul_le_mul (show s + 1 ≤ r from z) (show s + 1 ≤ r from z)
    have := k.2; have := h.1; omega
theorem am_gm (x y : Nat) : 4 * (x * y) ≤ (x + y) * (x + y) := by
  rcases Nat.le_total x y with h | h
  · obtain ⟨k, rfl⟩ := Nat.exists_eq_add_of_le h
    have : (x + (x + k)) * (x + (x + k)) = 4 * (x * (x + k)) + k * k := by grind
    omega
  · obtain ⟨k, rfl⟩ := Nat.exists_eq_add_of_le h
    have : (y + k + y) * (y + k + y) = 4 * ((y + k) * y) + k * k := by grind
    omega
theorem newton_low {g s : Nat} (h : 0 < g) : s < ((g + s / g) / 2 + 1) * ((g + s / g) / 2 + 1) := by
  have h1 : s < g * (s / g + 1) := Nat.lt_mul_div_succ s h
  have h2 := am_gm g (s / g + 1)
  generalize s / g = q at h1 h2 ⊢
  have h3 : g + (q + 1) ≤ 2 * ((g + q) / 2 + 1) := by omega
  generalize (g + q) / 2 + 1 = b at h3 ⊢
  have h4 := Nat.mul_le_mul h3 h3
  have h5 : 2 * b * (2 * b) = 4 * (b * b) := by grind
  omega
theorem newton_end {g s : Nat} (h : 0 < g) (k : ¬ (g + s / g) / 2 < g) : g * g ≤ s := by
  have : g ≤ s / g := by omega
  exact (Nat.le_div_iff_mul_le h).mp this
theorem fdiv_nat (a b : Nat) : ((a : Int)).fdiv (b : Int) = ((a / b : Nat) : Int) := by
  rw [Int.fdiv_eq_ediv_of_nonneg _ (by omega)]; rfl
theorem better_nat (g s : Nat) : ((g : Int) + ((s : Int)).fdiv (g : Int)).fdiv 2 = (((g + s / g) / 2 : Nat) : Int) := by
  rw [fdiv_nat, ← Int.natCast_add]
  exact fdiv_nat _ 2
theorem first_guess {s : Nat} (h : s ≠ 0) : ∃ g : Nat, (1 : Int) * 2 ^ ((((Builtin.Int.intBits (s : Int) : Nat) : Int) + 1).fdiv 2).toNat = (g : Int) ∧ 0 < g ∧ s < g * g ∧ (∀ e : Nat, s < 2 ^ e → g ≤ 2 ^ e) ∧ (0 ≤ (((Builtin.Int.intBits (s : Int) : Nat) : Int) + 1).fdiv 2) ∧ ∀ e : Nat, s < 2 ^ e → (((Builtin.Int.intBits (s : Int) : Nat) : Int) + 1).fdiv 2 ≤ e := by
  have hb : Builtin.Int.intBits (s : Int) = s.log2 + 1 := by
    unfold Builtin.Int.intBits
    rw [if_neg (by simpa using h)]
    rfl
  rw [hb]
  have e1 : ((((s.log2 + 1 : Nat) : Int) + 1)).fdiv 2 = (((s.log2 + 1 + 1) / 2 : Nat) : Int) := fdiv_nat (s.log2 + 1 + 1) 2
  rw [e1, Int.toNat_natCast]
  have hl := Nat.lt_log2_self (n := s)
  refine ⟨2 ^ ((s.log2 + 1 + 1) / 2), by rw [Int.one_mul]; exact (Int.natCast_pow 2 _).symm, Nat.pow_pos (by decide), ?_, fun e he => ?_, by omega, fun e he => ?_⟩
  · rw [← Nat.pow_add]
    exact Nat.lt_of_lt_of_le hl (Nat.pow_le_pow_right (by decide) (by omega))
  · have := (Nat.log2_lt h).mpr he
    exact Nat.pow_le_pow_right (by decide) (by omega)
  · have := (Nat.log2_lt h).mpr he
    omega
def spWhole : Sp := fun vs H Q _ => ∃ n : Nat, vs = [.int (n : Int)] ∧ n < 2 ^ 3000 ∧ ∀ r : Nat, IsRt n r → Q (.int (r : Int)) H
abbrev s_whole_root : Stmt := top 6
theorem sc_whole_root : FnScope ["square", "guess", "better"] ["square"] (defScope s_whole_root) := ⟨rfl, rfl, rfl, by decide +kernel, rfl, by decide +kernel, by decide +kernel⟩
theorem ok_whole_root {f : Addr} {fd : FuncData} (F : Fun K "whole_root" "whole_root" s_whole_root f fd) (T : Txt mg) : FnOk P w K mg base CX0 1 f fd ["square"] spWhole := by
  refine F.okQ sc_whole_root (fun vs H Q E h => ?_) (fun cdv A outer s H vs Q E hr h => ?_)
  · obtain ⟨n, rfl, _⟩ := h; rfl
  · obtain ⟨n, rfl, hb, q⟩ := h
    refine ⟨_, (qb_cons (qs_if (qt_cmpR op_eq (qv 0) qe_int (nomark _)) (qb_one (qs_ret qe_int)) qb_nil)
  (qb_cons (qs_set (i := 1) sc_whole_root.nd rfl (Or.inl rfl) (qe_op op_shl qe_int (qe_op op_fdivZ (qe_op op_add (qe_bits (qv 0)) qe_int) qe_int)))
  (qb_cons (qs_set (i := 2) sc_whole_root.nd rfl (Or.inl rfl) (qe_op op_fdivZ (qe_op op_add (qv 1) (qe_op op_fdivZ (qv 0) (qv 1))) qe_int))
  (qb_cons (qs_while PassesOwn.never (qt_cmpR op_lt (qv 2) (qv 1) (nomark _)) (qb_cons (qs_set (i := 1) sc_whole_root.nd rfl (Or.inl rfl) (qv 2))
  (qb_one (qs_set (i := 2) sc_whole_root.nd rfl (Or.inl rfl) (qe_op op_fdivZ (qe_op op_add (qv 1) (qe_op op_fdivZ (qv 0) (qv 1))) qe_int)))))
  (qb_one (qs_ret (qv 1))))))), ?_⟩
    refine ⟨_, rfl, rfl, _, rfl, itB (fun e => ?_) (fun e => ?_)⟩
    · have hn : (n : Int) = 0 := V.int.inj (of_decide_eq_true e)
      have hn' : n = 0 := by omega
      subst hn'
      exact q 0 ⟨by decide, by decide⟩
    · have hn : n ≠ 0 := fun z => of_decide_eq_false e (by rw [z]; rfl)
      obtain ⟨g0, eg, gp, gs, gb, c0, cb⟩ := first_guess hn
      have big : ∀ g : Nat, g ≤ 2 ^ 3000 → ((g : Int)).natAbs < 2 ^ 8000 := fun g h => by
        rw [Int.natAbs_natCast]
        exact Nat.lt_of_le_of_lt h (Nat.pow_lt_pow_right (by decide) (by decide))
      have hc2 : ∀ i : Int, CDivZ i 2 := fun i => ⟨by decide, small8 (by decide)⟩
      refine ⟨_, rfl, rfl, _, rfl, rfl, _, _, rfl, rfl, _, _, rfl, rfl, hc2 _, _, _, rfl, rfl, ⟨c0, Int.le_trans (cb 3000 hb) (by decide), by decide⟩, ?_⟩
      simp only [eg]
      refine ⟨_, rfl, _, rfl, _, rfl, _, _, rfl, rfl, ⟨by omega, big g0 (gb _ hb)⟩, _, _, rfl, rfl, _, _, rfl, rfl, hc2 _, ?_⟩
      simp only [better_nat]
      refine ⟨fun m σ H' => ∃ g : Nat, σ = [some (.int (n : Int)), some (.int (g : Int)), some (.int (((g + n / g) / 2 : Nat) : Int))] ∧ m = g ∧ 0 < g ∧ g ≤ 2 ^ 3000 ∧ n < (g + 1) * (g + 1) ∧ H' = H, ⟨_, g0, rfl, rfl, gp, gb _ hb, ?_, rfl⟩, ?_⟩
      · exact Nat.lt_trans gs (Nat.mul_lt_mul'' (Nat.lt_succ_self _) (Nat.lt_succ_self _))
      rintro m σ H' ⟨g, rfl, rfl, hg, hgb, hgn, rfl⟩
      refine ⟨_, rfl, _, rfl, _, _, rfl, rfl, _, rfl, itB (fun e => ?_) (fun e => ?_)⟩
      · have hlt : (m + n / m) / 2 < m := by have := of_decide_eq_true e; omega
        refine ⟨fun σ' H'' => σ' = [some (.int (n : Int)), some (.int (((m + n / m) / 2 : Nat) : Int)), some (.int ((((m + n / m) / 2 + n / ((m + n / m) / 2)) / 2 : Nat) : Int))] ∧ H'' = H', fun σ' H'' ⟨e1, e2⟩ => ?_, ?_⟩
        · subst e1 e2
          refine ⟨_, hlt, _, rfl, rfl, ?_, by omega, newton_low hg, rfl⟩
          rcases Nat.eq_zero_or_pos ((m + n / m) / 2) with z | z
          · have := newton_low (s := n) hg
            rw [z] at this
            omega
          · exact z
        · have hp : 0 < (m + n / m) / 2 := by
            rcases Nat.eq_zero_or_pos ((m + n / m) / 2) with z | z
            · have := newton_low (s := n) hg
              rw [z] at this
              omega
            · exact z
          refine ⟨_, rfl, _, rfl, _, rfl, _, rfl, _, _, rfl, rfl, ⟨by omega, big _ (by omega)⟩, _, _, rfl, rfl, _, _, rfl, rfl, hc2 _, ?_⟩
          simp only [better_nat]
          exact ⟨rfl, rfl⟩
      · have hge : ¬ (m + n / m) / 2 < m := by have := of_decide_eq_false e; omega
        exact ⟨_, rfl, q m ⟨newton_end hg hge, hgn⟩⟩
end
end My

set_option Elab.async false
set_option linter.all false
set_option maxRecDepth 100000
set_option maxHeartbeats 4000000
namespace My
open PySem L2 PyProof.Rows
section
variable {P : Program} {w : World} {K : PySem.W.Frag} {mg : Str → Option Value} {base : Heap}
/-! ### roots of fractions -/
def HasRoot (p : Fr) : Prop := ∃ a b : Int, a * a = p.1 ∧ b * b = p.2
def RootV (H : Hp) (v : V) (p : Fr) (e : Nat) : Prop := (v = .non ∧ ¬ HasRoot p) ∨ ∃ f : Fr, Fc H v f e ∧ 0 ≤ f.1 ∧ f.1 * f.1 = p.1 ∧ f.2 * f.2 = p.2
theorem sq_nonneg (a : Int) : 0 ≤ a * a := by
  have := Int.natAbs_mul_self (a := a)
  omega
theorem sq_rt {a : Int} {n r : Nat} (h : a * a = (n : Int)) (k : IsRt n r) : r * r = n := by
  have h1 : a.natAbs * a.natAbs = n := by
    have := Int.natAbs_mul_self (a := a)
    omega
  have : IsRt n a.natAbs := ⟨by omega, by rw [← h1]; exact Nat.mul_lt_mul'' (Nat.lt_succ_self _) (Nat.lt_succ_self _)⟩
  rw [k.uniq this]; exact h1
theorem sq_eq {a b : Int} (ha : 0 ≤ a) (hb : 0 ≤ b) (h : a * a = b * b) : a = b := by
  have h1 := Int.natAbs_mul_self (a := a)
  have h2 := Int.natAbs_mul_self (a := b)
  have h3 : a.natAbs * a.natAbs = b.natAbs * b.natAbs := by omega
  have h4 : a.natAbs = b.natAbs := Nat.mul_self_inj.mp h3
  omega
theorem root_fc {H : Hp} {v : V} {p : Fr} {e : Nat} {r s : Nat} (fp : Nrm p) (b1 : p.1.natAbs < 2 ^ e) (b2 : p.2.natAbs < 2 ^ e) (hv : ∃ t, v = .ref t ∧ H t = some (.tup [.int (r : Int), .int (s : Int)])) (h1 : ((r * r : Nat) : Int) = p.1) (h2 : ((s * s : Nat) : Int) = p.2) : RootV H v p e := by
  have hs : 0 < s := by
    rcases Nat.eq_zero_or_pos s with z | z
    · subst z
      have := fp.d
      simp at h2
      omega
    · exact z
  have r1 : r ≤ r * r := by
    rcases Nat.eq_zero_or_pos r with z | z
    · subst z; decide
    · exact Nat.le_mul_of_pos_left _ z
  have s1 : s ≤ s * s := Nat.le_mul_of_pos_left _ hs
  have n1 : p.1.natAbs = r * r := by omega
  have n2 : p.2.natAbs = s * s := by omega
  have g := fp.g
  rw [n1, n2] at g
  refine .inr ⟨((r : Int), (s : Int)), ⟨hv, ⟨by show (1 : Int) ≤ (s : Int); omega, ?_⟩, ?_, ?_⟩, by show (0 : Int) ≤ (r : Int); omega, ?_, ?_⟩
  · show Nat.gcd ((r : Int)).natAbs ((s : Int)).natAbs = 1
    rw [Int.natAbs_natCast, Int.natAbs_natCast]
    exact Nat.Coprime.coprime_dvd_left (Nat.dvd_mul_right r r) (Nat.Coprime.coprime_dvd_right (Nat.dvd_mul_right s s) g)
  · show ((r : Int)).natAbs < 2 ^ e
    omega
  · show ((s : Int)).natAbs < 2 ^ e
    omega
  · show (r : Int) * (r : Int) = p.1
    rw [← Int.natCast_mul]; exact h1
  · show (s : Int) * (s : Int) = p.2
    rw [← Int.natCast_mul]; exact h2
def spRoot : Sp := fun vs H Q _ => ∃ (v : V) (p : Fr) (e : Nat), vs = [v] ∧ Fc H v p e ∧ e ≤ 3000 ∧ ∀ v' H', Same H H' → RootV H' v' p e → Q v' H'
abbrev s_root_of : Stmt := top 7
theorem sc_root_of : FnScope ["one", "n", "d", "top", "bottom"] ["one"] (defScope s_root_of) := ⟨rfl, rfl, rfl, by decide +kernel, rfl, by decide +kernel, by decide +kernel⟩
theorem ok_root_of {f : Addr} {fd : FuncData} (F : Fun K "root_of" "root_of" s_root_of f fd) (T : Txt mg) (g_whole_root : Fn P w K mg base 1 "whole_root" ["square"] spWhole) : FnOk P w K mg base CX0 2 f fd ["one"] spRoot := by
  refine F.okQ sc_root_of (fun vs H Q E h => ?_) (fun cdv A outer s H vs Q E hr h => ?_)
  · obtain ⟨v, p, e, rfl, _⟩ := h; rfl
  · obtain ⟨v, p, e, rfl, fp, he, q⟩ := h
    refine ⟨_, (qb_cons (qs_asg (qv 0) (qg_tup rfl (qgs_cons (qg_name (i := 1) sc_root_of.nd rfl (Or.inl rfl)) (qgs_cons (qg_name (i := 2) sc_root_of.nd rfl (Or.inl rfl)) qgs_nil))))
  (qb_cons (qs_if (qt_cmpR op_lt (qv 1) qe_int (nomark _)) (qb_one (qs_ret qe_non)) qb_nil)
  (qb_cons (qs_par (i := 3) (j := 4) rfl sc_root_of.nd rfl rfl (by decide) rfl rfl (qc (qe_fnS g_whole_root hr (by omega) rfl (qc (qv 1) qa_nil)) (qc (qe_fnS g_whole_root hr (by omega) rfl (qc (qv 2) qa_nil)) qa_nil)) rfl)
  (qb_cons (qs_if (qt_w (qw_or (qt_cmpR op_ne (qe_op op_mulB (qv 3) (qv 3)) (qv 1) (nomark _)) (qw_or1 (qt_cmpR op_ne (qe_op op_mulB (qv 4) (qv 4)) (qv 2) (nomark _))))) (qb_one (qs_ret qe_non)) qb_nil)
  (qb_one (qs_ret (qe_tup (qc (qv 3) (qc (qv 4) qa_nil))))))))), ?_⟩
    obtain ⟨a, rfl, ha⟩ := fp.ex
    have bb : ∀ x : Nat, x < 2 ^ e → x < 2 ^ 3000 := fun x h => Nat.lt_of_lt_of_le h (Nat.pow_le_pow_right (by decide) he)
    refine ⟨_, rfl, a, _, rfl, SqT.of ha, rfl, _, _, rfl, _, _, rfl, rfl, ?_⟩
    refine ⟨_, rfl, _, _, rfl, rfl, _, rfl, itB (fun h0 => ?_) (fun h0 => ?_)⟩
    · have h0 := of_decide_eq_true h0
      exact q _ _ (Same.refl _) (.inl ⟨rfl, fun ⟨x, y, h1, _⟩ => by have := sq_nonneg x; omega⟩)
    · have h0 := of_decide_eq_false h0
      have hd := fp.nr.d
      have p1 : p.1 = ((p.1.natAbs : Nat) : Int) := by omega
      have p2 : p.2 = ((p.2.natAbs : Nat) : Int) := by omega
      refine ⟨_, rfl, p.1.natAbs, by rw [← p1]; rfl, bb _ fp.bn, fun r hr1 => ?_⟩
      refine ⟨_, rfl, p.2.natAbs, by rw [← p2]; rfl, bb _ fp.bd, fun t ht1 => ?_⟩
      refine ⟨_, _, rfl, ?_⟩
      have le : ∀ x y : Nat, IsRt x y → y ≤ x := fun x y h => by
        rcases Nat.eq_zero_or_pos y with z | z
        · omega
        · have := Nat.le_mul_of_pos_left y z; have := h.1; omega
      have m1 : CMulB (r : Int) (r : Int) := ⟨pow8 (Nat.lt_of_le_of_lt (le _ _ hr1) fp.bn) (by omega), pow8 (Nat.lt_of_le_of_lt (le _ _ hr1) fp.bn) (by omega)⟩
      have m2 : CMulB (t : Int) (t : Int) := ⟨pow8 (Nat.lt_of_le_of_lt (le _ _ ht1) fp.bd) (by omega), pow8 (Nat.lt_of_le_of_lt (le _ _ ht1) fp.bd) (by omega)⟩
      refine ⟨_, rfl, _, rfl, _, _, rfl, rfl, m1, _, rfl, rfl, _, rfl, ?_⟩
      by_cases hA : (r : Int) * (r : Int) = p.1
      · rw [decide_eq_true (show V.int ((r : Int) * (r : Int)) = V.int p.1 by rw [hA])]
        refine iteF ?_
        refine ⟨_, rfl, _, rfl, _, _, rfl, rfl, m2, _, rfl, rfl, _, rfl, ?_⟩
        by_cases hB : (t : Int) * (t : Int) = p.2
        · rw [decide_eq_true (show V.int ((t : Int) * (t : Int)) = V.int p.2 by rw [hB])]
          refine iteF ?_
          refine ⟨_, rfl, _, rfl, (by show 2 ≤ sizeLine; decide), fun u hu => ?_⟩
          exact q _ _ (Same.upd hu) (root_fc fp.nr fp.bn fp.bd ⟨u, rfl, upd_same⟩ (by rw [Int.natCast_mul]; exact hA) (by rw [Int.natCast_mul]; exact hB))
        · rw [decide_eq_false (show ¬ V.int ((t : Int) * (t : Int)) = V.int p.2 from fun z => hB (V.int.inj z))]
          refine iteT ?_
          exact q _ _ (Same.refl _) (.inl ⟨rfl, fun ⟨x, y, h1, h2⟩ => hB (by rw [← Int.natCast_mul, sq_rt (h2.trans p2) ht1]; omega)⟩)
      · rw [decide_eq_false (show ¬ V.int ((r : Int) * (r : Int)) = V.int p.1 from fun z => hA (V.int.inj z))]
        refine iteT ?_
        exact q _ _ (Same.refl _) (.inl ⟨rfl, fun ⟨x, y, h1, h2⟩ => hA (by rw [← Int.natCast_mul, sq_rt (h1.trans p1) hr1]; omega)⟩)
end
end My

set_option Elab.async false
set_option linter.all false
set_option maxRecDepth 100000
set_option maxHeartbeats 4000000
namespace My
open PySem L2 PyProof.Rows
section
variable {P : Program} {w : World} {K : PySem.W.Frag} {mg : Str → Option Value} {base : Heap}
/-! ### the law's own roots -/
def spLRoot : Sp := fun vs H Q _ => ∃ n : Nat, vs = [.int (n : Int)] ∧ n < 2 ^ 3000 ∧ ∀ (r : Nat) H', Same H H' → IsRt n r → Q (if r * r = n then .int (r : Int) else .non) H'
abbrev s_lroot_of : Stmt := top 29
theorem sc_lroot_of : FnScope ["_law_number", "_law_root", "_law_figure"] ["_law_number"] (defScope s_lroot_of) := ⟨rfl, rfl, rfl, by decide +kernel, rfl, by decide +kernel, by decide +kernel⟩
theorem rt_le {x y : Nat} (h : y * y ≤ x) : y ≤ x := by
  rcases Nat.eq_zero_or_pos y with z | z
  · omega
  · have := Nat.le_mul_of_pos_left y z; omega
theorem ok_lroot_of {f : Addr} {fd : FuncData} (F : Fun K "_law_root_of" "_law_root_of" s_lroot_of f fd) (T : Txt mg) : FnOk P w K mg base CX0 1 f fd ["_law_number"] spLRoot := by
  refine F.okQ sc_lroot_of (fun vs H Q E h => ?_) (fun cdv A outer s H vs Q E hr h => ?_)
  · obtain ⟨n, rfl, _⟩ := h; rfl
  · obtain ⟨n, rfl, hb, q⟩ := h
    refine ⟨_, (qb_cons (qs_asg (qe_tup (qc qe_int (qc qe_int qa_nil))) (qg_tup rfl (qgs_cons (qg_name (i := 1) sc_lroot_of.nd rfl (Or.inl rfl)) (qgs_cons (qg_name (i := 2) sc_lroot_of.nd rfl (Or.inl rfl)) qgs_nil))))
  (qb_cons (qs_while PassesOwn.never (qt_cmpR op_le (qe_op op_mulB (qv 2) (qv 2)) (qv 0) (nomark _)) (qb_one (qs_set (i := 2) sc_lroot_of.nd rfl (Or.inl rfl) (qe_op op_mulB (qv 2) qe_int))))
  (qb_cons (qs_while PassesOwn.never (qt_cmpR op_gt (qv 2) qe_int (nomark _)) (qb_cons (qs_if (qt_cmpR op_le (qe_op op_mulB (qe_op op_add (qv 1) (qv 2)) (qe_op op_add (qv 1) (qv 2))) (qv 0) (nomark _)) (qb_one (qs_set (i := 1) sc_lroot_of.nd rfl (Or.inl rfl) (qe_op op_add (qv 1) (qv 2)))) qb_nil)
  (qb_one (qs_set (i := 2) sc_lroot_of.nd rfl (Or.inl rfl) (qe_op op_fdivB (qv 2) qe_int)))))
  (qb_one (qs_ret (qe_ifExp (qt_cmpR op_eq (qe_op op_mulB (qv 1) (qv 1)) (qv 0) (nomark _)) (qv 1) qe_non)))))), ?_⟩
    have big : ∀ x : Nat, x ≤ 3 * n + 2 → ((x : Int)).natAbs < 2 ^ 8000 := fun x h => by
      rw [Int.natAbs_natCast]
      have e1 : (2 : Nat) ^ 3002 = 4 * 2 ^ 3000 := by rw [Nat.pow_succ, Nat.pow_succ]; generalize (2 : Nat) ^ 3000 = y; omega
      have e2 : (2 : Nat) ^ 3002 < 2 ^ 8000 := Nat.pow_lt_pow_right (by decide) (by decide)
      have e3 : 0 < (2 : Nat) ^ 3000 := Nat.pow_pos (by decide)
      generalize (2 : Nat) ^ 3000 = y at hb e1 e3
      generalize (2 : Nat) ^ 3002 = z at e1 e2
      generalize (2 : Nat) ^ 8000 = u at e2 ⊢
      omega
    refine ⟨(by show 2 ≤ sizeLine; decide), fun tt htt => ⟨tt, _, rfl, SqT.of upd_same, rfl, _, _, rfl, _, _, rfl, rfl, ?_⟩⟩
    have st := Same.upd (o := .tup [.int 0, .int 1]) htt
    generalize upd H tt (.tup [.int 0, .int 1]) = H0 at st ⊢
    replace q := fun r hh => q r H0 st hh
    refine ⟨fun m σ H' => ∃ (g k : Nat) (G : Int), σ = [some (.int (n : Int)), some (.int 0), some (.int G)] ∧ G = (g : Int) ∧ g = 2 ^ k ∧ m = 2 * n + 2 - g ∧ g ≤ 2 * n + 1 ∧ H' = H0, ⟨_, 1, 0, 1, rfl, rfl, rfl, rfl, by omega, rfl⟩, ?_⟩
    rintro m σ H' ⟨g, k, G, rfl, rfl, hg, rfl, hgn, rfl⟩
    have g0 : 0 < g := by rw [hg]; exact Nat.pow_pos (by decide)
    have mg' : CMulB (g : Int) (g : Int) := ⟨big g (by omega), big g (by omega)⟩
    refine ⟨_, rfl, _, rfl, _, _, rfl, rfl, mg', _, rfl, _, _, rfl, rfl, _, rfl, itB (fun e => ?_) (fun e => ?_)⟩
    · have h1 : g * g ≤ n := by
        have := of_decide_eq_true e
        rw [← Int.natCast_mul] at this
        exact Int.ofNat_le.mp this
      have h2 := rt_le h1
      refine ⟨fun σ' H'' => σ' = [some (.int (n : Int)), some (.int 0), some (.int ((g : Int) * 2))] ∧ H'' = H', fun σ' H'' ⟨e1, e2⟩ => ?_, ?_⟩
      · subst e1 e2
        exact ⟨2 * n + 2 - g * 2, by omega, g * 2, k + 1, _, rfl, by omega, by rw [Nat.pow_succ, hg], rfl, by omega, rfl⟩
      · exact ⟨_, rfl, _, _, rfl, rfl, ⟨big g (by omega), small8 (by decide)⟩, rfl, rfl⟩
    · have h1 : n < g * g := by
        have := of_decide_eq_false e
        rw [← Int.natCast_mul] at this
        exact Nat.lt_of_not_le fun z => this (Int.ofNat_le.mpr z)
      refine ⟨fun m σ H5 => ∃ (r g : Nat) (R G : Int), σ = [some (.int (n : Int)), some (.int R), some (.int G)] ∧ R = (r : Int) ∧ G = (g : Int) ∧ m = g ∧ r * r ≤ n ∧ g ≤ 2 * n + 1 ∧ ((g = 0 ∧ n < (r + 1) * (r + 1)) ∨ ∃ k, g = 2 ^ k ∧ n < (r + 2 * g) * (r + 2 * g)) ∧ H5 = H',
        ⟨_, 0, g, 0, _, rfl, rfl, rfl, rfl, by omega, hgn, .inr ⟨k, hg, ?_⟩, rfl⟩, ?_⟩
      · have := Nat.mul_le_mul (show g ≤ 0 + 2 * g by omega) (show g ≤ 0 + 2 * g by omega)
        omega
      rintro m σ H' ⟨r, g, R, G, rfl, rfl, rfl, rfl, hr2, hgn2, hcase, rfl⟩
      have rle := rt_le hr2
      refine ⟨_, rfl, _, _, rfl, rfl, _, rfl, itB (fun e => ?_) (fun e => ?_)⟩
      · have hm : 0 < m := by have := of_decide_eq_true e; omega
        obtain ⟨k, hk, hn⟩ : ∃ k, m = 2 ^ k ∧ n < (r + 2 * m) * (r + 2 * m) := by
          rcases hcase with ⟨z, _⟩ | z
          · omega
          · exact z
        have hal : ∀ r' : Nat, n < (r' + m) * (r' + m) → (m / 2 = 0 ∧ n < (r' + 1) * (r' + 1)) ∨ ∃ k, m / 2 = 2 ^ k ∧ n < (r' + 2 * (m / 2)) * (r' + 2 * (m / 2)) := fun r' h => by
          cases k with
          | zero =>
            have : m = 1 := hk
            subst this
            exact .inl ⟨rfl, h⟩
          | succ j =>
            have e2 : m / 2 = 2 ^ j := by rw [hk, Nat.pow_succ]; omega
            refine .inr ⟨j, e2, ?_⟩
            have : 2 * (m / 2) = m := by rw [e2, hk, Nat.pow_succ]; omega
            rw [this]; exact h
        refine ⟨fun σ' H'' => ∃ (r' : Nat) (R' G' : Int), σ' = [some (.int (n : Int)), some (.int R'), some (.int G')] ∧ R' = (r' : Int) ∧ G' = ((m / 2 : Nat) : Int) ∧ r' * r' ≤ n ∧ n < (r' + m) * (r' + m) ∧ H'' = H', fun σ' H'' ⟨r', R', G', e1, e2, e3, e4, e5, e6⟩ => ?_, ?_⟩
        · subst e1 e6
          exact ⟨m / 2, by omega, r', m / 2, R', G', rfl, e2, e3, rfl, e4, by omega, hal r' e5, rfl⟩
        · have mm : CMulB ((r : Int) + (m : Int)) ((r : Int) + (m : Int)) := by
            have := big (r + m) (by omega)
            rw [Int.natCast_add] at this
            exact ⟨this, this⟩
          refine ⟨_, rfl, _, rfl, _, _, rfl, rfl, _, rfl, _, rfl, _, _, rfl, rfl, _, _, rfl, rfl, mm, _, rfl, _, _, rfl, rfl, _, rfl, itB (fun e => ?_) (fun e => ?_)⟩
          · have h3 : (r + m) * (r + m) ≤ n := by
              have := of_decide_eq_true e
              rw [← Int.natCast_add, ← Int.natCast_mul] at this
              exact Int.ofNat_le.mp this
            refine ⟨_, rfl, _, rfl, _, _, rfl, rfl, ?_⟩
            refine ⟨_, rfl, _, _, rfl, rfl, cdiv (by decide) (by decide), ?_⟩
            refine ⟨r + m, _, _, rfl, by omega, ?_, h3, ?_, rfl⟩
            · show (m : Int) / 2 = _
              rfl
            · have : r + m + m = r + 2 * m := by omega
              rw [this]; exact hn
          · have h3 : n < (r + m) * (r + m) := by
              have := of_decide_eq_false e
              rw [← Int.natCast_add, ← Int.natCast_mul] at this
              exact Nat.lt_of_not_le fun z => this (Int.ofNat_le.mpr z)
            refine ⟨_, rfl, _, _, rfl, rfl, cdiv (by decide) (by decide), ?_⟩
            refine ⟨r, _, _, rfl, rfl, ?_, hr2, h3, rfl⟩
            show (m : Int) / 2 = _
            rfl
      · have hm : m = 0 := by have := of_decide_eq_false e; omega
        have hn : n < (r + 1) * (r + 1) := by
          rcases hcase with ⟨_, z⟩ | ⟨k, z, _⟩
          · exact z
          · have : 0 < 2 ^ k := Nat.pow_pos (by decide)
            omega
        have q' := q r ⟨hr2, hn⟩
        refine ⟨_, rfl, _, rfl, _, _, rfl, rfl, ⟨big r (by omega), big r (by omega)⟩, _, rfl, rfl, _, rfl, ?_⟩
        by_cases hA : r * r = n
        · rw [if_pos hA] at q'
          rw [decide_eq_true (show V.int ((r : Int) * (r : Int)) = V.int (n : Int) by rw [← Int.natCast_mul, hA])]
          exact iteT ⟨_, rfl, q'⟩
        · rw [if_neg hA] at q'
          rw [decide_eq_false (show ¬ V.int ((r : Int) * (r : Int)) = V.int (n : Int) from fun z => hA (by have := V.int.inj z; rw [← Int.natCast_mul] at this; exact Int.ofNat.inj this))]
          exact iteF q'
end
end My

set_option Elab.async false
set_option linter.all false
set_option maxRecDepth 100000
set_option maxHeartbeats 4000000
namespace My
open PySem L2 PyProof.Rows
section
variable {P : Program} {w : World} {K : PySem.W.Frag} {mg : Str → Option Value} {base : Heap}
/-! ### == and != of tuples -/
theorem alike_eqAt {X : Cx} {pins : List (Addr × Obj)} {σ : L2.St} {H : Hp} {s : Shared} (I : Inv X pins σ H s) : ∀ (n : Nat) {A : Around} {x y : V} {u v : Value}, Alike H n x y → RelV x u → RelV y v → A.units + n < cLine → SeqAt.EqAt A s u v true := by
  have sc : ∀ {A : Around} {x : V} {u v : Value}, Sc x → RelV x u → RelV x v → SeqAt.EqAt A s u v true := fun {A x u v} h rx ry => by
    cases x with
    | int i =>
      have := eqAt_V (A := A) (s := s) rx ry rfl rfl
      rwa [show eqV (.int i) (.int i) = true by simp [eqV]] at this
    | bl i =>
      have := eqAt_V (A := A) (s := s) rx ry rfl rfl
      rwa [show eqV (.bl i) (.bl i) = true by simp [eqV]] at this
    | non => exact eqAt_V (A := A) (s := s) rx ry rfl rfl
    | str i =>
      have := eqAt_V (A := A) (s := s) rx ry rfl rfl
      rwa [show eqV (.str i) (.str i) = true by simp [eqV]] at this
    | _ => exact absurd h (by intro z; exact z)
  intro n
  induction n with
  | zero =>
    intro A x y u v h rx ry _
    obtain ⟨rfl, h⟩ := h
    exact sc h rx ry
  | succ n ih =>
    intro A x y u v h rx ry hu
    rcases h with ⟨rfl, h⟩ | ⟨κ, a, b, xs, ys, rfl, rfl, ha, hb, hl, h2, hk⟩
    · exact sc h rx ry
    · cases rx; cases ry
      by_cases hab : a = b
      · subst hab; exact SeqAt.EqAt.same _
      · refine SeqAt.EqAt.of_refs hab ?_
        have el : ∀ {its js : List Value}, Vals xs its → Vals ys js → ∀ j (h1 : j < its.toArray.size) (h2 : j < js.toArray.size), SeqAt.EqAt A.in1 s its.toArray[j] js.toArray[j] true := fun {its js} rx ry j h1 h2 => by
          have l1 := rx.length; have l2 := ry.length
          have h1' : j < its.length := by simpa using h1
          have h2' : j < js.length := by simpa using h2
          obtain ⟨u1, e1, r1⟩ := rx.get (i := j) (x := xs[j]'(by omega)) (List.getElem?_eq_getElem _)
          obtain ⟨v1, e2, r2⟩ := ry.get (i := j) (x := ys[j]'(by omega)) (List.getElem?_eq_getElem _)
          have q1 : its.toArray[j] = u1 := by
            rw [List.getElem?_eq_getElem h1'] at e1
            simpa using Option.some.inj e1
          have q2 : js.toArray[j] = v1 := by
            rw [List.getElem?_eq_getElem h2'] at e2
            simpa using Option.some.inj e2
          rw [q1, q2]
          exact ih (hk j _ _ (List.getElem?_eq_getElem _) (List.getElem?_eq_getElem _)) r1 r2 (by show A.units + 1 + n < cLine; omega)
        cases κ
        · obtain ⟨its, rx, px, _⟩ := I.list (SqL.of ha)
          obtain ⟨js, ry, py, _⟩ := I.list (SqL.of hb)
          have l1 := rx.length; have l2 := ry.length
          have := SeqAt.RcAt.lists (A := A) (e := fun _ => true) px.isList py.isList (by simp; omega) (by omega) (el rx ry)
          rw [show (List.range its.toArray.size).all (fun _ => true) = true by simp] at this
          exact this
        · obtain ⟨its, rx, px, _⟩ := I.tuple (SqT.of ha)
          obtain ⟨js, ry, py, _⟩ := I.tuple (SqT.of hb)
          have l1 := rx.length; have l2 := ry.length
          have := SeqAt.RcAt.tuples (A := A) (e := fun _ => true) px py (by omega) (el rx ry)
          rw [show ((List.range (min its.toArray.size js.toArray.size)).all (fun _ => true) && its.toArray.size == js.toArray.size) = true by simp; omega] at this
          exact this
/-- == of two pairs of numbers -/
def rEqP : R2 := fun x y H Q => ∃ (a c : Addr) (i j k l : Int), x = .ref a ∧ y = .ref c ∧ H a = some (.tup [.int i, .int j]) ∧ H c = some (.tup [.int k, .int l]) ∧ Q (.bl (decide (i = k ∧ j = l))) H
theorem op_eqP {X : Cx} (hu : X.A.units < cLine) : OpR X (compareOp .Eq) rEqP := by
  intro pins s σ H x y v u Q I rx ry h
  obtain ⟨a, c, i, j, k, l, rfl, rfl, ha, hc, q⟩ := h
  cases rx; cases ry
  obtain ⟨its, r1, p1, _⟩ := I.tuple (SqT.of ha)
  obtain ⟨js, r2, p2, _⟩ := I.tuple (SqT.of hc)
  obtain ⟨u1, u2, rfl, ⟨t1, rfl⟩, ⟨t2, rfl⟩⟩ := Vals.two r1
  obtain ⟨w1, w2, rfl, ⟨t3, rfl⟩, ⟨t4, rfl⟩⟩ := Vals.two r2
  refine SeqAt.eq_tupleAt (e := fun n => if n = 0 then i == k else j == l) p1 p2 hu (fun n h1 h2 => ?_) (fin_bl I q ?_)
  · have : n < 2 := by simpa using h1
    match n, this with
    | 0, _ => exact SeqAt.EqAt.int_int i t1 k t3
    | 1, _ => exact SeqAt.EqAt.int_int j t2 l t4
  · rw [Bool.eq_iff_iff]
    simp [List.range, List.range.loop]
/-- != of things that are alike: lists, tuples, None -/
def rNeA : R2 := fun x y H Q => (∃ n : Nat, n ≤ 20 ∧ Alike H (n + 1) x y ∧ ((x = .non ∧ y = .non) ∨ ∃ a b κ xs ys, x = .ref a ∧ y = .ref b ∧ H a = some (Ob κ xs) ∧ H b = some (Ob κ ys) ∧ xs.length = ys.length ∧ ∀ (i : Nat) u v, xs[i]? = some u → ys[i]? = some v → Alike H n u v)) ∧ Q (.bl false) H
theorem op_neA {X : Cx} {k : Nat} (hr : Room k X.A) : OpR X (compareOp .NotEq) rNeA := by
  intro pins s σ H x y v u Q I rx ry h
  obtain ⟨⟨n, hn, hA, h⟩, q⟩ := h
  rcases h with ⟨rfl, rfl⟩ | ⟨a, b, κ, xs, ys, rfl, rfl, ha, hb, hl, hk⟩
  · cases rx; cases ry
    exact PySem.EqNone.ne_none_none (fin_bl I q rfl)
  · cases rx; cases ry
    have hu := hr.units
    have el : ∀ {its js : List Value}, Vals xs its → Vals ys js → ∀ j (h1 : j < its.toArray.size) (h2 : j < js.toArray.size), SeqAt.EqAt X.A.in1 s its.toArray[j] js.toArray[j] true := fun {its js} rx ry j h1 h2 => by
      have l1 := rx.length; have l2 := ry.length
      have h1' : j < its.length := by simpa using h1
      have h2' : j < js.length := by simpa using h2
      obtain ⟨u1, e1, r1⟩ := rx.get (i := j) (x := xs[j]'(by omega)) (List.getElem?_eq_getElem _)
      obtain ⟨v1, e2, r2⟩ := ry.get (i := j) (x := ys[j]'(by omega)) (List.getElem?_eq_getElem _)
      have q1 : its.toArray[j] = u1 := by
        rw [List.getElem?_eq_getElem h1'] at e1
        simpa using Option.some.inj e1
      have q2 : js.toArray[j] = v1 := by
        rw [List.getElem?_eq_getElem h2'] at e2
        simpa using Option.some.inj e2
      rw [q1, q2]
      exact alike_eqAt I n (hk j _ _ (List.getElem?_eq_getElem _) (List.getElem?_eq_getElem _)) r1 r2 (by show X.A.units + 1 + n < cLine; omega)
    cases κ
    · obtain ⟨its, rx, px, _⟩ := I.list (SqL.of ha)
      obtain ⟨js, ry, py, _⟩ := I.list (SqL.of hb)
      have l1 := rx.length; have l2 := ry.length
      exact SeqAt.RcNeAt.lists (A := X.A) (e := fun _ => true) px.isList py.isList (by simp; omega) (by omega) (el rx ry) X.prog X.w X.xe _ (fin_bl I q (by simp))
    · obtain ⟨its, rx, px, _⟩ := I.tuple (SqT.of ha)
      obtain ⟨js, ry, py, _⟩ := I.tuple (SqT.of hb)
      have l1 := rx.length; have l2 := ry.length
      exact SeqAt.RcNeAt.tuples (A := X.A) (e := fun _ => true) px py (by omega) (el rx ry) X.prog X.w X.xe _ (fin_bl I q (by simp; omega))
end
end My

set_option Elab.async false
set_option linter.all false
set_option maxRecDepth 100000
set_option maxHeartbeats 4000000
namespace My
open PySem L2 PyProof.Rows
section
variable {P : Program} {w : World} {K : PySem.W.Frag} {mg : Str → Option Value} {base : Heap}
/-! ### lengths and units -/
theorem sq_mul {p : Fr} (h : Nrm p) : fmul p p = (p.1 * p.1, p.2 * p.2) := by
  have n : Nrm (p.1 * p.1, p.2 * p.2) := ⟨by
      show (1 : Int) ≤ p.2 * p.2
      have := Int.mul_pos (show 0 < p.2 by have := h.d; omega) (show 0 < p.2 by have := h.d; omega)
      omega, by
      show Nat.gcd (p.1 * p.1).natAbs (p.2 * p.2).natAbs = 1
      rw [Int.natAbs_mul, Int.natAbs_mul]
      exact Nat.Coprime.mul_left (Nat.Coprime.mul_right h.g h.g) (Nat.Coprime.mul_right h.g h.g)⟩
  refine val_inj (nrm_mul h h) n ?_
  rw [val_mul h h]
  have := h.neR
  show (p.1 : Rat) / (p.2 : Rat) * ((p.1 : Rat) / (p.2 : Rat)) = ((p.1 * p.1 : Int) : Rat) / ((p.2 * p.2 : Int) : Rat)
  rw [Rat.intCast_mul, Rat.intCast_mul]
  grind
theorem root_eq {p f g : Fr} (hf : Nrm f) (hg : Nrm g) (f0 : 0 ≤ f.1) (g0 : 0 ≤ g.1) (a1 : f.1 * f.1 = p.1) (a2 : f.2 * f.2 = p.2) (b1 : g.1 * g.1 = p.1) (b2 : g.2 * g.2 = p.2) : f = g := by
  have := hf.d
  have := hg.d
  exact Prod.ext (sq_eq f0 g0 (a1.trans b1.symm)) (sq_eq (by omega) (by omega) (a2.trans b2.symm))
theorem RootV.alike {H : Hp} {v w : V} {p : Fr} {e f n : Nat} (h : RootV H v p e) (k : RootV H w p f) : Alike H (n + 1) v w := by
  rcases h with ⟨rfl, h⟩ | ⟨f, hf, f0, f1, f2⟩ <;> rcases k with ⟨rfl, k⟩ | ⟨g, hg, g0, g1, g2⟩
  · exact Alike.sc trivial
  · exact absurd ⟨_, _, g1, g2⟩ h
  · exact absurd ⟨_, _, f1, f2⟩ k
  · exact hf.alike hg (root_eq hf.nr hg.nr f0 g0 f1 f2 g1 g2)
theorem RootV.mono {H H' : Hp} {v : V} {p : Fr} {e : Nat} (h : RootV H v p e) (s : Same H H') : RootV H' v p e := by
  rcases h with h | ⟨f, hf, r⟩
  · exact .inl h
  · exact .inr ⟨f, hf.mono s, r⟩
theorem nrm_over {p q : Fr} (hp : Nrm p) (hq : Nrm q) (h : q.1 ≠ 0) : Nrm (fover p q) := low_nrm (Int.mul_ne_zero hp.ne h)
theorem val_over {p q : Fr} (hp : Nrm p) (hq : Nrm q) (h : q.1 ≠ 0) : val (fover p q) = val p / val q := by
  have h1 := hp.neR
  have h2 := hq.neR
  have h3 : (q.1 : Rat) ≠ 0 := by exact_mod_cast h
  unfold fover
  rw [val_low (Int.mul_ne_zero hp.ne h)]
  unfold val
  push_cast
  grind
theorem val_ne {q : Fr} (hq : Nrm q) (h : q.1 ≠ 0) : val q ≠ 0 := by
  have h2 := hq.neR
  have h3 : (q.1 : Rat) ≠ 0 := by exact_mod_cast h
  unfold val
  grind
theorem nrm_dot {x y : Fr} (hx : Nrm x) (hy : Nrm y) : Nrm (fdot x y x y) := nrm_add (nrm_mul hx hx) (nrm_mul hy hy)
theorem val_dot {x y : Fr} (hx : Nrm x) (hy : Nrm y) : val (fdot x y x y) = val x * val x + val y * val y := by
  unfold fdot
  rw [val_add (nrm_mul hx hx) (nrm_mul hy hy), val_mul hx hx, val_mul hy hy]
theorem root_val {p f : Fr} (hp : Nrm p) (hf : Nrm f) (h1 : f.1 * f.1 = p.1) (h2 : f.2 * f.2 = p.2) : val f * val f = val p := by
  rw [← val_mul hf hf, sq_mul hf, h1, h2]
theorem root_of_val {p f : Fr} (hp : Nrm p) (hf : Nrm f) (h : val f * val f = val p) : f.1 * f.1 = p.1 ∧ f.2 * f.2 = p.2 := by
  have := val_inj (nrm_mul hf hf) hp (by rw [val_mul hf hf]; exact h)
  rw [sq_mul hf] at this
  exact ⟨congrArg Prod.fst this, congrArg Prod.snd this⟩
theorem dot_nonneg {x y : Fr} (hx : Nrm x) (hy : Nrm y) : 0 ≤ (fdot x y x y).1 := by
  unfold fdot
  rw [sq_mul hx, sq_mul hy]
  unfold fadd
  have a1 := sq_nonneg x.1
  have a2 := sq_nonneg y.1
  have a3 := sq_nonneg x.2
  have a4 := sq_nonneg y.2
  have a5 : 0 ≤ x.1 * x.1 * (y.2 * y.2) + y.1 * y.1 * (x.2 * x.2) := Int.add_nonneg (Int.mul_nonneg a1 a4) (Int.mul_nonneg a2 a3)
  have nd : x.2 * x.2 * (y.2 * y.2) ≠ 0 := Int.mul_ne_zero (Int.mul_ne_zero hx.ne hx.ne) (Int.mul_ne_zero hy.ne hy.ne)
  have pd : 0 < x.2 * x.2 * (y.2 * y.2) := by
    have := Int.mul_nonneg a3 a4
    omega
  have c := low_cross (n := x.1 * x.1 * (y.2 * y.2) + y.1 * y.1 * (x.2 * x.2)) nd
  have d := (low_nrm (n := x.1 * x.1 * (y.2 * y.2) + y.1 * y.1 * (x.2 * x.2)) nd).d
  show 0 ≤ lowN _ _
  replace d : (1 : Int) ≤ lowD (x.1 * x.1 * (y.2 * y.2) + y.1 * y.1 * (x.2 * x.2)) (x.2 * x.2 * (y.2 * y.2)) := d
  generalize lowN (x.1 * x.1 * (y.2 * y.2) + y.1 * y.1 * (x.2 * x.2)) (x.2 * x.2 * (y.2 * y.2)) = A at c ⊢
  generalize lowD (x.1 * x.1 * (y.2 * y.2) + y.1 * y.1 * (x.2 * x.2)) (x.2 * x.2 * (y.2 * y.2)) = B at c d
  have r : 0 ≤ A * (x.2 * x.2 * (y.2 * y.2)) := by rw [c]; exact Int.mul_nonneg a5 (by omega)
  exact Int.le_of_mul_le_mul_right (by rw [Int.zero_mul]; exact r) pd
def spLen : Sp := fun vs H Q _ => ∃ (v : V) (x y : Fr) (e : Nat), vs = [v] ∧ Vc H v x y e ∧ e ≤ 300 ∧ ∀ v' H', Same H H' → RootV H' v' (fdot x y x y) (4 * e + 3) → Q v' H'
abbrev s_length_of : Stmt := top 11
theorem sc_length_of : FnScope ["vector"] ["vector"] (defScope s_length_of) := ⟨rfl, rfl, rfl, by decide +kernel, rfl, by decide +kernel, by decide +kernel⟩
theorem ok_length_of {f : Addr} {fd : FuncData} (F : Fun K "length_of" "length_of" s_length_of f fd) (T : Txt mg) (g_dot : Fn P w K mg base 4 "dot" ["one", "other"] (spDot fdot)) (g_root_of : Fn P w K mg base 2 "root_of" ["one"] spRoot) : FnOk P w K mg base CX0 5 f fd ["vector"] spLen := by
  refine F.okQ sc_length_of (fun vs H Q E h => ?_) (fun cdv A outer s H vs Q E hr h => ?_)
  · obtain ⟨v, x, y, e, rfl, _⟩ := h; rfl
  · obtain ⟨v, x, y, e, rfl, hv, he, q⟩ := h
    refine ⟨_, (qb_one (qs_ret (qe_fnS g_root_of hr (by omega) rfl (qc (qe_fnS g_dot hr (by omega) rfl (qc (qv 0) (qc (qv 0) qa_nil))) qa_nil)))), ?_⟩
    refine ⟨_, rfl, _, rfl, v, v, x, y, x, y, e, e, rfl, hv, hv, by omega, fun r H1 s1 c1 => ?_⟩
    refine ⟨_, _, 4 * e + 3, rfl, c1.up (by omega), by omega, fun v' H2 s2 r2 => ?_⟩
    exact q _ _ (s1.trans s2) r2
abbrev s_length : Stmt := top 30
theorem sc_length : FnScope ["_law_vector", "_law_square", "_law_top", "_law_bottom"] ["_law_vector"] (defScope s_length) := ⟨rfl, rfl, rfl, by decide +kernel, rfl, by decide +kernel, by decide +kernel⟩
theorem ok_length {f : Addr} {fd : FuncData} (F : Fun K "_law_length" "_law_length" s_length f fd) (T : Txt mg) (g_product : Fn P w K mg base 2 "_law_product" ["_law_p", "_law_q"] (spBin fmul)) (g_sum : Fn P w K mg base 2 "_law_sum" ["_law_p", "_law_q"] (spBin fadd)) (g_lroot_of : Fn P w K mg base 1 "_law_root_of" ["_law_number"] spLRoot) : FnOk P w K mg base CX0 3 f fd ["_law_vector"] spLen := by
  refine F.okQ sc_length (fun vs H Q E h => ?_) (fun cdv A outer s H vs Q E hr h => ?_)
  · obtain ⟨v, x, y, e, rfl, _⟩ := h; rfl
  · obtain ⟨v, x, y, e, rfl, ⟨p, vx, vy, rfl, hp, fx, fy⟩, he, q⟩ := h
    refine ⟨_, (qb_cons (qs_set (i := 1) sc_length.nd rfl (Or.inl rfl) (qe_fnS g_sum hr (by omega) rfl (qc (qe_fnS g_product hr (by omega) rfl (qc (qe_ix ix_tup (qv 0) qe_int (fun _ _ => rfl)) (qc (qe_ix ix_tup (qv 0) qe_int (fun _ _ => rfl)) qa_nil))) (qc (qe_fnS g_product hr (by omega) rfl (qc (qe_ix ix_tup (qv 0) qe_int (fun _ _ => rfl)) (qc (qe_ix ix_tup (qv 0) qe_int (fun _ _ => rfl)) qa_nil))) qa_nil))))
  (qb_cons (qs_par (i := 2) (j := 3) rfl sc_length.nd rfl rfl (by decide) rfl rfl (qc (qe_fnS g_lroot_of hr (by omega) rfl (qc (qe_ix ix_tup (qv 1) qe_int (fun _ _ => rfl)) qa_nil)) (qc (qe_fnS g_lroot_of hr (by omega) rfl (qc (qe_ix ix_tup (qv 1) qe_int (fun _ _ => rfl)) qa_nil)) qa_nil)) rfl)
  (qb_one (qs_ret (qe_ifExp (qt_w (qw_or (qt_cmpR op_isN (qv 2) qe_non (nomark _)) (qw_or1 (qt_cmpR op_isN (qv 3) qe_non (nomark _))))) qe_non (qe_tup (qc (qv 2) (qc (qv 3) qa_nil)))))))), ?_⟩
    refine ⟨_, rfl, p, _, _, _, rfl, rfl, SqT.of hp, at0, _, rfl, p, _, _, _, rfl, rfl, SqT.of hp, at0, vx, vx, x, x, e, e, rfl, fx, fx, by omega, fun r1 H1 s1 c1 => ?_⟩
    have hp1 := s1 _ _ hp
    refine ⟨_, rfl, p, _, _, _, rfl, rfl, SqT.of hp1, at1, _, rfl, p, _, _, _, rfl, rfl, SqT.of hp1, at1, vy, vy, y, y, e, e, rfl, fy.mono s1, fy.mono s1, by omega, fun r2 H2 s2 c2 => ?_⟩
    refine ⟨r1, r2, _, _, _, _, rfl, c1.mono s2, c2, by omega, fun r3 H3 s3 c3 => ?_⟩
    replace c3 : Fc H3 r3 (fdot x y x y) (4 * e + 3) := c3.up (by omega)
    have sA := (s1.trans s2).trans s3
    have h0 := dot_nonneg fx.nr fy.nr
    generalize fdot x y x y = d at c3 h0 q
    obtain ⟨a, rfl, ha⟩ := c3.ex
    have bb : ∀ x : Nat, x < 2 ^ (4 * e + 3) → x < 2 ^ 3000 := fun x h => Nat.lt_of_lt_of_le h (Nat.pow_le_pow_right (by decide) (by omega))
    have hd := c3.nr.d
    have p1 : d.1 = ((d.1.natAbs : Nat) : Int) := by omega
    have p2 : d.2 = ((d.2.natAbs : Nat) : Int) := by omega
    refine ⟨_, rfl, a, _, _, _, rfl, rfl, SqT.of ha, at0, d.1.natAbs, by rw [← p1]; rfl, bb _ c3.bn, fun r H4 s4 hr1 => ?_⟩
    refine ⟨_, rfl, a, _, _, _, rfl, rfl, SqT.of (s4 _ _ ha), at1, d.2.natAbs, by rw [← p2]; rfl, bb _ c3.bd, fun t H5 s5 ht1 => ?_⟩
    refine ⟨_, _, rfl, ?_⟩
    have sB := (sA.trans s4).trans s5
    by_cases hA : r * r = d.1.natAbs
    · rw [if_pos hA]
      refine ⟨_, rfl, rfl, _, rfl, iteF ?_⟩
      by_cases hB : t * t = d.2.natAbs
      · rw [if_pos hB]
        refine ⟨_, rfl, rfl, _, rfl, iteF ?_⟩
        refine ⟨_, rfl, _, rfl, (by show 2 ≤ sizeLine; decide), fun u hu => ?_⟩
        exact q _ _ (sB.trans (Same.upd hu)) (root_fc c3.nr c3.bn c3.bd ⟨u, rfl, upd_same⟩ (by rw [hA]; exact p1.symm) (by rw [hB]; exact p2.symm))
      · rw [if_neg hB]
        refine ⟨_, rfl, rfl, _, rfl, iteT ?_⟩
        exact q _ _ sB (.inl ⟨rfl, fun ⟨x, y, h1, h2⟩ => hB (sq_rt (h2.trans p2) ht1)⟩)
    · rw [if_neg hA]
      refine ⟨_, rfl, rfl, _, rfl, iteT ?_⟩
      exact q _ _ sB (.inl ⟨rfl, fun ⟨x, y, h1, h2⟩ => hA (sq_rt (h1.trans p1) hr1)⟩)
/-- what unit_of tells of (x, y) -/
def UnitV (H : Hp) (v : V) (x y : Fr) (e : Nat) : Prop := (v = .non ∧ (¬ HasRoot (fdot x y x y) ∨ (fdot x y x y).1 = 0)) ∨ ∃ l : Fr, Nrm l ∧ 0 < l.1 ∧ l.1 * l.1 = (fdot x y x y).1 ∧ l.2 * l.2 = (fdot x y x y).2 ∧ Vc H v (fover x l) (fover y l) e
theorem UnitV.mono {H H' : Hp} {v : V} {x y : Fr} {e : Nat} (h : UnitV H v x y e) (s : Same H H') : UnitV H' v x y e := by
  rcases h with h | ⟨l, h1, h2, h3, h4, h5⟩
  · exact .inl h
  · exact .inr ⟨l, h1, h2, h3, h4, h5.mono s⟩
def spUnit : Sp := fun vs H Q _ => ∃ (v : V) (x y : Fr) (e : Nat), vs = [v] ∧ Vc H v x y e ∧ e ≤ 300 ∧ ∀ v' H', Same H H' → UnitV H' v' x y (5 * e + 4) → Q v' H'
abbrev s_unit_of : Stmt := top 12
theorem sc_unit_of : FnScope ["vector", "length"] ["vector"] (defScope s_unit_of) := ⟨rfl, rfl, rfl, by decide +kernel, rfl, by decide +kernel, by decide +kernel⟩
theorem root0 {p f : Fr} (h1 : f.1 * f.1 = p.1) (h : f.1 = 0) : p.1 = 0 := by rw [← h1, h]; rfl
theorem one_of_zero {f : Fr} (h : Nrm f) (h0 : f.1 = 0) : f.2 = 1 := by
  have g := h.g
  rw [h0] at g
  have := h.d
  have g2 : f.2.natAbs = 1 := by simpa using g
  omega
theorem ok_unit_of {f : Addr} {fd : FuncData} (F : Fun K "unit_of" "unit_of" s_unit_of f fd) (T : Txt mg) (g_length_of : Fn P w K mg base 5 "length_of" ["vector"] spLen) (g_over : Fn P w K mg base 3 "over" ["one", "other"] spOver) : FnOk P w K mg base CX0 6 f fd ["vector"] spUnit := by
  refine F.okQ sc_unit_of (fun vs H Q E h => ?_) (fun cdv A outer s H vs Q E hr h => ?_)
  · obtain ⟨v, x, y, e, rfl, _⟩ := h; rfl
  · obtain ⟨v, x, y, e, rfl, hv, he, q⟩ := h
    refine ⟨_, (qb_cons (qs_set (i := 1) sc_unit_of.nd rfl (Or.inl rfl) (qe_fnS g_length_of hr (by omega) rfl (qc (qv 0) qa_nil)))
  (qb_cons (qs_if (qt_w (qw_or (qt_cmpR op_isN (qv 1) qe_non (nomark _)) (qw_or1 (qt_cmpR (op_eqP hr.units0) (qv 1) (qe_tup (qc qe_int (qc qe_int qa_nil))) (nomark _))))) (qb_one (qs_ret qe_non)) qb_nil)
  (qb_one (qs_ret (qe_tup (qc (qe_fnS g_over hr (by omega) rfl (qc (qe_ix ix_tup (qv 0) qe_int (fun _ _ => rfl)) (qc (qv 1) qa_nil))) (qc (qe_fnS g_over hr (by omega) rfl (qc (qe_ix ix_tup (qv 0) qe_int (fun _ _ => rfl)) (qc (qv 1) qa_nil))) qa_nil))))))), ?_⟩
    refine ⟨_, rfl, v, x, y, e, rfl, hv, he, fun l H1 s1 rl => ?_⟩
    rcases rl with ⟨rfl, hn⟩ | ⟨l, hl, l0, l1, l2⟩
    · refine ⟨_, rfl, rfl, _, rfl, iteT ?_⟩
      exact q _ _ s1 (.inl ⟨rfl, .inl hn⟩)
    · obtain ⟨a, rfl, ha⟩ := hl.ex
      refine ⟨_, rfl, rfl, _, rfl, iteF ?_⟩
      refine ⟨_, rfl, (by show 2 ≤ sizeLine; decide), fun z hz => ?_⟩
      have s2 := Same.upd (o := .tup [.int 0, .int 1]) hz
      have fz := upd_same (H := H1) (a := z) (o := .tup [.int 0, .int 1])
      generalize upd H1 z (.tup [.int 0, .int 1]) = H2 at s2 fz ⊢
      have ha2 := s2 _ _ ha
      refine ⟨a, z, _, _, _, _, rfl, rfl, ha2, fz, _, rfl, ?_⟩
      by_cases h0 : l.1 = 0
      · rw [decide_eq_true (show l.1 = 0 ∧ l.2 = 1 from ⟨h0, one_of_zero hl.nr h0⟩)]
        refine iteT ?_
        exact q _ _ (s1.trans s2) (.inl ⟨rfl, .inr (root0 l1 h0)⟩)
      · rw [decide_eq_false (show ¬ (l.1 = 0 ∧ l.2 = 1) from fun z => h0 z.1)]
        refine iteF ?_
        have sA := s1.trans s2
        obtain ⟨p, vx, vy, rfl, hp, fx, fy⟩ := hv.mono sA
        have L := hl.mono s2
        refine ⟨_, rfl, p, _, _, _, rfl, rfl, SqT.of hp, at0, _, rfl, vx, _, x, l, e, 4 * e + 3, rfl, fx, L, by omega, h0, fun r1 H3 s3 c1 => ?_⟩
        refine ⟨_, rfl, p, _, _, _, rfl, rfl, SqT.of (s3 _ _ hp), at1, _, rfl, vy, _, y, l, e, 4 * e + 3, rfl, fy.mono s3, L.mono s3, by omega, h0, fun r2 H4 s4 c2 => ⟨(by show 2 ≤ sizeLine; decide), fun r hr' => ?_⟩⟩
        have s5 := Same.upd (o := .tup [r1, r2]) hr'
        refine q _ _ (((sA.trans s3).trans s4).trans s5) (.inr ⟨l, hl.nr, by omega, l1, l2, r, r1, r2, rfl, upd_same, ?_, ?_⟩)
        · exact ((c1.mono s4).mono s5).up (by omega)
        · exact (c2.mono s5).up (by omega)
end
end My

set_option Elab.async false
set_option linter.all false
set_option maxRecDepth 100000
set_option maxHeartbeats 4000000
namespace My
open PySem L2 PyProof.Rows
section
variable {P : Program} {w : World} {K : PySem.W.Frag} {mg : Str → Option Value} {base : Heap}
/-! ### right, of a vector -/
def spRight : Sp := fun vs H Q _ => ∃ (v : V) (x y : Fr) (e : Nat), vs = [v] ∧ Vc H v x y e ∧ e ≤ 60 ∧ ∀ H', Same H H' → Q (.bl true) H'
abbrev s_right : Stmt := top 31
theorem sc_right : FnScope ["_law_vector", "_law_share", "_law_due", "_law_found"] ["_law_vector"] (defScope s_right) := ⟨rfl, rfl, rfl, by decide +kernel, rfl, by decide +kernel, by decide +kernel⟩
theorem flip_fc {H : Hp} {t : Addr} {l : Fr} {e : Nat} (h : H t = some (.tup [.int l.2, .int l.1])) (n : Nrm l) (p : 0 < l.1) (b1 : l.1.natAbs < 2 ^ e) (b2 : l.2.natAbs < 2 ^ e) : Fc H (.ref t) (l.2, l.1) e :=
  ⟨⟨t, rfl, h⟩, ⟨by show (1 : Int) ≤ l.1; omega, by show Nat.gcd l.2.natAbs l.1.natAbs = 1; rw [Nat.gcd_comm]; exact n.g⟩, b2, b1⟩
theorem one_dot {x y l : Fr} (hx : Nrm x) (hy : Nrm y) (hl : Nrm l) (p : 0 < l.1) (h1 : l.1 * l.1 = (fdot x y x y).1) (h2 : l.2 * l.2 = (fdot x y x y).2) : fdot (fover x l) (fover y l) (fover x l) (fover y l) = (1, 1) := by
  have p' : l.1 ≠ 0 := by omega
  have n1 := nrm_over hx hl p'
  have n2 := nrm_over hy hl p'
  refine val_inj (nrm_dot n1 n2) (nrm_int 1) ?_
  have hv := val_ne hl p'
  have r := root_val (nrm_dot hx hy) hl h1 h2
  rw [val_dot hx hy] at r
  rw [val_dot n1 n2, val_over hx hl p', val_over hy hl p']
  have o : val (1, 1) = 1 := by unfold val; decide +kernel
  rw [o]
  grind
theorem back_mul {x l : Fr} (hx : Nrm x) (hl : Nrm l) (p : 0 < l.1) : fmul (fover x l) l = x := by
  have p' : l.1 ≠ 0 := by omega
  have n1 := nrm_over hx hl p'
  refine val_inj (nrm_mul n1 hl) hx ?_
  have hv := val_ne hl p'
  rw [val_mul n1 hl, val_over hx hl p']
  grind
theorem ok_right {f : Addr} {fd : FuncData} (F : Fun K "_law_right" "_law_right" s_right f fd) (T : Txt mg) (g_length : Fn P w K mg base 3 "_law_length" ["_law_vector"] spLen) (g_unit_of : Fn P w K mg base 6 "unit_of" ["vector"] spUnit) (g_length_of : Fn P w K mg base 5 "length_of" ["vector"] spLen)
    (g_product : Fn P w K mg base 2 "_law_product" ["_law_p", "_law_q"] (spBin fmul)) (g_dot : Fn P w K mg base 4 "dot" ["one", "other"] (spDot fdot)) (g_scaled : Fn P w K mg base 4 "scaled" ["vector", "by"] spVF) (g_like : Fn P w K mg base 4 "_law_like" ["_law_found", "_law_due"] (spLike 3)) : FnOk P w K mg base CX0 7 f fd ["_law_vector"] spRight := by
  refine F.okQ sc_right (fun vs H Q E h => ?_) (fun cdv A outer s H vs Q E hr h => ?_)
  · obtain ⟨v, x, y, e, rfl, _⟩ := h; rfl
  · obtain ⟨v, x, y, e, rfl, hv, he, q⟩ := h
    refine ⟨_, (qb_cons (qs_par (i := 2) (j := 3) rfl sc_right.nd rfl rfl (by decide) rfl rfl (qc (qe_fnS g_length hr (by omega) rfl (qc (qv 0) qa_nil)) (qc (qe_fnS g_unit_of hr (by omega) rfl (qc (qv 0) qa_nil)) qa_nil)) rfl)
  (qb_cons (qs_if (qt_not (qt_val (qe_fnS g_like hr (by omega) rfl (qc (qe_fnS g_length_of hr (by omega) rfl (qc (qv 0) qa_nil)) (qc (qv 2) qa_nil))) (by intro _; rfl))) (qb_one (qs_ret qe_bl)) qb_nil)
  (qb_cons (qs_if (qt_w (qw_or (qt_cmpR op_isN (qv 2) qe_non (nomark _)) (qw_or1 (qt_cmpR (op_eqP hr.units0) (qv 2) (qe_tup (qc qe_int (qc qe_int qa_nil))) (nomark _))))) (qb_one (qs_ret (qe_cmpR op_isN (qv 3) qe_non (nomark _)))) qb_nil)
  (qb_cons (qs_set (i := 1) sc_right.nd rfl (Or.inl rfl) (qe_tup (qc (qe_ix ix_tup (qv 2) qe_int (fun _ _ => rfl)) (qc (qe_ix ix_tup (qv 2) qe_int (fun _ _ => rfl)) qa_nil))))
  (qb_cons (qs_if (qt_not (qt_val (qe_fnS g_like hr (by omega) rfl (qc (qv 3) (qc (qe_tup (qc (qe_fnS g_product hr (by omega) rfl (qc (qe_ix ix_tup (qv 0) qe_int (fun _ _ => rfl)) (qc (qv 1) qa_nil))) (qc (qe_fnS g_product hr (by omega) rfl (qc (qe_ix ix_tup (qv 0) qe_int (fun _ _ => rfl)) (qc (qv 1) qa_nil))) qa_nil))) qa_nil))) (by intro _; rfl))) (qb_one (qs_ret qe_bl)) qb_nil)
  (qb_one (qs_ret (qe_fnS g_like hr (by omega) rfl (qc (qe_lst (qc (qe_fnS g_dot hr (by omega) rfl (qc (qv 3) (qc (qv 3) qa_nil))) (qc (qe_fnS g_scaled hr (by omega) rfl (qc (qv 3) (qc (qv 2) qa_nil))) qa_nil))) (qc (qe_lst (qc (qe_tup (qc qe_int (qc qe_int qa_nil))) (qc (qv 0) qa_nil))) qa_nil)))))))))), ?_⟩
    refine ⟨_, rfl, v, x, y, e, rfl, hv, by omega, fun du H1 s1 rd => ?_⟩
    refine ⟨_, rfl, v, x, y, e, rfl, hv.mono s1, by omega, fun fo H2 s2 uu => ?_⟩
    refine ⟨_, _, rfl, ?_⟩
    refine ⟨_, rfl, v, x, y, e, rfl, (hv.mono s1).mono s2, by omega, fun le H3 s3 rl => ?_⟩
    replace rd := (rd.mono s2).mono s3
    refine ⟨_, rfl, _, _, rfl, rl.alike rd, fun H4 s4 => ⟨_, rfl, iteF ?_⟩⟩
    replace rd := rd.mono s4
    replace uu := (uu.mono s3).mono s4
    have sA := ((s1.trans s2).trans s3).trans s4
    replace hv := hv.mono sA
    clear rl
    rcases rd with ⟨rfl, hn⟩ | ⟨l, hl, l0, l1, l2⟩
    · refine ⟨_, rfl, rfl, _, rfl, iteT ?_⟩
      rcases uu with ⟨rfl, _⟩ | ⟨l, _, _, l1, l2, _⟩
      · exact ⟨_, rfl, rfl, q _ sA⟩
      · exact absurd ⟨_, _, l1, l2⟩ hn
    · obtain ⟨a, rfl, ha⟩ := hl.ex
      refine ⟨_, rfl, rfl, _, rfl, iteF ?_⟩
      refine ⟨_, rfl, (by show 2 ≤ sizeLine; decide), fun z hz => ?_⟩
      have t5 := Same.upd (o := .tup [.int 0, .int 1]) hz
      have fz := upd_same (H := H4) (a := z) (o := .tup [.int 0, .int 1])
      generalize upd H4 z (.tup [.int 0, .int 1]) = H5 at t5 fz ⊢
      have ha5 := t5 _ _ ha
      refine ⟨a, z, _, _, _, _, rfl, rfl, ha5, fz, _, rfl, ?_⟩
      replace uu := uu.mono t5
      replace hv := hv.mono t5
      replace hl := hl.mono t5
      replace sA := sA.trans t5
      by_cases h0 : l.1 = 0
      · rw [decide_eq_true (show l.1 = 0 ∧ l.2 = 1 from ⟨h0, one_of_zero hl.nr h0⟩)]
        refine iteT ?_
        rcases uu with ⟨rfl, _⟩ | ⟨m, hm, m0, m1, m2, _⟩
        · exact ⟨_, rfl, rfl, q _ sA⟩
        · exfalso
          have z : m.1 * m.1 = 0 := m1.trans (root0 l1 h0)
          rcases Int.mul_eq_zero.mp z with z | z <;> omega
      · rw [decide_eq_false (show ¬ (l.1 = 0 ∧ l.2 = 1) from fun z => h0 z.1)]
        refine iteF ?_
        have lp : 0 < l.1 := by omega
        obtain ⟨m, hm, m0, m1, m2, vu⟩ : ∃ m : Fr, Nrm m ∧ 0 < m.1 ∧ m.1 * m.1 = (fdot x y x y).1 ∧ m.2 * m.2 = (fdot x y x y).2 ∧ Vc H5 fo (fover x m) (fover y m) (5 * e + 4) := by
          rcases uu with ⟨_, z | z⟩ | z
          · exact absurd ⟨_, _, l1, l2⟩ z
          · exfalso
            have z := l1.trans z
            rcases Int.mul_eq_zero.mp z with z | z <;> omega
          · exact z
        obtain rfl : m = l := root_eq hm hl.nr (by omega) l0 m1 m2 l1 l2
        refine ⟨_, rfl, a, _, _, _, rfl, rfl, SqT.of ha5, at1, _, rfl, a, _, _, _, rfl, rfl, SqT.of ha5, at0, (by show 2 ≤ sizeLine; decide), fun sh hsh => ?_⟩
        have t6 := Same.upd (o := .tup [.int m.2, .int m.1]) hsh
        have fsh := upd_same (H := H5) (a := sh) (o := .tup [.int m.2, .int m.1])
        generalize upd H5 sh (.tup [.int m.2, .int m.1]) = H6 at t6 fsh ⊢
        have SH := flip_fc (e := 4 * e + 3) fsh hm lp hl.bn hl.bd
        replace vu := vu.mono t6
        replace hv := hv.mono t6
        replace hl := hl.mono t6
        replace sA := sA.trans t6
        have nx := hv.nx
        have ny := hv.ny
        obtain ⟨p, vx, vy, rfl, hp, fx, fy⟩ := id hv
        refine ⟨_, rfl, _, rfl, p, _, _, _, rfl, rfl, SqT.of hp, at0, _, rfl, vx, _, _, _, e, 4 * e + 3, rfl, fx, SH, by omega, fun r1 H7 t7 c1 => ?_⟩
        refine ⟨_, rfl, p, _, _, _, rfl, rfl, SqT.of (t7 _ _ hp), at1, _, rfl, vy, _, _, _, e, 4 * e + 3, rfl, fy.mono t7, SH.mono t7, by omega, fun r2 H8 t8 c2 => ?_⟩
        refine ⟨(by show 2 ≤ sizeLine; decide), fun w9 n9 => ?_⟩
        have t9 := Same.upd (o := .tup [r1, r2]) n9
        have f9 := upd_same (H := H8) (a := w9) (o := .tup [r1, r2])
        generalize upd H8 w9 (.tup [r1, r2]) = H9 at t9 f9 ⊢
        have t69 := (t7.trans t8).trans t9
        replace vu := vu.mono t69
        replace hv := hv.mono t69
        replace hl := hl.mono t69
        replace sA := sA.trans t69
        have V9 : Vc H9 (.ref w9) (fmul x (m.2, m.1)) (fmul y (m.2, m.1)) (5 * e + 4) := ⟨w9, r1, r2, rfl, f9, ((c1.mono t8).mono t9).up (by omega), (c2.mono t9).up (by omega)⟩
        refine ⟨_, _, rfl, (vu.alike (n := 0) V9 rfl rfl).up, fun H10 t10 => ⟨_, rfl, iteF ?_⟩⟩
        replace vu := vu.mono t10
        replace hv := hv.mono t10
        replace hl := hl.mono t10
        replace sA := sA.trans t10
        refine ⟨_, rfl, _, rfl, fo, fo, _, _, _, _, _, _, rfl, vu, vu, by omega, fun dd H11 t11 c3 => ?_⟩
        refine ⟨_, rfl, _, rfl, fo, _, _, _, _, 5 * e + 4, 4 * e + 3, rfl, vu.mono t11, hl.mono t11, by omega, fun sc H12 t12 c4 => ?_⟩
        refine ⟨(by show 2 ≤ sizeLine; decide), fun l13 n13 => ?_⟩
        have t13 := Same.upd (o := .lst [dd, sc]) n13
        have f13 := upd_same (H := H12) (a := l13) (o := .lst [dd, sc])
        generalize upd H12 l13 (.lst [dd, sc]) = H13 at t13 f13 ⊢
        refine ⟨(by show 2 ≤ sizeLine; decide), fun o14 n14 => ?_⟩
        have t14 := Same.upd (o := .tup [.int 1, .int 1]) n14
        have f14 := upd_same (H := H13) (a := o14) (o := .tup [.int 1, .int 1])
        generalize upd H13 o14 (.tup [.int 1, .int 1]) = H14 at t14 f14 ⊢
        refine ⟨_, rfl, (by show 2 ≤ sizeLine; decide), fun l15 n15 => ?_⟩
        have t15 := Same.upd (o := .lst [.ref o14, .ref p]) n15
        have f15 := upd_same (H := H14) (a := l15) (o := .lst [.ref o14, .ref p])
        generalize upd H14 l15 (.lst [.ref o14, .ref p]) = H15 at t15 f15 ⊢
        have one14 : Fc H15 (.ref o14) (1, 1) 14 := ⟨⟨o14, rfl, t15 _ _ f14⟩, nrm_int 1, show (1 : Int).natAbs < 2 ^ 14 by decide, show (1 : Int).natAbs < 2 ^ 14 by decide⟩
        have tb := ((t12.trans t13).trans t14).trans t15
        have D1 := c3.mono tb
        have S1 := c4.mono ((t13.trans t14).trans t15)
        have HV := hv.mono (t11.trans tb)
        refine ⟨_, _, rfl, ?_, fun H16 t16 => q _ (((sA.trans t11).trans tb).trans t16)⟩
        refine alike_list ((t14.trans t15) _ _ f13) f15 rfl (by show 2 ≤ 1000; decide) fun i u v hu hv => ?_
        match i, hu, hv with
        | 0, hu, hv => cases hu; cases hv; exact (D1.alike (n := 0) one14 (one_dot nx ny hm lp l1 l2)).up
        | 1, hu, hv => cases hu; cases hv; exact S1.alike (n := 0) HV (back_mul nx hm lp) (back_mul ny hm lp)
end
end My

set_option Elab.async false
set_option linter.all false
set_option maxRecDepth 100000
set_option maxHeartbeats 4000000
namespace My
open PySem L2 PyProof.Rows
section
variable {P : Program} {w : World} {K : PySem.W.Frag} {mg : Str → Option Value} {base : Heap}
/-! ### unit_by -/
theorem join3 {α β : Type} {T : Prop} {G R : α → β → Hp → Prop} (h : (∀ a b H, R a b H → G a b H) → T) (k : ∀ a b H, R a b H → G a b H) : T := h k
def spUnitBy : Sp := fun vs H Q _ => ∃ (p : Addr) (n : Int), vs = [.ref p] ∧ Box H p n ∧ n ≤ 900000 ∧ ∀ r x y H', Ext p H H' → Box H' p (n + 6) → Vc H' r x y 14 → Q r H'
abbrev s_unit_by : Stmt := top 27
theorem sc_unit_by : FnScope ["_law_box", "_law_k", "_law_way", "_law_quarter", "_law_turn", "_law_a", "_law_b", "_law_x", "_law_y"] ["_law_box"] (defScope s_unit_by) := ⟨rfl, rfl, rfl, by decide +kernel, rfl, by decide +kernel, by decide +kernel⟩
structure AB (H0 H : Hp) (p : Addr) (n a b : Int) : Prop where
  a1 : 1 ≤ a
  a2 : a ≤ 40
  b1 : 0 ≤ b
  b2 : b ≤ 40
  e : Ext p H0 H
  bx : Box H p n
theorem sqs {a b : Int} (a1 : 1 ≤ a) (a2 : a ≤ 40) (b1 : 0 ≤ b) (b2 : b ≤ 40) : 0 < a * a + b * b ∧ a * a + b * b ≤ 3200 ∧ (a * a - b * b).natAbs ≤ 3200 ∧ (2 * a * b).natAbs ≤ 3200 := by
  have h1 : a * a ≤ 40 * 40 := Int.mul_le_mul a2 a2 (by omega) (by omega)
  have h2 : b * b ≤ 40 * 40 := Int.mul_le_mul b2 b2 (by omega) (by omega)
  have h3 : a * b ≤ 40 * 40 := Int.mul_le_mul a2 b2 (by omega) (by omega)
  have h4 : 1 * 1 ≤ a * a := Int.mul_le_mul a1 a1 (by omega) (by omega)
  have h5 : 0 ≤ b * b := Int.mul_nonneg b1 b1
  have h6 : 0 ≤ a * b := Int.mul_nonneg (by omega) b1
  have h7 : 2 * a * b = 2 * (a * b) := Int.mul_assoc 2 a b
  rw [h7]
  generalize a * a = A at *
  generalize b * b = B at *
  generalize a * b = C at *
  omega
theorem ok_unit_by {f : Addr} {fd : FuncData} (F : Fun K "_law_unit_by" "_law_unit_by" s_unit_by f fd) (T : Txt mg) (g_take : Fn P w K mg base 1 "_law_take" ["_law_box", "_law_many"] spTake) (g_lowest : Fn P w K mg base 1 "_law_lowest" ["_law_n", "_law_d"] spLowest) : FnOk P w K mg base CX0 2 f fd ["_law_box"] spUnitBy := by
  refine F.okQ sc_unit_by (fun vs H Q E h => ?_) (fun cdv A outer s H vs Q E hr h => ?_)
  · obtain ⟨p, n, rfl, _⟩ := h; rfl
  · obtain ⟨p, n, rfl, hb, hn, q⟩ := h
    refine ⟨_, (qb_cons (qs_par3 (i := 2) (j := 3) (k := 4) rfl sc_unit_by.nd rfl rfl rfl (by decide) (by decide) (by decide) rfl rfl rfl (qc (qe_fnS g_take hr (by omega) rfl (qc (qv 0) (qc qe_int qa_nil))) (qc (qe_fnS g_take hr (by omega) rfl (qc (qv 0) (qc qe_int qa_nil))) (qc (qe_fnS g_take hr (by omega) rfl (qc (qv 0) (qc qe_int qa_nil))) qa_nil))) rfl)
  (qb_cons (qs_asg (qe_ix ix_list (qe_lst (qc (qe_tup (qc qe_int (qc qe_int qa_nil))) (qc (qe_tup (qc qe_int (qc qe_int qa_nil))) (qc (qe_tup (qc qe_int (qc qe_int qa_nil))) (qc (qe_tup (qc qe_int (qc qe_int qa_nil))) qa_nil))))) (qe_fnS g_take hr (by omega) rfl (qc (qv 0) (qc qe_int qa_nil))) (fun _ _ => rfl)) (qg_tup rfl (qgs_cons (qg_name (i := 5) sc_unit_by.nd rfl (Or.inl rfl)) (qgs_cons (qg_name (i := 6) sc_unit_by.nd rfl (Or.inl rfl)) qgs_nil))))
  (qb_cons (qs_if (qt_cmpR op_eq (qv 2) qe_int (nomark _)) (qb_one (qs_par (i := 5) (j := 6) rfl sc_unit_by.nd rfl rfl (by decide) rfl rfl (qc (qe_op op_add qe_int (qe_fnS g_take hr (by omega) rfl (qc (qv 0) (qc qe_int qa_nil)))) (qc (qe_fnS g_take hr (by omega) rfl (qc (qv 0) (qc qe_int qa_nil))) qa_nil)) rfl)) qb_nil)
  (qb_cons (qs_par (i := 7) (j := 8) rfl sc_unit_by.nd rfl rfl (by decide) rfl rfl (qc (qe_fnS g_lowest hr (by omega) rfl (qc (qe_op op_sub (qe_op op_mul (qv 5) (qv 5)) (qe_op op_mul (qv 6) (qv 6))) (qc (qe_op op_add (qe_op op_mul (qv 5) (qv 5)) (qe_op op_mul (qv 6) (qv 6))) qa_nil))) (qc (qe_fnS g_lowest hr (by omega) rfl (qc (qe_op op_mul (qe_op op_mul qe_int (qv 5)) (qv 6)) (qc (qe_op op_add (qe_op op_mul (qv 5) (qv 5)) (qe_op op_mul (qv 6) (qv 6))) qa_nil))) qa_nil)) rfl)
  (qb_cons (qs_if (qt_cmpR op_eq (qv 4) qe_int (nomark _)) (qb_one (qs_par (i := 7) (j := 8) rfl sc_unit_by.nd rfl rfl (by decide) rfl rfl (qc (qv 8) (qc (qv 7) qa_nil)) rfl)) qb_nil)
  (qb_cons (qs_for PassesOwn.never rfl (qi_range1 rfl T.n_range (qc (qv 3) qa_nil)) (qg_name (i := 1) sc_unit_by.nd rfl (Or.inl rfl))
    (qb_one (qs_par (i := 7) (j := 8) rfl sc_unit_by.nd rfl rfl (by decide) rfl rfl (qc (qe_tup (qc (qe_un un_neg (qe_ix ix_tup (qv 8) qe_int (fun _ _ => rfl))) (qc (qe_ix ix_tup (qv 8) qe_int (fun _ _ => rfl)) qa_nil))) (qc (qv 7) qa_nil)) rfl)))
  (qb_one (qs_ret (qe_tup (qc (qv 7) (qc (qv 8) qa_nil))))))))))), ?_⟩
    refine ⟨_, rfl, p, 4, n, rfl, hb, by omega, by decide, by decide, fun way H1 w0 w1 e1 b1 => ?_⟩
    refine ⟨_, rfl, p, 4, n + 1, rfl, b1, by omega, by decide, by decide, fun qu H2 q0 q1 e2 b2 => ?_⟩
    refine ⟨_, rfl, p, 2, n + 1 + 1, rfl, b2, by omega, by decide, by decide, fun tu H3 u0 u1 e3 b3 => ?_⟩
    refine ⟨_, _, _, rfl, ?_⟩
    have e13 := (e1.trans e2).trans e3
    refine ⟨(by show 2 ≤ sizeLine; decide), fun c1 n1 => ?_⟩
    have s1 := Same.upd (o := .tup [.int 1, .int 0]) n1
    have f1 := upd_same (H := H3) (a := c1) (o := .tup [.int 1, .int 0])
    generalize upd H3 c1 (.tup [.int 1, .int 0]) = H4 at s1 f1 ⊢
    refine ⟨(by show 2 ≤ sizeLine; decide), fun c2 n2 => ?_⟩
    have s2 := Same.upd (o := .tup [.int 2, .int 1]) n2
    have f2 := upd_same (H := H4) (a := c2) (o := .tup [.int 2, .int 1])
    generalize upd H4 c2 (.tup [.int 2, .int 1]) = H5 at s2 f2 ⊢
    refine ⟨(by show 2 ≤ sizeLine; decide), fun c3 n3 => ?_⟩
    have s3 := Same.upd (o := .tup [.int 3, .int 1]) n3
    have f3 := upd_same (H := H5) (a := c3) (o := .tup [.int 3, .int 1])
    generalize upd H5 c3 (.tup [.int 3, .int 1]) = H6 at s3 f3 ⊢
    refine ⟨(by show 2 ≤ sizeLine; decide), fun c4 n4 => ?_⟩
    have s4 := Same.upd (o := .tup [.int 3, .int 2]) n4
    have f4 := upd_same (H := H6) (a := c4) (o := .tup [.int 3, .int 2])
    generalize upd H6 c4 (.tup [.int 3, .int 2]) = H7 at s4 f4 ⊢
    refine ⟨(by show 4 ≤ sizeLine; decide), fun l5 n5 => ?_⟩
    have s5 := Same.upd (o := .lst [.ref c1, .ref c2, .ref c3, .ref c4]) n5
    have f5 := upd_same (H := H7) (a := l5) (o := .lst [.ref c1, .ref c2, .ref c3, .ref c4])
    generalize upd H7 l5 (.lst [.ref c1, .ref c2, .ref c3, .ref c4]) = H8 at s5 f5 ⊢
    have s38 := (((s1.trans s2).trans s3).trans s4).trans s5
    have b8 := b3.same s38
    refine ⟨_, rfl, p, 4, n + 1 + 1 + 1, rfl, b8, by omega, by decide, by decide, fun pick H9 p0 p1 e9 b9 => ?_⟩
    have x9 := ext_tup e9 b8
    have f5' : H9 l5 = some (.lst [.ref c1, .ref c2, .ref c3, .ref c4]) := e9 _ _ f5 (fun z => by obtain ⟨_, _, _, h1, _⟩ := b8; rw [z] at f5; rw [f5] at h1; cases h1)
    obtain ⟨v, hv, at4⟩ := at_in (xs := [.ref c1, .ref c2, .ref c3, .ref c4]) p0 (show pick < ((4 : Nat) : Int) by omega)
    obtain ⟨t, a, b, rfl, ht, a1, a2, bb1, bb2⟩ : ∃ (t : Addr) (a b : Int), v = .ref t ∧ H9 t = some (.tup [.int a, .int b]) ∧ 1 ≤ a ∧ a ≤ 40 ∧ 0 ≤ b ∧ b ≤ 40 := by
      simp only [List.mem_cons, List.not_mem_nil, or_false] at hv
      rcases hv with rfl | rfl | rfl | rfl
      · exact ⟨_, _, _, rfl, x9 _ _ ((((s2.trans s3).trans s4).trans s5) _ _ f1), by decide, by decide, by decide, by decide⟩
      · exact ⟨_, _, _, rfl, x9 _ _ (((s3.trans s4).trans s5) _ _ f2), by decide, by decide, by decide, by decide⟩
      · exact ⟨_, _, _, rfl, x9 _ _ ((s4.trans s5) _ _ f3), by decide, by decide, by decide, by decide⟩
      · exact ⟨_, _, _, rfl, x9 _ _ (s5 _ _ f4), by decide, by decide, by decide, by decide⟩
    have e39 : Ext p H H9 := e13.trans ((Ext.of s38).trans e9)
    refine ⟨l5, _, _, _, rfl, rfl, SqL.of f5', at4, t, _, rfl, SqT.of ht, rfl, _, _, rfl, _, _, rfl, rfl, ?_⟩
    apply join3 (R := fun a b HX => AB H HX p (n + 6) a b)
    case h =>
      intro J
      refine ⟨_, rfl, rfl, _, rfl, ?_⟩
      by_cases hw : way = 3
      · rw [decide_eq_true (show V.int way = V.int 3 by rw [hw])]
        refine iteT ?_
        refine ⟨_, rfl, p, 22, n + 1 + 1 + 1 + 1, rfl, b9, by omega, by decide, by decide, fun g H10 g0 g1 e10 b10 => ?_⟩
        refine ⟨_, _, rfl, rfl, ?_⟩
        refine ⟨_, rfl, p, 22, n + 1 + 1 + 1 + 1 + 1, rfl, b10, by omega, by decide, by decide, fun k H11 k0 k1 e11 b11 => ?_⟩
        refine ⟨_, _, rfl, ?_⟩
        obtain ⟨a', ha'⟩ : ∃ a', a' = 1 + g := ⟨_, rfl⟩
        simp only [← ha']
        exact J a' k H11 ⟨by omega, by omega, by omega, by omega, (e39.trans e10).trans e11, b11.mono (by omega)⟩
      · rw [decide_eq_false (show ¬ V.int way = V.int 3 from fun z => hw (V.int.inj z))]
        refine iteF ?_
        exact J a b H9 ⟨a1, a2, bb1, bb2, e39, b9.mono (by omega)⟩
    rintro a b HX ⟨a1, a2, bb1, bb2, eX, bX⟩
    obtain ⟨z1, z2, z3, z4⟩ := sqs a1 a2 bb1 bb2
    have m : ∀ {x y : Int}, x.natAbs ≤ 80 → CMul x y := fun h => .inl ⟨by omega, by omega⟩
    have ma : CMul a a := m (by omega)
    have mb : CMul b b := m (by omega)
    have m2 : CMul 2 a := m (by decide)
    have m2b : CMul (2 * a) b := m (by omega)
    have nz : a * a + b * b ≠ 0 := by omega
    refine ⟨_, rfl, _, rfl, _, _, rfl, rfl, ma, _, rfl, _, rfl, _, _, rfl, rfl, mb, _, _, rfl, rfl, _, rfl, _, rfl, _, _, rfl, rfl, ma, _, rfl, _, rfl, _, _, rfl, rfl, mb, _, _, rfl, rfl, _, _, rfl, nz, small8 (by omega), fun x1 nx1 => ?_⟩
    refine ⟨_, rfl, _, _, rfl, rfl, m2, _, rfl, _, _, rfl, rfl, m2b, _, rfl, _, rfl, _, _, rfl, rfl, ma, _, rfl, _, rfl, _, _, rfl, rfl, mb, _, _, rfl, rfl, _, _, rfl, nz, small8 (by omega), fun y1 ny1 => ?_⟩
    refine ⟨_, _, rfl, ?_⟩
    have B3 : ∀ {k : Nat}, k ≤ 3200 → k < 2 ^ 14 := fun h => Nat.lt_of_le_of_lt h (by decide)
    have X1 := (Fc.low (e := 14) nx1 nz (B3 z3) (B3 (by omega))).mono (Same.upd (o := .tup [.int (lowN (2 * a * b) (a * a + b * b)), .int (lowD (2 * a * b) (a * a + b * b))]) ny1)
    have Y1 := Fc.low (e := 14) ny1 nz (B3 z4) (B3 (by omega))
    have sX := (Same.upd (o := .tup [.int (lowN (a * a - b * b) (a * a + b * b)), .int (lowD (a * a - b * b) (a * a + b * b))]) nx1).trans (Same.upd (o := .tup [.int (lowN (2 * a * b) (a * a + b * b)), .int (lowD (2 * a * b) (a * a + b * b))]) ny1)
    generalize upd (upd HX x1 _) y1 _ = HY at X1 Y1 sX ⊢
    replace eX := eX.trans (Ext.of sX)
    replace bX := bX.same sX
    clear sX
    apply join3 (R := fun (tx ty : Addr) HZ => HZ = HY ∧ ∃ x y, Fc HY (.ref tx) x 14 ∧ Fc HY (.ref ty) y 14)
    case h =>
      intro J
      refine ⟨_, rfl, rfl, _, rfl, ?_⟩
      by_cases ht1 : tu = 1
      · rw [decide_eq_true (show V.int tu = V.int 1 by rw [ht1])]
        refine iteT ?_
        refine ⟨_, rfl, _, rfl, _, _, rfl, ?_⟩
        obtain ⟨u1, g1⟩ : ∃ u, u = x1 := ⟨_, rfl⟩
        obtain ⟨u2, g2⟩ : ∃ u, u = y1 := ⟨_, rfl⟩
        rw [← g1] at X1
        rw [← g2] at Y1
        rw [← g1, ← g2]
        generalize hW : HY = HW
        exact J u2 u1 HW ⟨hW.symm, _, _, Y1, X1⟩
      · rw [decide_eq_false (show ¬ V.int tu = V.int 1 from fun z => ht1 (V.int.inj z))]
        refine iteF ?_
        exact J x1 y1 HY ⟨rfl, _, _, X1, Y1⟩
    rintro tx ty HZ ⟨rfl, x, y, Fx, Fy⟩
    refine ⟨_, rfl, _, rfl, ?_, ?_, ?_⟩
    · omega
    · omega
    refine for_range (lo := 0) (n := qu.toNat) (fun i σ H2 => ∃ (v1 : Option V) (tx ty : Addr) (x y : Fr), σ = [some (.ref p), v1, some (.int way), some (.int qu), some (.int tu), some (.int a), some (.int b), some (.ref tx), some (.ref ty)] ∧ Fc H2 (.ref tx) x 14 ∧ Fc H2 (.ref ty) y 14 ∧ Same HZ H2) ⟨_, _, _, _, _, rfl, Fx, Fy, Same.refl _⟩ ?_ ?_
    · rintro i σ H2 hi ⟨v1, tx, ty, x, y, rfl, Fx, Fy, s2⟩
      obtain ⟨t, ht0, ht⟩ := Fy.ex
      cases ht0
      refine ⟨_, rfl, ty, _, _, _, rfl, rfl, SqT.of ht, at0, _, rfl, _, rfl, ty, _, _, _, rfl, rfl, SqT.of ht, at1, (by show 2 ≤ sizeLine; decide), fun r nr => ⟨_, rfl, _, _, rfl, ?_⟩⟩
      have s3 := Same.upd (o := .tup [.int (-y.1), .int y.2]) nr
      exact ⟨_, r, tx, _, x, rfl, Fc.neg upd_same Fy.nr Fy.bn Fy.bd, Fx.mono s3, s2.trans s3⟩
    · rintro σ H2 ⟨v1, tx, ty, x, y, rfl, Fx, Fy, s2⟩
      refine ⟨_, rfl, _, rfl, (by show 2 ≤ sizeLine; decide), fun r nr => ?_⟩
      have s3 := Same.upd (o := .tup [.ref tx, .ref ty]) nr
      exact q _ x y _ (eX.trans (Ext.of (s2.trans s3))) (bX.same (s2.trans s3)) ⟨r, _, _, rfl, upd_same, Fx.mono s3, Fy.mono s3⟩
end
end My

set_option Elab.async false
set_option linter.all false
set_option maxRecDepth 100000
set_option maxHeartbeats 4000000
namespace L2
open PySem PySem.Spec PySem.W PySem.Calls PyProof.Rows PySem.Builtin.ObjectAttr
structure XCls (K : PySem.W.Frag) (C : Addr) : Prop where
  ga : findIn K (.ref C) "__getattribute__" = some (some (.builtin "BaseException.__getattribute__"))
  gt : findIn K (.ref C) "__getattr__" = some none
  sa : findIn K (.ref C) "__setattr__" = some (some (.builtin "object.__setattr__"))
  be : mroIn K C (.type "BaseException") = some true
  ob : mroIn K C (.type "object") = some true
  cl : findIn K (.ref C) "__class__" = some (some (.builtin "object.__class__"))
  gs : specialIn K (.builtin "object.__class__") "__get__" = some (some (.builtin "getset_descriptor.__get__"))
  tk : takesIn K (.builtin "object.__class__") = some true
  hd : hasDictIn K C = true
section
variable {prog : Program} {w : World} {A : Around} {E : Value → Shared → Prop} {s : Shared} {K : PySem.W.Frag} {x C : Addr} {ox : Obj} {odo : Option Obj} {name : Str}
/-- an attribute of an exception of one's own, by its getattribute -/
theorem xget_by {tk : Tok} {fill expr : Bool} {f : Found} {v : Value} {Q : Value → Shared → Prop} (X : K.In s.heap) (I : InstAt s.heap x ox C odo) (c : XCls K C) (L : Looks (model prog w) s.heap (find (.ref x) (.ref C) name) f) (hv : handedIn v = true)
    (hf : f = .value v ∨ ∃ g a, f = .bind g a ∧ ∀ (A' : Around) (R : Result → Shared → Prop), R (.ok (.ret v)) s → codeAny (model prog w) A' (.call g ⟨[a, .ref x, .ref C], []⟩) R s) (h : Q v s) :
    wpAny (model prog w) A (getAttrBy (.ref x) (.str name tk) fill expr) Q E s := by
  obtain ⟨hp0, gn0, dr0, tk0, os0⟩ := s
  have Lty := I.type (M := model prog w)
  have Lga := looks_findIn (M := model prog w) X c.ga
  have Lha := looks_findIn (M := model prog w) X c.gt
  have sub : Looks (model prog w) hp0 (isInstance (.ref x) (.type "BaseException")) true := I.type.andThen (looks_mroIn X c.be)
  unfold getAttrBy
  refine wpAny_holding (wpAny_bind (Lty.at (wpAny_bind (Lga.at ?_))))
  show wpAny _ _ (if (onTheHeap (.ref C) && Value.builtin "BaseException.__getattribute__" == .builtin "object.__getattribute__") = true then _ else _) _ _ _
  have noteq : (Value.builtin "BaseException.__getattribute__" == Value.builtin "object.__getattribute__") = false := by decide +kernel
  rw [noteq, Bool.and_false, if_neg (by decide)]
  unfold getAttrByItsOwn
  refine wpAny_bind (Lha.at (wpAny_bind (wpAny_attempt (wpAny_holding ?_))))
  have e1 : callGetattribute (.ref x) (.str name tk) (.builtin "BaseException.__getattribute__") expr = boundAndCalled (.builtin "BaseException.__getattribute__") (.ref x) (.str name tk) := by
    unfold callGetattribute
    cases expr <;> rfl
  rw [e1]
  unfold boundAndCalled
  refine wpAny_bind (wpAny_of_eq (F.attr_ValueError.ga.bind _) ?_)
  refine wpAny_call (codeAny_call_builtin F.attr_ValueError.ga.plain F.entry_bexc_ga (@check_slot (model prog w) _ _ _ "BaseException.__getattribute__" "BaseException" "__getattribute__" (.ref x) [.str name tk] [] _ (by decide +kernel) (by decide +kernel) sub (F.args_bexc_ga _ _) ?_))
  refine wpAny_bind (wpAny_pure (a := (Value.ref x, [Value.str name tk])) ?_)
  refine wpAny_bind (wpAny_pure (a := name) ?_)
  refine wpAny_bind (Lty.at (wpAny_bind (L.at ?_)))
  rcases hf with rfl | ⟨g, a, rfl, hc⟩
  · refine wpAny_pure ?_
    exact handed_on hv h
  · show wpAny _ _ (holding [a] (call g [a, .ref x, .ref C]) >>= ret) _ _ _
    exact wpAny_bind (wpAny_holding (wpAny_call (hc _ _ (wpAny_pure (handed_on hv h)))))
theorem xget {expr : Bool} {f : Found} {v : Value} {Q : Value → Shared → Prop} (X : K.In s.heap) (I : InstAt s.heap x ox C odo) (c : XCls K C) (hf : findObj K C odo name = some (.value v)) (hv : handedIn v = true) (h : Q v { s with toks := s.toks + 1 }) :
    wpAny (model prog w) A (getAttr (.ref x) name expr) Q E s := by -- of an exception
  unfold getAttr
  exact wpAny_bind (wpAny_mkText (xget_by (s := { s with toks := s.toks + 1 }) X I c (looks_find X I hf) hv (.inl rfl) h))
/-- its class -/
theorem xclass {Q : Option Value → Shared → Prop} (X : K.In s.heap) (I : InstAt s.heap x ox C odo) (c : XCls K C) (h : Q (some (.ref C)) { s with toks := s.toks + 1 }) : wpAny (model prog w) A (getAttr? (.ref x) "__class__") Q E s := by
  have hf : findObj K C odo "__class__" = some (.bind (.builtin "getset_descriptor.__get__") (.builtin "object.__class__")) := by
    obtain ⟨cd, hc, _⟩ := any_some c.hd
    unfold findObj
    rw [hc]
    simp only [Option.bind_some, c.cl, c.gs, c.tk]
  unfold getAttr? getAttrBy?
  refine wpAny_bind (wpAny_mkText (wpAny_bind (wpAny_attempt (xget_by (v := .ref C) (s := { s with toks := s.toks + 1 }) X I c (looks_find X I hf) rfl (.inr ⟨_, _, rfl, fun A' R hR => ?_⟩) ?_))))
  · exact class_get (s := { s with toks := s.toks + 1 }) X I c.ob hR
  · exact wpAny_pure h
/-- for isinstance -/
theorem kitx_exc (c : XCls K C) : KitX K (.ref x) (.ref C) (fun h => InstAt h x ox C odo) where
  ty := fun _ _ _ I => I.type
  it := fun _ _ X _ => by
    obtain ⟨cdD, hcD, _⟩ := any_some c.hd
    unfold clsIn at hcD
    split at hcD
    · rename_i ho
      intro A' Q' E' s' k q
      unfold isType loadHead
      exact wpAny_bind (wpAny_loadPart (k C _ (X C _ ho)) (wpAny_pure q))
    · cases hcD
  ne := fun h0 t0 d0 ys n0 sl0 X htp => by
    obtain ⟨cdD, hcD, _⟩ := any_some c.hd
    refine Bool.eq_false_iff.mpr fun same => ?_
    cases Value.ref.inj (beq_iff_eq.mp same)
    unfold clsIn at hcD
    split at hcD
    · rename_i ho
      cases (X _ _ ho).symm.trans htp
    · cases hcD
  ca := fun X I k => xclass X I c k
end
end L2

set_option Elab.async false
set_option linter.all false
set_option maxRecDepth 100000
set_option maxHeartbeats 4000000
namespace L2
open PySem PySem.Spec PySem.W PySem.Calls PyProof.Rows PySem.Builtin.ObjectAttr
def excMro : List Value → Bool
  | .ref _ :: r => excMro r
  | l => l == [.type "ValueError", .type "Exception", .type "BaseException", .type "object"]
theorem refuse_exc (self : Value) (l : List Value) : excMro l = true → refuseLoop self "__setattr__" l = pure () := by
  induction l with
  | nil => intro e; cases e
  | cons v r ih =>
    intro e
    cases v with
    | ref c => rw [refuseLoop_ref]; exact ih e
    | _ => rw [beq_iff_eq.mp (show (_ :: r == _) = true from e)]; exact PySem.F.store_ValueError.passes self
/-- the object of an exception -/
abbrev excObj (C : Addr) (dx : Option Addr) (vs : Array Value) : Obj := { cls := .ref C, dict := dx, data := .fields vs }
section
variable {prog : Program} {w : World} {A : Around} {E : Value → Shared → Prop} {s : Shared} {K : PySem.W.Frag} {x C : Addr} {vs : Array Value} {name : Str}
theorem xset {v : Value} {Q : Unit → Shared → Prop} (X : K.In s.heap) (hx : s.heap.get? x = some (excObj C none vs)) (c : XCls K C) (hm : (clsIn K C).any (fun cd => excMro cd.mro) = true) (ht : takerIn K C name = some none)
    (h : ∀ h' tk, (∀ b o, b ≠ x → s.heap.get? b = some o → h'.get? b = some o) → h'.get? x = some (excObj C (some s.heap.objs.size) vs) → h'.Ns1 s.heap.objs.size (fun y => if y = name then some v else none) → Q () { s with heap := h', toks := tk }) :
    wpAny (model prog w) A (setAttr (.ref x) name v) Q E s := by -- the dict is new
  obtain ⟨hh, gg, dr, t, os⟩ := s
  have SO := F.store_object
  have I : InstAt hh x (excObj C none vs) C none := ⟨hx, rfl, rfl, trivial⟩
  refine set_plain X I c.sa ?_
  have sub : Looks (model prog w) hh (isInstance (.ref x) (.type "object")) true := I.type.andThen (looks_mroIn X c.ob)
  refine codeAny_call_builtin SO.slot.plain SO.entry (@check_slot (model prog w) _ _ ⟨hh, gg, dr, t + 1, os⟩ "object.__setattr__" "object" "__setattr__" (.ref x) [.str name t, v] [] _ SO.kind SO.split sub (SO.args (.ref x) (.str name t) v) ?_)
  obtain ⟨cd, hc, ho⟩ := any_some hm
  obtain ⟨cd', hc', hd⟩ := any_some c.hd
  obtain rfl : cd = cd' := Option.some.inj (hc.symm.trans hc')
  obtain ⟨at0, ha, hr⟩ := Option.bind_eq_some_iff.mp ht
  have Lm : Looks (model prog w) hh (mroOf (.ref C)) cd.mro := (looks_clsIn X hc).andThen .now
  have L3 : Looks (model prog w) hh (storeTaker? at0) none := by
    cases at0 with
    | none => exact .now
    | some a =>
      obtain ⟨b, hb, e⟩ := Option.map_eq_some_iff.mp hr
      cases b with
      | false => exact (looks_takesIn X hb).andThen .now
      | true => cases e
  rw [osa_eq, refuse_eq]
  refine wpAny_bind (wpAny_bind (I.type.at (wpAny_bind (Lm.at ?_))))
  rw [refuse_exc _ _ ho]
  refine wpAny_pure (wpAny_bind (I.type.at (wpAny_bind ((looks_findIn X ha).at (wpAny_bind (L3.at ?_))))))
  dsimp only
  unfold storeInOwnDict
  refine wpAny_bind (wpAny_pure (wpAny_bind (wpAny_bind (wpAny_loadPart hx (wpAny_bind ((looks_clsIn X hc).at ?_))))))
  rw [hd]
  dsimp only [Bool.not_true]
  rw [if_neg (by decide), if_neg (by simp [typeHasDict])]
  have hx1 : (hh.push { cls := .type "dict", data := .dict #[] }).get? x = some (excObj C none vs) := Heap.get?_push_of_some _ hx
  have xOld : x ≠ hh.objs.size := Nat.ne_of_lt (Heap.lt_size hx)
  refine wpAny_bind (wpAny_alloc' (wpAny_bind (wpAny_update' hx1 (wpAny_pure ?_))))
  have dNew : ((hh.push { cls := .type "dict", data := .dict #[] }).update x fun o => { cls := o.cls, dict := some hh.objs.size, data := o.data, slots := o.slots }).get? hh.objs.size = some { cls := .type "dict", data := .dict #[] } :=
    (Heap.get?_update_ne _ _ _ _ xOld.symm).trans (Heap.get?_push_at rfl rfl)
  have nsNew : ((hh.push { cls := .type "dict", data := .dict #[] }).update x fun o => { cls := o.cls, dict := some hh.objs.size, data := o.data, slots := o.slots }).Ns hh.objs.size (fun _ => none) :=
    ⟨_, #[], _, dNew, rfl, (fun _ z => by simp at z), fun _ => rfl⟩
  show wpAny _ _ (storeInDict hh.objs.size (.str name t) name v) _ _ _
  unfold storeInDict; unfold newKeyGuard
  refine wpAny_bind (wpAny_pure (wpAny_bind (wpAny_nsSet1 (Heap.Ns1.of_empty nsNew) fun hEnd nsPut hs => ?_)))
  obtain ⟨ob2, es2, ep2, ho2, hd2, hc2⟩ := nsPut.count (Within.cons name v Within.nil)
  refine wpAny_bind (wpAny_lookBehind ho2 (by rw [hd2]; exact pastItsLine_dict (Nat.le_trans hc2 (by rw [List.length_cons, List.length_nil, sizeLine_eq]; omega))) ?_)
  refine wpAny_pure ?_
  refine h hEnd _ (fun b o hb ho => ?_) ?_ nsPut
  · exact (hs.2 b (Nat.ne_of_lt (Heap.lt_size ho))).trans ((Heap.get?_update_ne _ _ _ _ hb).trans (Heap.get?_push_of_some _ ho))
  · exact (hs.2 x xOld).trans (Heap.get?_update_self _ hx1 rfl)
end
end L2

set_option Elab.async false
set_option linter.all false
set_option maxRecDepth 100000
set_option maxHeartbeats 4000000
namespace L2
open PySem PySem.Spec PySem.W PySem.Calls PyProof.Rows PySem.Builtin.ObjectAttr
abbrev tupV (ys : List Value) : Obj := { cls := .type "tuple", data := .seq ys.toArray }
abbrev excVs (t : Addr) : Array Value := #[.ref t, .none, .none, .none, .bool false, .none]
abbrev mroV : List Value := [.type "ValueError", .type "Exception", .type "BaseException", .type "object"]
/-- an own class under ValueError, as the fragment has it: ini, its own __init__ -/
def xclsIn (K : PySem.W.Frag) (C : Addr) (ini : Option Value) : Bool := match K.lookup C with
  | some ⟨.type "type", _, .cls cd, sl⟩ =>
    match cd.mro with
    | .ref D :: tl =>
      match sl.toList with
      | [_, _, _, _, some (.builtin nw), _] => nw == "ValueError.__new__" && D == C && cd.hasDel == false && tailIn K mroV tl && nsIn K cd.ns "__init__" == some ini && nsOkIn K cd.ns
      | _ => false
    | _ => false
  | _ => false
/-- the same, in a heap -/
def XAt (h : Heap) (C : Addr) (ini : Option Value) : Prop :=
  ∃ (nm q : Str) (N : Addr) (bs tl : List Value) (hdct : Bool) (sn : List Str) (sub : List Value) (ab : Bool) (col : Option Bool) (dd : Option Addr) (k0 k1 k2 k3 k5 : Option Value) (mN : Str → Option Value),
    h.get? C = some (excClassObj nm q C N bs tl hdct sn sub ab col dd k0 k1 k2 k3 k5 "ValueError.__new__") ∧ h.Ns N mN ∧ mN "__init__" = ini ∧ OwnTail h mroV tl
theorem ns_in {K : PySem.W.Frag} {h : Heap} {N : Addr} {m : Str → Option Value} {n : Str} {r : Option Value} (X : K.In h) (G : h.Ns N m) (e : nsIn K N n = some r) : m n = r := by
  cases r with
  | none => exact ns_none_of X G e
  | some v =>
    obtain ⟨ob, ents, ct, hob, hda, _, look⟩ := G
    unfold nsIn at e
    split at e
    · rename_i c1 d1 ents1 ct1 sl1 hk
      cases (X _ _ hk).symm.trans hob
      cases hda
      rw [← look n, nsFind, findBy, ← Array.find?_toList]
      split at e
      · rename_i en hen
        cases e
        rw [hen]; rfl
      · split at e <;> cases e
    · cases e
theorem xat_of {K : PySem.W.Frag} {h : Heap} {C : Addr} {ini : Option Value} (X : K.In h) (e : xclsIn K C ini = true) : XAt h C ini := by
  unfold xclsIn at e
  split at e
  · rename_i dd cd sl hl
    split at e
    · rename_i D tl hm
      split at e
      · rename_i k0 k1 k2 k3 nw k5 hs
        simp only [Bool.and_eq_true, beq_iff_eq] at e
        obtain ⟨⟨⟨⟨⟨eNew, eC⟩, eDel⟩, eTl⟩, eIn⟩, eNs⟩ := e
        have hN : h.Ns cd.ns (h.nsMap cd.ns) := .of_isNs (isNs_of_in X eNs)
        have hi := ns_in X hN eIn
        obtain ⟨nm, bs, mro, nsA, qn, hd, sn, sub, ab, col, del⟩ := cd
        obtain ⟨sl⟩ := sl
        simp only at hm hs eDel hN hi
        subst hm hs eDel eNew eC
        exact ⟨nm, qn, nsA, bs, tl, hd, sn, sub, ab, col, dd, k0, k1, k2, k3, k5, _, X _ _ hl, hN, hi, tail_of_in X eTl⟩
      · cases e
    · cases e
  · cases e
section
variable {prog : Program} {w : World} {A : Around} {E : Value → Shared → Prop} {s : Shared} {K : PySem.W.Frag} {x C : Addr} {name : Str}
theorem xinit {t0 : Addr} {ini : Option Value} {ys : List Value} {R : Result → Shared → Prop} (Z : XAt s.heap C ini) (hx : s.heap.get? x = some (excObj C none (excVs t0)))
    (h : ∀ h' t1, (∀ b o, b ≠ x → s.heap.get? b = some o → h'.get? b = some o) → h'.get? x = some (excObj C none (excVs t1)) → R (.ok (.ret .none)) { s with heap := h' }) (hz : ys.length ≤ sizeLine) :
    codeAny (model prog w) A (.call (.builtin "ValueError.__init__") ⟨.ref x :: ys, []⟩) R s := by
  obtain ⟨hh, gg, dr, t, os⟩ := s
  obtain ⟨nm, q, N, bs, tl, hdct, sn, sub, ab, col, dd, k0, k1, k2, k3, k5, mN, hC, hN, hi, T⟩ := Z
  have BF := PySem.F.excBase_ValueError
  refine codeAny_call_builtin BF.init.plain BF.initEntry (wpAny_check_init_subT BF T hC hx rfl ?_)
  have hx1 : (hh.push { cls := .type "tuple", data := .seq ys.toArray }).get? x = some (excObj C none (excVs t0)) := Heap.get?_push_of_some _ hx
  wp_walk
  refine h _ hh.objs.size (fun b o hb ho => ?_) ?_
  · rw [Heap.get?_update_ne _ _ _ _ hb]
    exact Heap.get?_push_of_some (tupV ys) ho
  · rw [Heap.get?_update_self _ hx1 rfl]
    rfl
end
end L2

set_option Elab.async false
set_option linter.all false
set_option maxRecDepth 100000
set_option maxHeartbeats 4000000
namespace L2
open PySem PySem.Spec PySem.W PySem.Calls PyProof.Rows PySem.Builtin.ObjectAttr
section
variable {prog : Program} {w : World} {A : Around} {E : Value → Shared → Prop} {s : Shared} {K : PySem.W.Frag} {C : Addr}
abbrev tupObj (ys : List Value) : Obj := { cls := .type "tuple", data := .seq ys.toArray }
/-- made by its class, whose __init__ is a def -/
theorem xmake {ys : List Value} {fI : Addr} {oI : Obj} {Q : Value → Shared → Prop} (Z : XAt s.heap C (some (.ref fI))) (hf : s.heap.get? fI = some oI) (hfc : oI.cls = .type "function") (hz : ys.length ≤ sizeLine)
    (k : ∀ h' e t, (∀ b o, s.heap.get? b = some o → h'.get? b = some o) → s.heap.objs.size ≤ e → h'.get? e = some (excObj C none (excVs t)) →
      wpAny (model prog w) (A.under (.builtin "type.__call__" ⟨.ref C :: ys, []⟩)) (call (.ref fI) (.ref e :: ys)) (fun r s' => r = .none ∧ Q (.ref e) s') E { s with heap := h' }) :
    wpAny (model prog w) A (call (.ref C) ys) Q E s := by
  obtain ⟨hh, gg, dr, tk, os⟩ := s
  obtain ⟨nm, q, N, bs, tl, hdct, sn, sub, ab, col, dd, k0, k1, k2, k3, k5, mN, hC, hN, hi, T⟩ := Z
  have BF := PySem.F.excBase_ValueError
  have inner : ∀ {Q' : Fin → Shared → Prop} {A' : Around}, (∀ h' e t, (∀ b o, hh.get? b = some o → h'.get? b = some o) → hh.objs.size ≤ e → h'.get? e = some (excObj C none (excVs t)) →
      wpAny (model prog w) A' (call (.ref fI) (.ref e :: ys)) (fun r s' => r = .none ∧ Q' (.done (.ret (.ref e))) s') E ⟨h', gg, dr, tk, os⟩) →
      wpAny (model prog w) A' (Builtin.«type.__call__» ⟨.ref C :: ys, []⟩) Q' E ⟨hh, gg, dr, tk, os⟩ := by
    intro Q' A' k'
    repeat (first | with_reducible refine wpAny_madeBy_exc hC ?_ | with_reducible refine wpAny_loadPart_at hC ?_ | wp_step)
    refine codeAny_call_builtin_code (Code.quiet_builtin _ BF.quiet) (wpAny_check_new_subT BF T hC ?_)
    refine codeAny_exc_new_subT BF T hC ?_ hz
    show wpAny _ _ _ _ _ _
    have grow : ∀ b o, hh.get? b = some o → ((hh.push (tupObj ys)).push (excObj C none (excVs hh.objs.size))).get? b = some o := fun b o e => Heap.get?_push_of_some _ (Heap.get?_push_of_some _ e)
    have new : ((hh.push (tupObj ys)).push (excObj C none (excVs hh.objs.size))).get? (hh.objs.size + 1) = some (excObj C none (excVs hh.objs.size)) := by heap_get
    have own : (Value.ref C :: tl).contains (.ref C) = true := by simp
    have hC1 := grow _ _ hC
    unfold isInstance
    repeat (first | with_reducible refine wpAny_loadPart_at new ?_ | (with_reducible refine wpAny_isSubtype_exc hC1 ?_; rw [own]) | wp_step)
    show wpAny _ _ (typeLookup (.ref C) "__init__") _ _ _
    refine wpAny_typeLookup_tail hC1 (hN.keeps grow) (T.keeps grow) BF.mroIs BF.init.lookup ?_
    rw [hi]
    apply wpAny_holding
    apply wpAny_bind
    unfold bindSpecial
    refine wpAny_bind (wpAny_typeOf (T := "function") ⟨_, grow _ _ hf, hfc⟩ ?_)
    rw [if_pos (by decide)]
    refine wpAny_pure (wpAny_bind (wpAny_mono (k' _ (hh.objs.size + 1) _ grow (Nat.le_succ _) new) (fun r s' hr => ?_) fun _ _ z => z))
    obtain ⟨rfl, hQ⟩ := hr
    wp_walk
    exact hQ
  have lk := tc_lookup
  have bd := tc_bind (.ref C)
  have ty : (⟨hh, gg, dr, tk, os⟩ : Shared).TypeIs (.ref C) "type" := ⟨_, hC, rfl⟩
  refine wpAny_call (codeAny_of_tree (show wpAny _ _ (callAny (.ref C) _) _ _ _ from ?_))
  repeat (any_goals (first | with_reducible refine wpAny_loadPart_at hC ?_ | assumption | wp_step))
  refine ⟨rfl, ?_⟩
  refine codeAny_call_builtin_at (Code.quiet_builtin _ (by decide +kernel)) entry_typeCall (wpAny_check_type_call_sub hC (inner fun h' e t1 g1 g2 g3 => ?_))
  exact k h' e t1 g1 g2 g3
/-- made by its class, which has no __init__ of its own -/
theorem xmake0 {ys : List Value} {Q : Value → Shared → Prop} (Z : XAt s.heap C none) (hz : ys.length ≤ sizeLine)
    (k : ∀ h' e t, (∀ b o, s.heap.get? b = some o → h'.get? b = some o) → s.heap.objs.size ≤ e → h'.get? e = some (excObj C none (excVs t)) → Q (.ref e) { s with heap := h' }) :
    wpAny (model prog w) A (call (.ref C) ys) Q E s := by
  obtain ⟨hh, gg, dr, tk, os⟩ := s
  obtain ⟨nm, q, N, bs, tl, hdct, sn, sub, ab, col, dd, k0, k1, k2, k3, k5, mN, hC, hN, hi, T⟩ := id Z
  have BF := PySem.F.excBase_ValueError
  have inner : ∀ {Q' : Fin → Shared → Prop} {A' : Around}, (∀ h' e t, (∀ b o, hh.get? b = some o → h'.get? b = some o) → hh.objs.size ≤ e → h'.get? e = some (excObj C none (excVs t)) → Q' (.done (.ret (.ref e))) ⟨h', gg, dr, tk, os⟩) →
      wpAny (model prog w) A' (Builtin.«type.__call__» ⟨.ref C :: ys, []⟩) Q' E ⟨hh, gg, dr, tk, os⟩ := by
    intro Q' A' k'
    repeat (first | with_reducible refine wpAny_madeBy_exc hC ?_ | with_reducible refine wpAny_loadPart_at hC ?_ | wp_step)
    refine codeAny_call_builtin_code (Code.quiet_builtin _ BF.quiet) (wpAny_check_new_subT BF T hC ?_)
    refine codeAny_exc_new_subT BF T hC ?_ hz
    show wpAny _ _ _ _ _ _
    have grow : ∀ b o, hh.get? b = some o → ((hh.push (tupObj ys)).push (excObj C none (excVs hh.objs.size))).get? b = some o := fun b o e => Heap.get?_push_of_some _ (Heap.get?_push_of_some _ e)
    have new : ((hh.push (tupObj ys)).push (excObj C none (excVs hh.objs.size))).get? (hh.objs.size + 1) = some (excObj C none (excVs hh.objs.size)) := by heap_get
    have own : (Value.ref C :: tl).contains (.ref C) = true := by simp
    have hC1 := grow _ _ hC
    have Z1 : XAt ((hh.push (tupObj ys)).push (excObj C none (excVs hh.objs.size))) C none := ⟨nm, q, N, bs, tl, hdct, sn, sub, ab, col, dd, k0, k1, k2, k3, k5, mN, hC1, hN.keeps grow, hi, T.keeps grow⟩
    unfold isInstance
    repeat (first | with_reducible refine wpAny_loadPart_at new ?_ | (with_reducible refine wpAny_isSubtype_exc hC1 ?_; rw [own]) | wp_step)
    show wpAny _ _ (typeLookup (.ref C) "__init__") _ _ _
    refine wpAny_typeLookup_tail hC1 (hN.keeps grow) (T.keeps grow) BF.mroIs BF.init.lookup ?_
    rw [hi]
    refine wpAny_holding (wpAny_bind (wpAny_of_eq (BF.init.bind _) ?_))
    refine wpAny_bind (wpAny_call (xinit (s := ⟨_, gg, dr, tk, os⟩) Z1 new (fun h' t1 g1 g2 => ?_) hz))
    wp_walk
    exact k' h' _ t1 (fun b o e => g1 b o (Nat.ne_of_lt (Nat.lt_succ_of_lt (Heap.lt_size e))) (grow b o e)) (Nat.le_succ _) g2
  have lk := tc_lookup
  have bd := tc_bind (.ref C)
  have ty : (⟨hh, gg, dr, tk, os⟩ : Shared).TypeIs (.ref C) "type" := ⟨_, hC, rfl⟩
  refine wpAny_call (codeAny_of_tree (show wpAny _ _ (callAny (.ref C) _) _ _ _ from ?_))
  repeat (any_goals (first | with_reducible refine wpAny_loadPart_at hC ?_ | assumption | wp_step))
  refine ⟨rfl, ?_⟩
  refine codeAny_call_builtin_at (Code.quiet_builtin _ (by decide +kernel)) entry_typeCall (wpAny_check_type_call_sub hC (inner fun h' e t1 g1 g2 g3 => ?_))
  exact k h' e t1 g1 g2 g3
end
end L2

set_option Elab.async false
set_option linter.all false
set_option maxRecDepth 100000
set_option maxHeartbeats 4000000
/-! exceptions of one's own, over the hand layer -/
namespace L2
open PySem PySem.Spec PyProof.Rows
/-- an exception of the class at C, its dict at dx -/
def ExO (C x : Addr) (dx : Option Addr) : HO := .ext fun h => ∃ t, h.get? x = some (excObj C dx (excVs t))
section
variable {X : Cx} {pins : List (Addr × Obj)} {σ : St} {H : Hp} {s : Shared}
theorem exo_ok {P : Program} {w : World} {H : Hp} {h : Heap} {C x t : Addr} {dx : Option Addr} (e : h.get? x = some (excObj C dx (excVs t))) : ObjOk P w H h x (ExO C x dx) :=
  ⟨⟨t, e⟩, ⟨_, e⟩, fun _ _ ⟨t1, e1⟩ k => ⟨t1, k _ e1⟩⟩
theorem exo_at {C x : Addr} {dx : Option Addr} (I : Inv X pins σ H s) (e : H x = some (ExO C x dx)) : ∃ t, s.heap.get? x = some (excObj C dx (excVs t)) :=
  (show ObjOk X.prog X.w H s.heap x (ExO C x dx) from I.hok x _ e).1
end
section
variable {X : Cx} {C x : Addr} {n : Str} {p pos : Pos} {e : Expr} {es : List Expr} {t : TA}
/-- C(..), where C has no __init__ of its own -/
def tExc (C : Addr) (t : TA) : TE := fun σ H Q => t σ H fun vs H1 => vs.length ≤ 1000 ∧ ∀ x, H1 x = none → Q (.ref x) (upd H1 x (ExO C x none))
theorem pe_exc (hx : xclsIn X.K C none = true) (kp : PySem.W.keepIn X.K (.ref C) = true) (hg : Gl X n) (hm : X.mg n = some (.ref C)) (ha : PA X (e :: es) t) (hdb : (n == ("__debug__" : Str)) = false := by decide)
    (he : starEach (e :: es) X.env = (false, eval e X.env) :: starEach es X.env := by rfl) (hpl : (backTo pos (starEach es X.env)).any (·.1) = false := by rfl) : PE X (.Call (.Name n p) (e :: es) [] pos) (tExc C t) := by
  intro pins s σ H Q I h
  refine wpAny_Call_Name_kw (ld_glob I hg hm ?_ hdb)
  refine PySem.W.callWith_K (h₀ := X.base) I.ok.mod.kin kp (thn (ha pos pins s σ H _ I h) fun us s1 ⟨vs, H1, I1, r, hl, q⟩ => ⟨I1.kIn, ?_⟩) he hpl
  refine xmake0 (xat_of I1.kIn hx) (by have := r.length; rw [sizeLine_eq]; show us.length ≤ _; omega) fun h' a t1 k1 k2 k3 => ?_
  exact ⟨.ref a, _, I1.laid (t' := s1.toks) (o := ExO C a none) k1 k2 (exo_ok k3), rfl, q a (I1.hok.fresh k2)⟩
/-- the dict of an exception is told, where it has one -/
def Dct (H : Hp) (dx : Option Addr) : Prop := ∀ d, dx = some d → ∃ fs, H d = some (.xd fs)
theorem exo_inst {X : Cx} {pins : List (Addr × Obj)} {σ : St} {H : Hp} {s : Shared} {C x : Addr} {dx : Option Addr} (I : Inv X pins σ H s) (e : H x = some (ExO C x dx)) (d : Dct H dx) : ∃ t odo, PySem.W.InstAt s.heap x (excObj C dx (excVs t)) C odo := by
  obtain ⟨t, ht⟩ := exo_at I e
  cases dx with
  | none => exact ⟨t, none, ht, rfl, rfl, trivial⟩
  | some a =>
    obtain ⟨fs, hfs⟩ := d a rfl
    obtain ⟨mA, ns, _⟩ := (show ObjOk X.prog X.w H s.heap a (.xd fs) from I.hok a _ hfs)
    obtain ⟨od, ho, _⟩ := lookIn_ns ns
    exact ⟨t, some od, ht, rfl, rfl, ho⟩
/-- isinstance(x, c): x an exception -/
def rIsx (K : PySem.W.Frag) (c : V) (u : Value) : List V → Hp → VK → Prop := fun xs H Q => ∃ x C dx b, xs = [.ref x, c] ∧ H x = some (ExO C x dx) ∧ Dct H dx ∧ XCls K C ∧ PySem.W.kitOne K (.ref C) u = some b ∧ Q (.bl b) H
theorem call_isx {c : V} {u : Value} (hu : ∀ v, RelV c v → v = u) : CallR X (.builtin "isinstance") (rIsx X.K c u) := by
  intro pins s σ H xs us Q I r h
  obtain ⟨x, C, dx, b, rfl, hx, hd, c, hk, q⟩ := h
  obtain ⟨u1, u2, rfl, r1, r2⟩ := Vals.two r
  cases r1
  cases hu _ r2
  obtain ⟨t, odo, J⟩ := exo_inst I hx hd
  exact PySem.W.kia_one (kitx_exc (odo := odo) c) I.kIn J hk (fun z => nomatch z) fun tk => ⟨.bl b, H, I.tok _, rfl, q⟩
/-- e.f, a number that is a field of an exception -/
def tXFld (K : PySem.W.Frag) (ta : TE) (f : Str) : TE := fun σ H Q => ta σ H fun x H1 => ∃ a C d fs i, x = .ref a ∧ H1 a = some (ExO C a (some d)) ∧ XCls K C ∧ NoAttr K C f ∧ H1 d = some (.xd fs) ∧ fs.lookup f = some (.int i) ∧ Q (.int i) H1
theorem pe_xfld {f : Str} {ta : TE} (he : PE X e ta) (hb : attributeBase e f X.env (eval e X.env) = eval e X.env) : PE X (.Attribute e f pos) (tXFld X.K ta f) := by
  intro pins s σ H Q I h
  refine attr_of hb (thn (he pins s σ H _ I h) fun u s1 ⟨x, H1, I1, rx, a, C, d, fs, i, ex, ea, c, n, ed, l, q⟩ => ?_)
  subst ex
  cases rx
  obtain ⟨t, ht⟩ := exo_at I1 ea
  obtain ⟨mA, ns, rl⟩ := (show ObjOk X.prog X.w H1 s1.heap d (.xd fs) from I1.hok d _ ed)
  obtain ⟨od, ho, lk⟩ := lookIn_ns ns
  have rf := rl f
  rw [l] at rf
  cases hm : mA f with
  | none => rw [hm] at rf; exact rf.elim
  | some v =>
    rw [hm] at rf
    obtain ⟨tk, rfl⟩ := (show ∃ tk, v = Value.int i tk from rf)
    exact xget (f := .value (.int i tk)) I1.kIn ⟨ht, rfl, rfl, ho⟩ c (PySem.W.findObj_own c.hd n rfl (by rw [lk, hm])) rfl ⟨.int i, H1, I1.tok _, ⟨_, rfl⟩, q⟩
/-- o.f = value, o an exception that has no dict yet -/
def sXFld (K : PySem.W.Frag) (ta tv : TE) (f : Str) : TS := fun D σ H => tv σ H fun y H1 => ta σ H1 fun x H2 => ∃ a C, x = .ref a ∧ H2 a = some (ExO C a none) ∧ XCls K C ∧ (PySem.W.clsIn K C).any (fun cd => excMro cd.mro) = true ∧ NoAttr K C f ∧
  ∀ d, H2 d = none → d ≠ a → D.nx σ (upd (upd H2 d (.xd [(f, y)])) a (ExO C a (some d)))
theorem ps_xfld {f : Str} {ta tv : TE} {o value : Expr} {pos' : Pos} (ha : PE X o ta) (hv : PE X value tv) (hs : swapsWith value (some (.Attribute o f pos')) pos.line X.env = pure false) : PS X (.Assign [.Attribute o f pos'] value pos) (sXFld X.K ta tv f) := by
  intro pins s σ H D I h
  refine plainObj_wpAny_Assign_Attribute (thn (hv pins s σ H _ I h) fun u s1 ⟨y, H1, I1, ry, q⟩ => thn (ha pins s1 σ H1 _ I1 q) fun ov s2 ⟨x, H2, I2, rx, a, C, ex, ea, c, hm, n, q2⟩ => ?_) hs
  subst ex
  cases rx
  obtain ⟨t, ht⟩ := exo_at I2 ea
  refine xset I2.kIn ht c hm n.taker fun h' tk k1 k2 k3 => ?_
  have fr : H2 s2.heap.objs.size = none := I2.hok.fresh (Nat.le_refl _)
  have na : s2.heap.objs.size ≠ a := Nat.ne_of_gt (Heap.lt_size ht)
  refine ⟨σ, _, ?_, q2 _ fr na⟩
  obtain ⟨od, es, ep, e1, e2, e3⟩ := id k3
  have hp : (s2.heap.push od).get? s2.heap.objs.size = some od := Heap.get?_push_size _ (by obtain ⟨_, _, dt, _⟩ := od; cases e2; rfl)
  have I3 : Inv X pins σ (upd H2 s2.heap.objs.size (.xd [(f, y)])) { s2 with heap := s2.heap.push od, toks := s2.toks } := by
    refine I2.laid (fun b ob z => Heap.get?_push_of_some _ z) (Nat.le_refl _) ⟨_, ⟨od, es, ep, hp, e2, e3⟩, fun g => ?_⟩
    show RelO ([(f, y)].lookup g) (if g = f then some u else none)
    by_cases z : g = f
    · rw [if_pos z, z]
      show RelO (match f == f with | true => some y | false => _) _
      rw [show (f == f) = true by simp]
      exact ry
    · rw [if_neg z]
      show RelO (match g == f with | true => some y | false => none) none
      rw [show (g == f) = false by simpa using z]
      trivial
  refine I3.write (x := a) (e := a) (t' := tk) ?_ (.inl rfl) (fun b ob nb z => ?_) ⟨_, k2⟩ (exo_ok k2)
  · rw [upd_ne (Ne.symm na), ea]; trivial
  · rcases Heap.get?_push_cases z with ⟨rfl, rfl⟩ | z
    · exact e1
    · exact k1 b ob nb z
/-- C.__init__(x, ..), C an exception's class whose __init__ is ValueError's -/
def tXIni (K : PySem.W.Frag) (t : TA) : TE := fun σ H Q => t σ H fun vs H1 => ∃ x C ini ws, vs = .ref x :: ws ∧ ws.length ≤ 1000 ∧ H1 x = some (ExO C x none) ∧ xclsIn K C ini = true ∧ Q .non H1
structure SInit (K : PySem.W.Frag) (S : Addr) : Prop where
  ga : PySem.W.specialIn K (.ref S) "__getattribute__" = some (some (.builtin "type.__getattribute__"))
  rd : PySem.W.readsIn K S (.type "type") = true
  fd : PySem.W.findCls K (.ref S) (.type "type") "__init__" = some (.val (.builtin "ValueError.__init__"))
theorem pe_xini {pl : Sem Bool} {S : Addr} {apos : Pos} (hi : SInit X.K S) (hg : Gl X n) (hm : X.mg n = some (.ref S)) (ha : PA X (e :: es) t) (hdb : (n == ("__debug__" : Str)) = false := by decide)
    (he : starEach (e :: es) X.env = (false, eval e X.env) :: starEach es X.env := by rfl) (hpl : (backTo pos (starEach es X.env)).any (·.1) = false := by rfl)
    (ht : eval (.Call (.Attribute (.Name n p) "__init__" apos) (e :: es) [] pos) X.env = (do
      let ov ← eval (.Name n p) X.env
      standAt apos.atName
      let (f, first) ← holding [ov] (getMethod ov "__init__" pl)
      callWith pos f first (backTo pos (starEach (e :: es) X.env)) (backToKw pos (keywordEach [] X.env))) := by rfl) :
    PE X (.Call (.Attribute (.Name n p) "__init__" apos) (e :: es) [] pos) (tXIni X.K t) := by
  intro pins s σ H Q I h
  refine PySem.W.methodCall_KW (pl := pl) (ld_glob I hg hm ?_ hdb) ht
  refine PySem.W.method_cls I.kIn hi.ga (PySem.W.cls_value I.kIn hi.rd hi.fd rfl ?_)
  have hA := ha pos pins _ σ H _ (I.tok (s.toks + 1)) h
  rw [he] at hA ⊢
  refine Calls.callWith_builtin (by show (false || (backTo pos (starEach es X.env)).any (·.1)) = false; rw [hpl]; rfl) (Calls.evalArgs_plain (thn hA fun us s2 ⟨vs, H2, I2, r, x, C, ini, ws, ev, hl, ex, hc, q⟩ => ?_))
  subst ev
  cases r with
  | cons r1 r2 =>
    rename_i u us
    cases r1
    obtain ⟨t0, ht0⟩ := exo_at I2 ex
    refine wpAny_call (xinit (xat_of I2.kIn hc) ht0 (fun h' t1 k1 k2 => ?_) (by have := r2.length; rw [sizeLine_eq]; omega))
    have I3 := I2.write (h' := h') (x := x) (e := x) (o := ExO C x none) (t' := s2.toks) (by rw [ex]; trivial) (.inl rfl) k1 ⟨_, k2⟩ (exo_ok k2)
    have same : upd H2 x (ExO C x none) = H2 := by
      funext b
      by_cases z : b = x
      · rw [z, upd_same, ex]
      · exact upd_ne z
    rw [same] at I3
    exact ⟨.non, H2, I3, rfl, q⟩
/-- C(..), where C has an __init__ of its own -/
def tExcI (C : Addr) (sp : Sp) (E : XK) (t : TA) : TE := fun σ H Q => t σ H fun vs H1 => vs.length ≤ 1000 ∧ ∀ x, H1 x = none → sp (.ref x :: vs) (upd H1 x (ExO C x none)) (fun v H2 => v = .non ∧ Q (.ref x) H2) E
theorem pe_excI {CX : CXT} {k : Nat} {fI : Addr} {fd : FuncData} {ps : List Str} {sp : Sp} {E : XK} (hx : xclsIn X.K C (some (.ref fI)) = true) (kp : PySem.W.keepIn X.K (.ref C) = true) (hf : PySem.W.typeIn X.K (.ref fI) = some (.type "function")) (F : FnOk X.prog X.w X.K X.mg X.base CX k fI fd ps sp) (hr : Room (k + 1) X.A)
    (hb : Binds X.K fd ps []) (hp : Passes CX X E) (hg : Gl X n) (hm : X.mg n = some (.ref C)) (ha : PA X (e :: es) t) (hdb : (n == ("__debug__" : Str)) = false := by decide)
    (he : starEach (e :: es) X.env = (false, eval e X.env) :: starEach es X.env := by rfl) (hpl : (backTo pos (starEach es X.env)).any (·.1) = false := by rfl) : PE X (.Call (.Name n p) (e :: es) [] pos) (tExcI C sp E t) := by
  intro pins s σ H Q I h
  refine wpAny_Call_Name_kw (ld_glob I hg hm ?_ hdb)
  refine PySem.W.callWith_K (h₀ := X.base) I.ok.mod.kin kp (thn (ha pos pins s σ H _ I h) fun us s1 ⟨vs, H1, I1, r, hl, q⟩ => ⟨I1.kIn, ?_⟩) he hpl
  obtain ⟨oI, hoI, hcI⟩ := Option.map_eq_some_iff.mp hf
  refine xmake (xat_of I1.kIn hx) (I1.kIn _ _ hoI) hcI (by have := r.length; rw [sizeLine_eq]; show us.length ≤ _; omega) fun h' a t1 k1 k2 k3 => ?_
  have I2 := I1.laid (t' := s1.toks) (o := ExO C a none) k1 k2 (exo_ok k3)
  have hq := q a (I1.hok.fresh k2)
  have r2 : Vals (V.ref a :: vs) (Value.ref a :: (us ++ [])) := .cons rfl (by rw [List.append_nil]; exact r)
  have hl2 : (Value.ref a :: us ++ []).length = ps.length := by
    have z := r2.length
    rw [F.len _ _ _ _ hq] at z
    exact z.symm
  have hb2 : BindsTo { s1 with heap := h', toks := s1.toks } fd ⟨Value.ref a :: us, []⟩ (ps.zip (Value.ref a :: (us ++ []))) := hb _ (Value.ref a :: us) I2.kIn hl2
  refine wpAny_call (codeAny_mono (F.run _ X.stack _ _ ⟨Value.ref a :: us, []⟩ (Value.ref a :: (us ++ [])) _ _ E (hr.make C us []) (I2.env0.make C us []) hb2 r2 hq) fun res s' hq' => ?_)
  cases res with
  | error er => exact hp pins σ _ _ er s' I2 hq'
  | ok fl =>
    cases fl with
    | ret u =>
      obtain ⟨v, H3, I3, rv, ev, q3⟩ := I2.after hq'
      subst ev
      exact ⟨rv, V.ref a, H3, I3, rfl, q3⟩
    | next => exact hq'.elim
    | brk => exact hq'.elim
    | cont => exact hq'.elim
end
end L2

set_option Elab.async false
set_option linter.all false
set_option maxRecDepth 100000
set_option maxHeartbeats 4000000
namespace L2
open PySem PySem.Spec PyProof.Rows
section
variable {X : Cx} {C x : Addr} {n : Str} {p pos : Pos} {e : Expr} {es : List Expr} {t : TA}
theorem row_len : ∀ i : Fin 60, (Str.ofString (toString ((i.val : Nat) : Int))).length ≤ 100 := by decide +kernel
theorem row_len' {i : Int} (h0 : 0 ≤ i) (h1 : i < 60) : (Str.ofString (toString i)).length ≤ 100 := by
  have := row_len ⟨i.toNat, by omega⟩
  rwa [show ((i.toNat : Nat) : Int) = i by omega] at this
/-- f'a{e}b', of a number from 0 to 59 -/
def tFs (te : TE) : TE := fun σ H Q => te σ H fun x H1 => ∃ i : Int, x = .int i ∧ 0 ≤ i ∧ i < 60 ∧ ∀ y, Q (.str y) H1
theorem pe_fs {a b : Str} {j1 j2 : Nat} {p1 p2 p3 : Pos} {te : TE} (he : PE X e te) (ha : a.length ≤ 1000) (hb : b.length ≤ 1000) : PE X (.JoinedStr [.Constant (.str a) j1 p1, .FormattedValue e (-1) none p2, .Constant (.str b) j2 p3] pos) (tFs te) := by
  intro pins s σ H Q I h
  refine JoinedStr_many (joinParts_cons (Calls.Constant_str ⟨?_, joinParts_cons (FormattedValue_plain (thn (he pins _ σ H _ (I.tok _) h) fun u s1 ⟨x, H1, I1, rx, i, ex, i0, i1, q⟩ => ?_))⟩))
  · rw [strLen_append, sizeLine_eq]
    have : (Str.empty).length = 0 := rfl
    omega
  · subst ex
    obtain ⟨tk, rfl⟩ := rx
    have hl := row_len' i0 i1
    have z0 : (Str.empty).length = 0 := rfl
    refine formatField_int_small ?_ ⟨?_, joinParts_cons (Calls.Constant_str ⟨?_, joinParts_nil ⟨.str _, H1, I1.tok _, ⟨_, rfl⟩, q _⟩ ?_⟩)⟩
    · have : i.natAbs < 2 ^ 6 := by omega
      have := Nat.log2_lt (n := i.natAbs) (k := 6)
      by_cases z : i.natAbs = 0
      · rw [z]; decide
      · have := (Nat.log2_lt z).mpr ‹i.natAbs < 2 ^ 6›
        omega
    · rw [strLen_append, strLen_append, sizeLine_eq]; omega
    · rw [strLen_append, strLen_append, strLen_append, sizeLine_eq]; omega
    · rw [strLen_append, strLen_append, strLen_append, sizeLine_eq]; omega
/-! boxes -/
theorem qe_exc (hx : xclsIn X.K C none = true) (kp : PySem.W.keepIn X.K (.ref C) = true) (hg : Gl X n) (hm : X.mg n = some (.ref C)) (ha : QA X (e :: es) t) (hdb : (n == ("__debug__" : Str)) = false := by decide)
    (he : starEach (e :: es) X.env = (false, eval e X.env) :: starEach es X.env := by rfl) (hpl : (backTo pos (starEach es X.env)).any (·.1) = false := by rfl) : QE X (.Call (.Name n p) (e :: es) [] pos) (tExc C t) := ⟨pe_exc hx kp hg hm ha.h hdb he hpl⟩
theorem qe_excI {CX : CXT} {k : Nat} {fI : Addr} {fd : FuncData} {ps : List Str} {sp : Sp} {E : XK} (hx : xclsIn X.K C (some (.ref fI)) = true) (kp : PySem.W.keepIn X.K (.ref C) = true) (hf : PySem.W.typeIn X.K (.ref fI) = some (.type "function")) (F : FnOk X.prog X.w X.K X.mg X.base CX k fI fd ps sp) (hr : Room (k + 1) X.A)
    (hb : Binds X.K fd ps []) (hp : Passes CX X E) (hg : Gl X n) (hm : X.mg n = some (.ref C)) (ha : QA X (e :: es) t) (hdb : (n == ("__debug__" : Str)) = false := by decide)
    (he : starEach (e :: es) X.env = (false, eval e X.env) :: starEach es X.env := by rfl) (hpl : (backTo pos (starEach es X.env)).any (·.1) = false := by rfl) : QE X (.Call (.Name n p) (e :: es) [] pos) (tExcI C sp E t) := ⟨pe_excI hx kp hf F hr hb hp hg hm ha.h hdb he hpl⟩
theorem qe_xfld {f : Str} {ta : TE} (he : QE X e ta) (hb : attributeBase e f X.env (eval e X.env) = eval e X.env) : QE X (.Attribute e f pos) (tXFld X.K ta f) := ⟨pe_xfld he.h hb⟩
theorem qs_xfld {f : Str} {ta tv : TE} {o value : Expr} {pos' : Pos} (ha : QE X o ta) (hv : QE X value tv) (hs : swapsWith value (some (.Attribute o f pos')) pos.line X.env = pure false) : QS X (.Assign [.Attribute o f pos'] value pos) (sXFld X.K ta tv f) := ⟨ps_xfld ha.h hv.h hs⟩
theorem qe_xini {pl : Sem Bool} {S : Addr} {apos : Pos} (hi : SInit X.K S) (hg : Gl X n) (hm : X.mg n = some (.ref S)) (ha : QA X (e :: es) t) (hdb : (n == ("__debug__" : Str)) = false := by decide)
    (he : starEach (e :: es) X.env = (false, eval e X.env) :: starEach es X.env := by rfl) (hpl : (backTo pos (starEach es X.env)).any (·.1) = false := by rfl)
    (ht : eval (.Call (.Attribute (.Name n p) "__init__" apos) (e :: es) [] pos) X.env = (do
      let ov ← eval (.Name n p) X.env
      standAt apos.atName
      let (f, first) ← holding [ov] (getMethod ov "__init__" pl)
      callWith pos f first (backTo pos (starEach (e :: es) X.env)) (backToKw pos (keywordEach [] X.env))) := by rfl) :
    QE X (.Call (.Attribute (.Name n p) "__init__" apos) (e :: es) [] pos) (tXIni X.K t) := ⟨pe_xini (pl := pl) hi hg hm ha.h hdb he hpl ht⟩
theorem qe_fs {a b : Str} {j1 j2 : Nat} {p1 p2 p3 : Pos} {te : TE} (he : QE X e te) (ha : a.length ≤ 1000) (hb : b.length ≤ 1000) : QE X (.JoinedStr [.Constant (.str a) j1 p1, .FormattedValue e (-1) none p2, .Constant (.str b) j2 p3] pos) (tFs te) := ⟨pe_fs he.h ha hb⟩
theorem qe_glob {v : V} {u : Value} (hg : Gl X n) (hm : X.mg n = some u) (r : RelV v u) (hd : (n == ("__debug__" : Str)) = false := by decide) : QE X (.Name n pos) (tC v) := ⟨pe_glob hg hm r hd⟩
end
end L2

set_option Elab.async false
set_option linter.all false
set_option maxRecDepth 100000
set_option maxHeartbeats 4000000
namespace My
open PySem L2 PyProof.Rows
section
variable {P : Program} {w : World} {K : PySem.W.Frag} {mg : Str → Option Value} {base : Heap}
/-! ### the refusals -/
def clsBody : Stmt → List Stmt
  | .ClassDef _ _ _ b _ _ _ _ _ _ _ => b
  | _ => []
abbrev s_init : Stmt := (clsBody (top 17)).getD 0 (.Pass ⟨0, 0, 0, 0⟩)
def xokIn (K : PySem.W.Frag) (C : Addr) : Bool :=
  PySem.W.findIn K (.ref C) "__getattribute__" == some (some (.builtin "BaseException.__getattribute__")) && PySem.W.findIn K (.ref C) "__getattr__" == some none && PySem.W.findIn K (.ref C) "__setattr__" == some (some (.builtin "object.__setattr__"))
  && PySem.W.mroIn K C (.type "BaseException") == some true && PySem.W.mroIn K C (.type "object") == some true && PySem.W.findIn K (.ref C) "__class__" == some (some (.builtin "object.__class__"))
  && PySem.W.specialIn K (.builtin "object.__class__") "__get__" == some (some (.builtin "getset_descriptor.__get__")) && PySem.W.takesIn K (.builtin "object.__class__") == some true && PySem.W.hasDictIn K C
theorem xok_of {K : PySem.W.Frag} {C : Addr} (e : xokIn K C = true) : XCls K C := by
  simp only [xokIn, Bool.and_eq_true, beq_iff_eq] at e
  obtain ⟨⟨⟨⟨⟨⟨⟨⟨e1, e2⟩, e3⟩, e4⟩, e5⟩, e6⟩, e7⟩, e8⟩, e9⟩ := e
  exact ⟨e1, e2, e3, e4, e5, e6, e7, e8, e9⟩
def sinIn (K : PySem.W.Frag) (S : Addr) : Bool := PySem.W.specialIn K (.ref S) "__getattribute__" == some (some (.builtin "type.__getattribute__")) && PySem.W.readsIn K S (.type "type") &&
  (match PySem.W.findCls K (.ref S) (.type "type") "__init__" with | some (.val (.builtin i)) => i == "ValueError.__init__" | _ => false)
theorem sin_of {K : PySem.W.Frag} {S : Addr} (e : sinIn K S = true) : SInit K S := by
  simp only [sinIn, Bool.and_eq_true, beq_iff_eq] at e
  obtain ⟨⟨e1, e2⟩, e3⟩ := e
  refine ⟨e1, e2, ?_⟩
  split at e3
  · rename_i i h
    rw [beq_iff_eq.mp e3] at h
    exact h
  · cases e3
/-- what isinstance tells of an exception of the class C: of the four own classes and of ValueError -/
def kindsIn (K : PySem.W.Frag) (C CN CP CS CE : Addr) (a b c : Bool) : Bool :=
  PySem.W.kitOne K (.ref C) (.ref CN) == some a && PySem.W.kitOne K (.ref C) (.ref CP) == some b && PySem.W.kitOne K (.ref C) (.ref CS) == some c && PySem.W.kitOne K (.ref C) (.ref CE) == some true && PySem.W.kitOne K (.ref C) (.type "ValueError") == some true
structure Kinds (K : PySem.W.Frag) (C CN CP CS CE : Addr) (a b c : Bool) : Prop where
  cl : XCls K C
  kN : PySem.W.kitOne K (.ref C) (.ref CN) = some a
  kP : PySem.W.kitOne K (.ref C) (.ref CP) = some b
  kS : PySem.W.kitOne K (.ref C) (.ref CS) = some c
  kE : PySem.W.kitOne K (.ref C) (.ref CE) = some true
  kV : PySem.W.kitOne K (.ref C) (.type "ValueError") = some true
theorem kinds_of {K : PySem.W.Frag} {C CN CP CS CE : Addr} {a b c : Bool} (e : kindsIn K C CN CP CS CE a b c = true) (x : xokIn K C = true) : Kinds K C CN CP CS CE a b c := by
  simp only [kindsIn, Bool.and_eq_true, beq_iff_eq] at e
  obtain ⟨⟨⟨⟨e1, e2⟩, e3⟩, e4⟩, e5⟩ := e
  exact ⟨xok_of x, e1, e2, e3, e4, e5⟩
structure Exs (K : PySem.W.Frag) (C_BadNumber C_BadPath C_BadSheet C_SideError fI : Addr) : Prop where
  x_BadNumber : xclsIn K C_BadNumber none = true
  x_BadPath : xclsIn K C_BadPath none = true
  x_BadSheet : xclsIn K C_BadSheet (some (.ref fI)) = true
  k_BadNumber : PySem.W.keepIn K (.ref C_BadNumber) = true
  k_BadPath : PySem.W.keepIn K (.ref C_BadPath) = true
  k_BadSheet : PySem.W.keepIn K (.ref C_BadSheet) = true
  t_init : PySem.W.typeIn K (.ref fI) = some (.type "function")
  n_row : NoAttr K C_BadSheet "row"
  mro : (PySem.W.clsIn K C_BadSheet).any (fun cd => excMro cd.mro) = true
  ini : SInit K C_SideError
  q_BadNumber : Kinds K C_BadNumber C_BadNumber C_BadPath C_BadSheet C_SideError true false false
  q_BadPath : Kinds K C_BadPath C_BadNumber C_BadPath C_BadSheet C_SideError false true false
  q_BadSheet : Kinds K C_BadSheet C_BadNumber C_BadPath C_BadSheet C_SideError false false true
section
variable {C_BadNumber C_BadPath C_BadSheet C_SideError fI : Addr}
def spInit (K : PySem.W.Frag) (C fI : Addr) : Sp := fun vs H Q _ => ∃ (x : Addr) (i : Int), vs = [.ref x, .int i] ∧ 0 ≤ i ∧ i < 60 ∧ H x = some (ExO C x none) ∧ ∀ d, H d = none → d ≠ x → Q .non (upd (upd H d (.xd [("row", .int i)])) x (ExO C x (some d)))
theorem sc_init : FnScope ["self", "row"] ["self", "row"] (defScope s_init) := ⟨rfl, rfl, rfl, by decide +kernel, rfl, by decide +kernel, by decide +kernel⟩
theorem ok_init {fd : FuncData} (F : Fun K "__init__" "BadSheet.__init__" s_init fI fd) (ex : Exs K C_BadNumber C_BadPath C_BadSheet C_SideError fI) (h_SideError : mg "SideError" = some (.ref C_SideError)) : FnOk P w K mg base CX0 1 fI fd ["self", "row"] (spInit K C_BadSheet fI) := by
  refine F.okQ sc_init (fun vs H Q E h => ?_) (fun cdv A outer s H vs Q E hr h => ?_)
  · obtain ⟨x, i, rfl, _⟩ := h; rfl
  · obtain ⟨x, i, rfl, i0, i1, hx, q⟩ := h
    refine ⟨_, qb_cons (qs_expr (qe_xini ex.ini rfl h_SideError (qc (qv 0) (qc (qe_fs (qv 1) (by decide) (by decide)) qa_nil)))) (qb_one (qs_xfld (qv 0) (qv 1) rfl)), ?_⟩
    refine ⟨_, rfl, _, rfl, i, rfl, i0, i1, fun y => ⟨x, C_BadSheet, _, _, rfl, by show 1 ≤ 1000; decide, hx, ex.x_BadSheet, ?_⟩⟩
    refine ⟨_, rfl, _, rfl, x, C_BadSheet, rfl, hx, ex.q_BadSheet.cl, ex.mro, ex.n_row, fun d hd nd => ?_⟩
    exact q d hd nd
/-! ### refusals_right -/
def spRefuse : Sp := fun vs H Q _ => ∃ i : Int, vs = [.int i] ∧ 0 ≤ i ∧ i < 60 ∧ ∀ H', Same H H' → Q (.bl true) H'
abbrev s_refusals_right : Stmt := top 32
theorem sc_refusals_right : FnScope ["_law_row", "_law_some", "_law_k", "_law_error", "_law_kinds"] ["_law_row"] (defScope s_refusals_right) := ⟨rfl, rfl, rfl, by decide +kernel, rfl, by decide +kernel, by decide +kernel⟩
theorem same_two {H0 H : Hp} {x d : Addr} {o u : HO} (s : Same H0 H) (h1 : H0 d = none) (h2 : H0 x = none) : Same H0 (upd (upd H d o) x u) := same_updL (same_updL s h1) h2
theorem ok_refusals_right {f : Addr} {fd : FuncData} {fdI : FuncData} (F : Fun K "_law_refusals_right" "_law_refusals_right" s_refusals_right f fd) (T : Txt mg) (ex : Exs K C_BadNumber C_BadPath C_BadSheet C_SideError fI)
    (h_BadNumber : mg "BadNumber" = some (.ref C_BadNumber)) (h_BadPath : mg "BadPath" = some (.ref C_BadPath)) (h_BadSheet : mg "BadSheet" = some (.ref C_BadSheet)) (h_SideError : mg "SideError" = some (.ref C_SideError)) (z_ValueError : mg "ValueError" = none)
    (ok_i : FnOk P w K mg base CX0 1 fI fdI ["self", "row"] (spInit K C_BadSheet fI)) (b_i : Binds K fdI ["self", "row"] []) : FnOk P w K mg base CX0 3 f fd ["_law_row"] spRefuse := by
  refine F.okQ sc_refusals_right (fun vs H Q E h => ?_) (fun cdv A outer s H vs Q E hr h => ?_)
  · obtain ⟨i, rfl, _⟩ := h; rfl
  · obtain ⟨i, rfl, i0, i1, q⟩ := h
    refine ⟨_, (qb_cons (qs_set (i := 1) sc_refusals_right.nd rfl (Or.inl rfl) (qe_lst (qc (qe_exc ex.x_BadNumber ex.k_BadNumber rfl h_BadNumber (qc qe_str qa_nil)) (qc (qe_exc ex.x_BadPath ex.k_BadPath rfl h_BadPath (qc qe_str qa_nil)) (qc (qe_excI ex.x_BadSheet ex.k_BadSheet ex.t_init ok_i (hr.mono (by omega)) b_i pass0 rfl h_BadSheet (qc (qv 0) qa_nil)) qa_nil)))))
  (qb_cons (qs_for PassesOwn.never rfl (qi_enum rfl T.n_enumerate (qc (qv 1) qa_nil)) (qg_tup rfl (qgs_cons (qg_name (i := 2) sc_refusals_right.nd rfl (Or.inl rfl)) (qgs_cons (qg_name (i := 3) sc_refusals_right.nd rfl (Or.inl rfl)) qgs_nil)))
    (qb_cons (qs_set (i := 4) sc_refusals_right.nd rfl (Or.inl rfl) (qe_lst (qc (qe_callBS (call_isx (c := .ref C_BadNumber) (u := .ref C_BadNumber) (fun _ h => h)) rfl T.n_isinstance bt_isinstance (qc (qv 3) (qc (qe_glob (v := .ref C_BadNumber) rfl h_BadNumber rfl) qa_nil))) (qc (qe_callBS (call_isx (c := .ref C_BadPath) (u := .ref C_BadPath) (fun _ h => h)) rfl T.n_isinstance bt_isinstance (qc (qv 3) (qc (qe_glob (v := .ref C_BadPath) rfl h_BadPath rfl) qa_nil))) (qc (qe_callBS (call_isx (c := .ref C_BadSheet) (u := .ref C_BadSheet) (fun _ h => h)) rfl T.n_isinstance bt_isinstance (qc (qv 3) (qc (qe_glob (v := .ref C_BadSheet) rfl h_BadSheet rfl) qa_nil))) qa_nil)))))
  (qb_one (qs_if (qt_w (qw_or (qt_cmpR (op_neA hr) (qv 4) (qe_lst (qc (qe_cmpR op_eq (qv 2) qe_int (nomark _)) (qc (qe_cmpR op_eq (qv 2) qe_int (nomark _)) (qc (qe_cmpR op_eq (qv 2) qe_int (nomark _)) qa_nil)))) (nomark _)) (qw_or (qt_not (qt_val (qe_callBS (call_isx (c := .ref C_SideError) (u := .ref C_SideError) (fun _ h => h)) rfl T.n_isinstance bt_isinstance (qc (qv 3) (qc (qe_glob (v := .ref C_SideError) rfl h_SideError rfl) qa_nil))) (by intro _; rfl))) (qw_or1 (qt_not (qt_val (qe_callBS (call_isx (c := .ty "ValueError") (u := .type "ValueError") (fun _ h => h)) rfl T.n_isinstance bt_isinstance (qc (qv 3) (qc (qe_bltn (v := .ty "ValueError") rfl z_ValueError PyProof.Rows.Boot.«ValueError» rfl) qa_nil))) (by intro _; rfl))))))) (qb_one (qs_ret qe_bl)) qb_nil))))
  (qb_one (qs_ret (qe_cmpR op_eq (qe_xfld (qe_ix ix_list (qv 1) qe_int (fun _ _ => rfl)) rfl) (qv 0) (nomark _)))))), ?_⟩
    refine ⟨by show 1 ≤ 1000; decide, fun e1 n1 => ?_⟩
    have s1 := Same.upd (o := ExO C_BadNumber e1 none) n1
    have f1 := upd_same (H := H) (a := e1) (o := ExO C_BadNumber e1 none)
    generalize upd H e1 (ExO C_BadNumber e1 none) = H1 at s1 f1 ⊢
    refine ⟨by show 1 ≤ 1000; decide, fun e2 n2 => ?_⟩
    have s2 := Same.upd (o := ExO C_BadPath e2 none) n2
    have f2 := upd_same (H := H1) (a := e2) (o := ExO C_BadPath e2 none)
    generalize upd H1 e2 (ExO C_BadPath e2 none) = H2 at s2 f2 ⊢
    refine ⟨_, rfl, by show 1 ≤ 1000; decide, fun e3 n3 => ?_⟩
    have s3 := Same.upd (o := ExO C_BadSheet e3 none) n3
    have f3 := upd_same (H := H2) (a := e3) (o := ExO C_BadSheet e3 none)
    generalize eq3 : upd H2 e3 (ExO C_BadSheet e3 none) = H3 at s3 f3 ⊢
    refine ⟨e3, i, rfl, i0, i1, f3, fun d hd nd => ⟨rfl, ?_⟩⟩
    have s4 : Same H2 (upd (upd H3 d (.xd [("row", .int i)])) e3 (ExO C_BadSheet e3 (some d))) := same_two s3 (s3.free hd) n3
    have f4 : (upd (upd H3 d (.xd [("row", .int i)])) e3 (ExO C_BadSheet e3 (some d))) e3 = some (ExO C_BadSheet e3 (some d)) := upd_same
    have f5 : (upd (upd H3 d (.xd [("row", .int i)])) e3 (ExO C_BadSheet e3 (some d))) d = some (.xd [("row", .int i)]) := by rw [upd_ne nd, upd_same]
    generalize upd (upd H3 d (.xd [("row", .int i)])) e3 (ExO C_BadSheet e3 (some d)) = H4 at s4 f4 f5 ⊢
    refine ⟨by show 3 ≤ sizeLine; decide, fun l5 n5 => ?_⟩
    have s5 := Same.upd (o := .lst [.ref e1, .ref e2, .ref e3]) n5
    have f6 := upd_same (H := H4) (a := l5) (o := .lst [.ref e1, .ref e2, .ref e3])
    generalize upd H4 l5 (.lst [.ref e1, .ref e2, .ref e3]) = H5 at s5 f6 ⊢
    have sA : Same H H5 := ((s1.trans s2).trans s4).trans s5
    have g1 : H5 e1 = some (ExO C_BadNumber e1 none) := s5 _ _ (s4 _ _ (s2 _ _ f1))
    have g2 : H5 e2 = some (ExO C_BadPath e2 none) := s5 _ _ (s4 _ _ f2)
    have g3 : H5 e3 = some (ExO C_BadSheet e3 (some d)) := s5 _ _ f4
    have g4 : H5 d = some (.xd [("row", .int i)]) := s5 _ _ f5
    have all : ∀ (j : Nat) (v : V), [V.ref e1, V.ref e2, V.ref e3][j]? = some v → ∃ (x C : Addr) (dx : Option Addr), v = .ref x ∧ H5 x = some (ExO C x dx) ∧ Dct H5 dx ∧ Kinds K C C_BadNumber C_BadPath C_BadSheet C_SideError (decide (V.int (j : Int) = V.int 0)) (decide (V.int (j : Int) = V.int 1)) (decide (V.int (j : Int) = V.int 2)) := by
      intro j v hj
      match j, hj with
      | 0, hj => cases hj; exact ⟨e1, _, _, rfl, g1, (fun _ z => nomatch z), ex.q_BadNumber⟩
      | 1, hj => cases hj; exact ⟨e2, _, _, rfl, g2, (fun _ z => nomatch z), ex.q_BadPath⟩
      | 2, hj => cases hj; exact ⟨e3, _, _, rfl, g3, (fun _ z => by cases z; exact ⟨_, g4⟩), ex.q_BadSheet⟩
    refine ⟨_, rfl, l5, rfl, ⟨_, SqL.of f6⟩, ?_⟩
    refine for_enum (K := K) (a := l5) (xs := [.ref e1, .ref e2, .ref e3]) (fun j σ HX => ∃ v2 v3 v4 : Option V, σ = [some (.int i), some (.ref l5), v2, v3, v4] ∧ Same H5 HX)
      ⟨_, _, _, rfl, Same.refl _⟩ (fun j σ HX _ ⟨_, _, _, _, h⟩ => SqL.of (h _ _ f6)) ?_ ?_
    · rintro j v p σ HX hj hp ⟨v2, v3, v4, rfl, sX⟩
      obtain ⟨x, C, dx, rfl, hx, hdx, kk⟩ := all j v hj
      have sP := Same.upd (o := .tup [.int (j : Int), .ref x]) hp
      have fP := upd_same (H := HX) (a := p) (o := .tup [.int (j : Int), .ref x])
      generalize upd HX p (.tup [.int (j : Int), .ref x]) = HP at sP fP ⊢
      have sQ := sX.trans sP
      have dm : ∀ {H' : Hp}, Same H5 H' → Dct H' dx := fun z d' e => let ⟨fs, k⟩ := hdx d' e; ⟨fs, z _ _ k⟩
      refine ⟨p, _, rfl, SqT.of fP, rfl, _, _, rfl, _, _, rfl, rfl, ?_⟩
      refine ⟨_, rfl, x, C, dx, _, rfl, sQ _ _ hx, dm sQ, kk.cl, kk.kN, ?_⟩
      refine ⟨_, rfl, x, C, dx, _, rfl, sQ _ _ hx, dm sQ, kk.cl, kk.kP, ?_⟩
      refine ⟨_, rfl, x, C, dx, _, rfl, sQ _ _ hx, dm sQ, kk.cl, kk.kS, ?_⟩
      refine ⟨by show 3 ≤ sizeLine; decide, fun l6 n6 => ?_⟩
      have s6 := Same.upd (o := .lst [.bl (decide (V.int (j : Int) = V.int 0)), .bl (decide (V.int (j : Int) = V.int 1)), .bl (decide (V.int (j : Int) = V.int 2))]) n6
      have f7 := upd_same (H := HP) (a := l6) (o := .lst [.bl (decide (V.int (j : Int) = V.int 0)), .bl (decide (V.int (j : Int) = V.int 1)), .bl (decide (V.int (j : Int) = V.int 2))])
      generalize upd HP l6 (.lst [.bl (decide (V.int (j : Int) = V.int 0)), .bl (decide (V.int (j : Int) = V.int 1)), .bl (decide (V.int (j : Int) = V.int 2))]) = HL at s6 f7 ⊢
      refine ⟨_, rfl, _, rfl, rfl, _, rfl, rfl, _, rfl, rfl, by show 3 ≤ sizeLine; decide, fun l7 n7 => ?_⟩
      have s7 := Same.upd (o := .lst [.bl (decide (V.int (j : Int) = V.int 0)), .bl (decide (V.int (j : Int) = V.int 1)), .bl (decide (V.int (j : Int) = V.int 2))]) n7
      have f8 := upd_same (H := HL) (a := l7) (o := .lst [.bl (decide (V.int (j : Int) = V.int 0)), .bl (decide (V.int (j : Int) = V.int 1)), .bl (decide (V.int (j : Int) = V.int 2))])
      generalize upd HL l7 (.lst [.bl (decide (V.int (j : Int) = V.int 0)), .bl (decide (V.int (j : Int) = V.int 1)), .bl (decide (V.int (j : Int) = V.int 2))]) = HM at s7 f8 ⊢
      replace f7 := s7 _ _ f7
      have sM := (sQ.trans s6).trans s7
      have el : ∀ (m : Nat) (u v : V), [V.bl (decide (V.int (j : Int) = V.int 0)), V.bl (decide (V.int (j : Int) = V.int 1)), V.bl (decide (V.int (j : Int) = V.int 2))][m]? = some u → [V.bl (decide (V.int (j : Int) = V.int 0)), V.bl (decide (V.int (j : Int) = V.int 1)), V.bl (decide (V.int (j : Int) = V.int 2))][m]? = some v → Alike HM 0 u v := by
        intro m u v hu hv
        rw [hu] at hv
        cases hv
        have := List.mem_of_getElem? hu
        simp only [List.mem_cons, List.not_mem_nil, or_false] at this
        rcases this with z | z | z <;> rw [z] <;> exact ⟨rfl, trivial⟩
      refine ⟨⟨0, by decide, alike_list f7 f8 rfl (by show 3 ≤ 1000; decide) el, .inr ⟨l6, l7, false, _, _, rfl, rfl, f7, f8, rfl, el⟩⟩, _, rfl, iteF ?_⟩
      refine ⟨_, rfl, x, C, dx, _, rfl, sM _ _ hx, dm sM, kk.cl, kk.kE, _, rfl, iteF ?_⟩
      refine ⟨_, rfl, x, C, dx, _, rfl, sM _ _ hx, dm sM, kk.cl, kk.kV, _, rfl, iteF ?_⟩
      exact ⟨_, _, _, rfl, sM⟩
    · rintro σ HX ⟨v2, v3, v4, rfl, sX⟩
      refine ⟨_, rfl, l5, _, _, _, rfl, rfl, SqL.of (sX _ _ f6), at2, e3, C_BadSheet, d, _, i, rfl, sX _ _ g3, ex.q_BadSheet.cl, ex.n_row, sX _ _ g4, rfl, _, rfl, rfl, ?_⟩
      rw [decide_eq_true rfl]
      exact q _ (sA.trans sX)
end
end
end My

set_option Elab.async false
set_option linter.all false
set_option maxRecDepth 100000
set_option maxHeartbeats 4000000
namespace My
open PySem L2 PyProof.Rows
section
variable {P : Program} {w : World} {K : PySem.W.Frag} {mg : Str → Option Value} {base : Heap}
/-! ### the law -/
abbrev s_law : Stmt := top 33
def spLaw (K : PySem.W.Frag) : Sp := fun vs H Q _ => ∃ (a : Addr) (ns : List Int), vs = [.ref a] ∧ SqL K H a (ns.map V.int) ∧ ns.length ≤ 63 ∧ ∀ H', Q (.bl true) H'
theorem sc_law : FnScope ["_law_script", "_law_cells", "_law_k", "_law_box", "_law_vector", "_law_bent", "_law_some", "_law_unit", "_law_by", "_law_more"] ["_law_script"] (defScope s_law) := ⟨rfl, rfl, rfl, by decide +kernel, rfl, by decide +kernel, by decide +kernel⟩
theorem join {T : Prop} {G R : Hp → Prop} (h : (∀ H, R H → G H) → T) (k : ∀ H, R H → G H) : T := h k
theorem mul_pos' {p q : Fr} (hp : Nrm p) (hq : Nrm q) (h1 : 0 < p.1) (h2 : 0 < q.1) : 0 < (fmul p q).1 := by
  have nd := mul_ne hp hq
  have c := low_cross (n := p.1 * q.1) nd
  have d := (low_nrm (n := p.1 * q.1) nd).d
  have pd : 0 < p.2 * q.2 := Int.mul_pos (by have := hp.d; omega) (by have := hq.d; omega)
  have pn : 0 < p.1 * q.1 := Int.mul_pos h1 h2
  show 0 < lowN _ _
  replace d : (1 : Int) ≤ lowD (p.1 * q.1) (p.2 * q.2) := d
  generalize lowN (p.1 * q.1) (p.2 * q.2) = A at c ⊢
  generalize lowD (p.1 * q.1) (p.2 * q.2) = B at c d
  have r : 0 < A * (p.2 * q.2) := by rw [c]; exact Int.mul_pos pn (by omega)
  exact Int.pos_of_mul_pos_left r pd
theorem val_zero {p : Fr} (h : p.1 = 0) : val p = 0 := by
  unfold val
  rw [h, Rat.div_def]
  simp
theorem dot_scale {x y c : Fr} (hx : Nrm x) (hy : Nrm y) (hc : Nrm c) : val (fdot (fmul x c) (fmul y c) (fmul x c) (fmul y c)) = val c * val c * val (fdot x y x y) := by
  rw [val_dot (nrm_mul hx hc) (nrm_mul hy hc), val_dot hx hy, val_mul hx hc, val_mul hy hc]
  grind
theorem unit_scale {H : Hp} {u v : V} {x y c : Fr} {e f : Nat} (hx : Nrm x) (hy : Nrm y) (hc : Nrm c) (c0 : 0 < c.1) (U : UnitV H u (fmul x c) (fmul y c) e) (W : UnitV H v x y f) :
    ∃ n : Nat, n ≤ 20 ∧ Alike H (n + 1) u v ∧ ((u = .non ∧ v = .non) ∨ ∃ a b κ xs ys, u = .ref a ∧ v = .ref b ∧ H a = some (Ob κ xs) ∧ H b = some (Ob κ ys) ∧ xs.length = ys.length ∧ ∀ (i : Nat) s t, xs[i]? = some s → ys[i]? = some t → Alike H n s t) := by
  have nd := nrm_dot hx hy
  have nd' := nrm_dot (nrm_mul hx hc) (nrm_mul hy hc)
  have vs := dot_scale hx hy hc
  have cn : c.1 ≠ 0 := by omega
  have vc := val_ne hc cn
  rcases U with ⟨rfl, U⟩ | ⟨l', n', p', a1, a2, Vu⟩ <;> rcases W with ⟨rfl, W⟩ | ⟨l, nl, p, b1, b2, Vw⟩
  · exact ⟨0, by decide, Alike.sc trivial, .inl ⟨rfl, rfl⟩⟩
  · exfalso
    have vl := val_ne nl (show l.1 ≠ 0 by omega)
    have rt := root_val nd nl b1 b2
    have r2 : val (fmul c l) * val (fmul c l) = val (fdot (fmul x c) (fmul y c) (fmul x c) (fmul y c)) := by rw [val_mul hc nl, vs, ← rt]; grind
    rcases U with U | U
    · exact U ⟨_, _, root_of_val nd' (nrm_mul hc nl) r2⟩
    · have z := val_zero U
      rw [vs, ← rt] at z
      grind
  · exfalso
    have nf := nrm_over n' hc cn
    have rt := root_val nd' n' a1 a2
    rw [vs] at rt
    have r2 : val (fover l' c) * val (fover l' c) = val (fdot x y x y) := by rw [val_over n' hc cn]; grind
    rcases W with W | W
    · exact W ⟨_, _, root_of_val nd nf r2⟩
    · rw [val_zero W] at rt
      have := val_ne n' (show l'.1 ≠ 0 by omega)
      grind
  · have rt := root_val nd nl b1 b2
    have r2 : val (fmul c l) * val (fmul c l) = val (fdot (fmul x c) (fmul y c) (fmul x c) (fmul y c)) := by rw [val_mul hc nl, vs, ← rt]; grind
    have pc := mul_pos' hc nl c0 p
    obtain ⟨q1, q2⟩ := root_of_val nd' (nrm_mul hc nl) r2
    obtain rfl : l' = fmul c l := root_eq n' (nrm_mul hc nl) (by omega) (by omega) a1 a2 q1 q2
    have vl := val_ne nl (show l.1 ≠ 0 by omega)
    have pn : (fmul c l).1 ≠ 0 := by omega
    have ex : ∀ {z : Fr}, Nrm z → fover (fmul z c) (fmul c l) = fover z l := fun {z} hz => by
      refine val_inj (nrm_over (nrm_mul hz hc) (nrm_mul hc nl) pn) (nrm_over hz nl (by omega)) ?_
      rw [val_over (nrm_mul hz hc) (nrm_mul hc nl) pn, val_over hz nl (by omega), val_mul hz hc, val_mul hc nl]
      grind
    have A := Vu.alike (n := 0) Vw (ex hx) (ex hy)
    obtain ⟨a, ax, ay, rfl, ha, h1, h2⟩ := Vu
    obtain ⟨b, bx, by', rfl, hb, k1, k2⟩ := Vw
    refine ⟨1, by decide, A, .inr ⟨a, b, true, _, _, rfl, rfl, ha, hb, rfl, fun i s t hs ht => ?_⟩⟩
    match i, hs, ht with
    | 0, hs, ht => cases hs; cases ht; exact h1.alike k1 (ex hx)
    | 1, hs, ht => cases hs; cases ht; exact h2.alike k2 (ex hy)
theorem ok_law {f : Addr} {fd : FuncData} (F : Fun K "law" "law" s_law f fd) (T : Txt mg)
    (g_folded : Fn P w K mg base 1 "_law_folded" ["_law_script", "_law_many"] (spFolded K)) (g_box_of : Fn P w K mg base 1 "_law_box_of" ["_law_script", "_law_k"] (spBoxOf K)) (g_take : Fn P w K mg base 1 "_law_take" ["_law_box", "_law_many"] spTake)
    (g_unit_by : Fn P w K mg base 2 "_law_unit_by" ["_law_box"] spUnitBy) (g_fraction_by : Fn P w K mg base 2 "_law_fraction_by" ["_law_box"] spFractionBy) (g_product : Fn P w K mg base 2 "_law_product" ["_law_p", "_law_q"] (spBin fmul)) (g_sum : Fn P w K mg base 2 "_law_sum" ["_law_p", "_law_q"] (spBin fadd))
    (g_right : Fn P w K mg base 7 "_law_right" ["_law_vector"] spRight) (g_unit_of : Fn P w K mg base 6 "unit_of" ["vector"] spUnit) (g_scaled : Fn P w K mg base 4 "scaled" ["vector", "by"] spVF) (g_refusals_right : Fn P w K mg base 3 "_law_refusals_right" ["_law_row"] spRefuse) : FnOk P w K mg base CX0 8 f fd ["_law_script"] (spLaw K) := by
  refine F.okQ sc_law (fun vs H Q E h => ?_) (fun cdv A outer s H vs Q E hr h => ?_)
  · obtain ⟨a, ns, rfl, _⟩ := h; rfl
  · obtain ⟨a, ns, rfl, hS, hl, q⟩ := h
    refine ⟨_, (qb_cons (qs_set (i := 1) sc_law.nd rfl (Or.inl rfl) (qe_fnS g_folded hr (by omega) rfl (qc (qv 0) (qc qe_int qa_nil))))
  (qb_cons (qs_for PassesOwn.never rfl (qi_range1 rfl T.n_range (qc (qe_callBS call_len_seq rfl T.n_len bt_len (qc (qv 1) qa_nil)) qa_nil)) (qg_name (i := 2) sc_law.nd rfl (Or.inl rfl))
    (qb_cons (qs_set (i := 3) sc_law.nd rfl (Or.inl rfl) (qe_fnS g_box_of hr (by omega) rfl (qc (qv 1) (qc (qv 2) qa_nil))))
  (qb_cons (qs_par3 (i := 7) (j := 8) (k := 9) rfl sc_law.nd rfl rfl rfl (by decide) (by decide) (by decide) rfl rfl rfl (qc (qe_fnS g_unit_by hr (by omega) rfl (qc (qv 3) qa_nil)) (qc (qe_fnS g_fraction_by hr (by omega) rfl (qc (qv 3) qa_nil)) (qc (qe_fnS g_fraction_by hr (by omega) rfl (qc (qv 3) qa_nil)) qa_nil))) rfl)
  (qb_cons (qs_set (i := 4) sc_law.nd rfl (Or.inl rfl) (qe_tup (qc (qe_fnS g_product hr (by omega) rfl (qc (qe_ix ix_tup (qv 7) qe_int (fun _ _ => rfl)) (qc (qv 8) qa_nil))) (qc (qe_fnS g_product hr (by omega) rfl (qc (qe_ix ix_tup (qv 7) qe_int (fun _ _ => rfl)) (qc (qv 8) qa_nil))) qa_nil))))
  (qb_cons (qs_set (i := 5) sc_law.nd rfl (Or.inl rfl) (qe_tup (qc (qe_fnS g_sum hr (by omega) rfl (qc (qe_ix ix_tup (qv 4) qe_int (fun _ _ => rfl)) (qc (qe_tup (qc qe_int (qc (qe_op op_add qe_int (qe_fnS g_take hr (by omega) rfl (qc (qv 3) (qc qe_int qa_nil)))) qa_nil))) qa_nil))) (qc (qe_ix ix_tup (qv 4) qe_int (fun _ _ => rfl)) qa_nil))))
  (qb_cons (qs_set (i := 6) sc_law.nd rfl (Or.inl rfl) (qe_lst (qc (qv 7) (qc (qv 4) (qc (qv 5) (qc (qe_tup (qc (qe_ix ix_tup (qv 4) qe_int (fun _ _ => rfl)) (qc (qe_ix ix_tup (qv 5) qe_int (fun _ _ => rfl)) qa_nil))) (qc (qe_tup (qc (qv 8) (qc (qv 9) qa_nil))) (qc (qe_tup (qc (qv 8) (qc (qe_tup (qc qe_int (qc qe_int qa_nil))) qa_nil))) (qc (qe_tup (qc (qe_tup (qc qe_int (qc qe_int qa_nil))) (qc (qv 9) qa_nil))) (qc (qe_tup (qc (qe_tup (qc qe_int (qc qe_int qa_nil))) (qc (qe_tup (qc qe_int (qc qe_int qa_nil))) qa_nil))) qa_nil))))))))))
  (qb_cons (qs_if (qt_not (qt_val (qe_callBS (call_allB rfl) rfl T.n_all bt_all (qc (qe_comp (N' := ["_law_one"]) (t := 1) (cap := []) rfl (CompOk.of rfl) (qi_list (qe_op op_cat (qv 6) (qv 6))) (fun _ _ _ _ => (qg_name (i := 0) (show List.Nodup (["_law_one"] : List Str) by decide +kernel) rfl (Or.inl rfl) (Or.inr rfl))) (fun _ _ _ _ => (qe_fnS g_right hr (by omega) rfl (qc (qv 0) qa_nil)))) qa_nil)) (by intro _; rfl))) (qb_one (qs_ret qe_bl)) qb_nil)
  (qb_cons (qs_if (qt_w (qw_and (qt_cmpR op_ne (qe_ix ix_tup (qv 8) qe_int (fun _ _ => rfl)) qe_int (nomark _)) (qw_and1 (qt_cmpR (op_neA hr) (qe_fnS g_unit_of hr (by omega) rfl (qc (qe_fnS g_scaled hr (by omega) rfl (qc (qv 4) (qc (qe_tup (qc (qe_callBS call_absV rfl T.n_abs bt_abs (qc (qe_ix ix_tup (qv 8) qe_int (fun _ _ => rfl)) qa_nil)) (qc (qe_ix ix_tup (qv 8) qe_int (fun _ _ => rfl)) qa_nil))) qa_nil))) qa_nil)) (qe_fnS g_unit_of hr (by omega) rfl (qc (qv 4) qa_nil)) (nomark _))))) (qb_one (qs_ret qe_bl)) qb_nil)
  (qb_one (qs_if (qt_not (qt_val (qe_fnS g_refusals_right hr (by omega) rfl (qc (qe_fnS g_take hr (by omega) rfl (qc (qv 3) (qc qe_int qa_nil))) qa_nil)) (by intro _; rfl))) (qb_one (qs_ret qe_bl)) qb_nil))))))))))
  (qb_one (qs_ret qe_bl)))), ?_⟩
    refine ⟨_, rfl, a, ns, 6, rfl, hS, hl, by decide, by decide, fun c cs H1 hc s1 h1 l2 l6 => ?_⟩
    have hn : (((cs.map V.int).length : Int)).toNat ≤ 6 := by rw [List.length_map]; omega
    refine ⟨_, rfl, c, _, rfl, .inl (SqL.of h1), _, rfl, ?_, ?_, ?_⟩
    · rw [List.length_map]; omega
    · rw [List.length_map]; omega
    refine for_range (lo := 0) (n := ((cs.map V.int).length : Int).toNat) (fun i σ H2 => ∃ v2 v3 v4 v5 v6 v7 v8 v9 : Option V, σ = [some (.ref a), some (.ref c), v2, v3, v4, v5, v6, v7, v8, v9] ∧ Same H1 H2) ⟨_, _, _, _, _, _, _, _, rfl, Same.refl _⟩ ?_ (fun σ H2 _ => q H2)
    · rintro i σ H2 hi ⟨v2, v3, v4, v5, v6, v7, v8, v9, rfl, s2⟩
      refine ⟨_, rfl, _, rfl, c, cs, _, rfl, SqL.of (s2 _ _ h1), by omega, by omega, fun p H3 hp s3 b3 => ?_⟩
      have hp1 : H1 p = none := s2.free hp
      refine ⟨_, rfl, p, 0, rfl, b3, by decide, fun uv ux uy H4 e4 b4 V1 => ?_⟩
      refine ⟨_, rfl, p, 6, rfl, b4.mono (by decide), by decide, fun t1 n1 d1 H5 hn1 e5 b5 f1 m1 => ?_⟩
      refine ⟨_, rfl, p, 11, rfl, b5.mono (by decide), by decide, fun t2 n2 d2 Z0 hn2 e6 bx f2 m2 => ?_⟩
      refine ⟨_, _, _, rfl, ?_⟩
      have x5 := ext_tup e5 b4
      have x6 := ext_tup e6 b5
      have sB : Same H1 Z0 := Ext.same (s2.trans s3) hp1 ((e4.trans e5).trans e6)
      obtain ⟨ua, wx, wy, rfl, f_ua, Fux, Fuy⟩ := V1
      replace f_ua := x6 _ _ (x5 _ _ f_ua)
      replace Fux := (Fux.monoT x5).monoT x6
      replace Fuy := (Fuy.monoT x5).monoT x6
      have f_t1 := x6 _ _ f1
      have by_ := Fc.of f_t1 m1
      have more := Fc.of f2 m2
      replace bx : Box Z0 p 16 := bx.mono (by decide)
      refine ⟨_, rfl, ua, _, _, _, rfl, rfl, SqT.of f_ua, at0, _, rfl, _, _, _, _, 14, 14, rfl, Fux, by_, by decide, fun v_vx Z1 hs1 vx => ?_⟩
      replace Fux := Fux.mono hs1
      replace Fuy := Fuy.mono hs1
      replace by_ := by_.mono hs1
      replace more := more.mono hs1
      replace f_ua := hs1 _ _ f_ua
      replace f_t1 := hs1 _ _ f_t1
      replace sB := sB.trans hs1
      replace bx := bx.same hs1
      refine ⟨_, rfl, ua, _, _, _, rfl, rfl, SqT.of f_ua, at1, _, rfl, _, _, _, _, 14, 14, rfl, Fuy, by_, by decide, fun v_vy Z2 hs2 vy => ?_⟩
      replace Fux := Fux.mono hs2
      replace Fuy := Fuy.mono hs2
      replace by_ := by_.mono hs2
      replace more := more.mono hs2
      replace vx := vx.mono hs2
      replace f_ua := hs2 _ _ f_ua
      replace f_t1 := hs2 _ _ f_t1
      replace sB := sB.trans hs2
      replace bx := bx.same hs2
      refine ⟨(by show 2 ≤ sizeLine; decide), fun va n_va => ?_⟩
      have hs3 := Same.upd (o := .tup [v_vx, v_vy]) n_va
      have f_va := upd_same (H := Z2) (a := va) (o := .tup [v_vx, v_vy])
      generalize eq3 : upd Z2 va (.tup [v_vx, v_vy]) = Z3 at hs3 f_va ⊢
      replace Fux := Fux.mono hs3
      replace Fuy := Fuy.mono hs3
      replace by_ := by_.mono hs3
      replace more := more.mono hs3
      replace vx := vx.mono hs3
      replace vy := vy.mono hs3
      replace f_ua := hs3 _ _ f_ua
      replace f_t1 := hs3 _ _ f_t1
      replace sB := sB.trans hs3
      replace bx := bx.same hs3
      refine ⟨_, rfl, va, _, _, _, rfl, rfl, SqT.of f_va, at0, _, rfl, p, 65, 16, rfl, bx.mono (by decide), by decide, by decide, by decide, fun r Z4 r0 r1 e65 b65 => ?_⟩
      have x65 := ext_tup e65 bx
      replace Fux := Fux.monoT x65
      replace Fuy := Fuy.monoT x65
      replace by_ := by_.monoT x65
      replace more := more.monoT x65
      replace vx := vx.monoT x65
      replace vy := vy.monoT x65
      replace f_ua := x65 _ _ f_ua
      replace f_t1 := x65 _ _ f_t1
      replace f_va := x65 _ _ f_va
      replace sB := Ext.same sB hp1 e65
      replace bx := b65
      refine ⟨_, _, rfl, rfl, (by show 2 ≤ sizeLine; decide), fun w1 n_w1 => ?_⟩
      have hs5 := Same.upd (o := .tup [.int 1, .int (1 + r)]) n_w1
      have f_w1 := upd_same (H := Z4) (a := w1) (o := .tup [.int 1, .int (1 + r)])
      generalize eq5 : upd Z4 w1 (.tup [.int 1, .int (1 + r)]) = Z5 at hs5 f_w1 ⊢
      replace Fux := Fux.mono hs5
      replace Fuy := Fuy.mono hs5
      replace by_ := by_.mono hs5
      replace more := more.mono hs5
      replace vx := vx.mono hs5
      replace vy := vy.mono hs5
      replace f_ua := hs5 _ _ f_ua
      replace f_t1 := hs5 _ _ f_t1
      replace f_va := hs5 _ _ f_va
      replace sB := sB.trans hs5
      replace bx := bx.same hs5
      have one_r : Fc Z5 (.ref w1) (1, 1 + r) 14 := ⟨⟨w1, rfl, f_w1⟩, ⟨by show (1 : Int) ≤ 1 + r; omega, by show Nat.gcd (1 : Int).natAbs _ = 1; exact Nat.gcd_one_left _⟩, show (1 : Int).natAbs < 2 ^ 14 by decide, by show (1 + r).natAbs < 2 ^ 14; omega⟩
      refine ⟨_, _, _, _, 29, 14, rfl, vx, one_r, by decide, fun v_bex Z6 hs6 bex => ?_⟩
      replace Fux := Fux.mono hs6
      replace Fuy := Fuy.mono hs6
      replace by_ := by_.mono hs6
      replace more := more.mono hs6
      replace vx := vx.mono hs6
      replace vy := vy.mono hs6
      replace one_r := one_r.mono hs6
      replace f_ua := hs6 _ _ f_ua
      replace f_t1 := hs6 _ _ f_t1
      replace f_va := hs6 _ _ f_va
      replace f_w1 := hs6 _ _ f_w1
      replace sB := sB.trans hs6
      replace bx := bx.same hs6
      refine ⟨_, rfl, va, _, _, _, rfl, rfl, SqT.of f_va, at1, (by show 2 ≤ sizeLine; decide), fun ba n_ba => ?_⟩
      have hs7 := Same.upd (o := .tup [v_bex, v_vy]) n_ba
      have f_ba := upd_same (H := Z6) (a := ba) (o := .tup [v_bex, v_vy])
      generalize eq7 : upd Z6 ba (.tup [v_bex, v_vy]) = Z7 at hs7 f_ba ⊢
      replace Fux := Fux.mono hs7
      replace Fuy := Fuy.mono hs7
      replace by_ := by_.mono hs7
      replace more := more.mono hs7
      replace vx := vx.mono hs7
      replace vy := vy.mono hs7
      replace one_r := one_r.mono hs7
      replace bex := bex.mono hs7
      replace f_ua := hs7 _ _ f_ua
      replace f_t1 := hs7 _ _ f_t1
      replace f_va := hs7 _ _ f_va
      replace f_w1 := hs7 _ _ f_w1
      replace sB := sB.trans hs7
      replace bx := bx.same hs7
      refine ⟨_, rfl, _, rfl, _, rfl, _, rfl, va, _, _, _, rfl, rfl, SqT.of f_va, at1, _, rfl, ba, _, _, _, rfl, rfl, SqT.of f_ba, at0, (by show 2 ≤ sizeLine; decide), fun q4 n_q4 => ?_⟩
      have hs8 := Same.upd (o := .tup [v_vy, v_bex]) n_q4
      have f_q4 := upd_same (H := Z7) (a := q4) (o := .tup [v_vy, v_bex])
      generalize eq8 : upd Z7 q4 (.tup [v_vy, v_bex]) = Z8 at hs8 f_q4 ⊢
      replace Fux := Fux.mono hs8
      replace Fuy := Fuy.mono hs8
      replace by_ := by_.mono hs8
      replace more := more.mono hs8
      replace vx := vx.mono hs8
      replace vy := vy.mono hs8
      replace one_r := one_r.mono hs8
      replace bex := bex.mono hs8
      replace f_ua := hs8 _ _ f_ua
      replace f_t1 := hs8 _ _ f_t1
      replace f_va := hs8 _ _ f_va
      replace f_w1 := hs8 _ _ f_w1
      replace f_ba := hs8 _ _ f_ba
      replace sB := sB.trans hs8
      replace bx := bx.same hs8
      refine ⟨_, rfl, _, rfl, (by show 2 ≤ sizeLine; decide), fun q5 n_q5 => ?_⟩
      have hs9 := Same.upd (o := .tup [.ref t1, .ref t2]) n_q5
      have f_q5 := upd_same (H := Z8) (a := q5) (o := .tup [.ref t1, .ref t2])
      generalize eq9 : upd Z8 q5 (.tup [.ref t1, .ref t2]) = Z9 at hs9 f_q5 ⊢
      replace Fux := Fux.mono hs9
      replace Fuy := Fuy.mono hs9
      replace by_ := by_.mono hs9
      replace more := more.mono hs9
      replace vx := vx.mono hs9
      replace vy := vy.mono hs9
      replace one_r := one_r.mono hs9
      replace bex := bex.mono hs9
      replace f_ua := hs9 _ _ f_ua
      replace f_t1 := hs9 _ _ f_t1
      replace f_va := hs9 _ _ f_va
      replace f_w1 := hs9 _ _ f_w1
      replace f_ba := hs9 _ _ f_ba
      replace f_q4 := hs9 _ _ f_q4
      replace sB := sB.trans hs9
      replace bx := bx.same hs9
      refine ⟨_, rfl, (by show 2 ≤ sizeLine; decide), fun z1 n_z1 => ?_⟩
      have hs10 := Same.upd (o := .tup [.int 0, .int 1]) n_z1
      have f_z1 := upd_same (H := Z9) (a := z1) (o := .tup [.int 0, .int 1])
      generalize eq10 : upd Z9 z1 (.tup [.int 0, .int 1]) = Z10 at hs10 f_z1 ⊢
      replace Fux := Fux.mono hs10
      replace Fuy := Fuy.mono hs10
      replace by_ := by_.mono hs10
      replace more := more.mono hs10
      replace vx := vx.mono hs10
      replace vy := vy.mono hs10
      replace one_r := one_r.mono hs10
      replace bex := bex.mono hs10
      replace f_ua := hs10 _ _ f_ua
      replace f_t1 := hs10 _ _ f_t1
      replace f_va := hs10 _ _ f_va
      replace f_w1 := hs10 _ _ f_w1
      replace f_ba := hs10 _ _ f_ba
      replace f_q4 := hs10 _ _ f_q4
      replace f_q5 := hs10 _ _ f_q5
      replace sB := sB.trans hs10
      replace bx := bx.same hs10
      have O1 : Fc Z10 (.ref z1) (0, 1) 14 := ⟨⟨z1, rfl, f_z1⟩, nrm_int 0, show (0 : Int).natAbs < 2 ^ 14 by decide, show (1 : Int).natAbs < 2 ^ 14 by decide⟩
      refine ⟨(by show 2 ≤ sizeLine; decide), fun q6 n_q6 => ?_⟩
      have hs11 := Same.upd (o := .tup [.ref t1, .ref z1]) n_q6
      have f_q6 := upd_same (H := Z10) (a := q6) (o := .tup [.ref t1, .ref z1])
      generalize eq11 : upd Z10 q6 (.tup [.ref t1, .ref z1]) = Z11 at hs11 f_q6 ⊢
      replace Fux := Fux.mono hs11
      replace Fuy := Fuy.mono hs11
      replace by_ := by_.mono hs11
      replace more := more.mono hs11
      replace vx := vx.mono hs11
      replace vy := vy.mono hs11
      replace one_r := one_r.mono hs11
      replace bex := bex.mono hs11
      replace O1 := O1.mono hs11
      replace f_ua := hs11 _ _ f_ua
      replace f_t1 := hs11 _ _ f_t1
      replace f_va := hs11 _ _ f_va
      replace f_w1 := hs11 _ _ f_w1
      replace f_ba := hs11 _ _ f_ba
      replace f_q4 := hs11 _ _ f_q4
      replace f_q5 := hs11 _ _ f_q5
      replace f_z1 := hs11 _ _ f_z1
      replace sB := sB.trans hs11
      replace bx := bx.same hs11
      refine ⟨(by show 2 ≤ sizeLine; decide), fun z2 n_z2 => ?_⟩
      have hs12 := Same.upd (o := .tup [.int 0, .int 1]) n_z2
      have f_z2 := upd_same (H := Z11) (a := z2) (o := .tup [.int 0, .int 1])
      generalize eq12 : upd Z11 z2 (.tup [.int 0, .int 1]) = Z12 at hs12 f_z2 ⊢
      replace Fux := Fux.mono hs12
      replace Fuy := Fuy.mono hs12
      replace by_ := by_.mono hs12
      replace more := more.mono hs12
      replace vx := vx.mono hs12
      replace vy := vy.mono hs12
      replace one_r := one_r.mono hs12
      replace bex := bex.mono hs12
      replace O1 := O1.mono hs12
      replace f_ua := hs12 _ _ f_ua
      replace f_t1 := hs12 _ _ f_t1
      replace f_va := hs12 _ _ f_va
      replace f_w1 := hs12 _ _ f_w1
      replace f_ba := hs12 _ _ f_ba
      replace f_q4 := hs12 _ _ f_q4
      replace f_q5 := hs12 _ _ f_q5
      replace f_z1 := hs12 _ _ f_z1
      replace f_q6 := hs12 _ _ f_q6
      replace sB := sB.trans hs12
      replace bx := bx.same hs12
      have O2 : Fc Z12 (.ref z2) (0, 1) 14 := ⟨⟨z2, rfl, f_z2⟩, nrm_int 0, show (0 : Int).natAbs < 2 ^ 14 by decide, show (1 : Int).natAbs < 2 ^ 14 by decide⟩
      refine ⟨_, rfl, (by show 2 ≤ sizeLine; decide), fun q7 n_q7 => ?_⟩
      have hs13 := Same.upd (o := .tup [.ref z2, .ref t2]) n_q7
      have f_q7 := upd_same (H := Z12) (a := q7) (o := .tup [.ref z2, .ref t2])
      generalize eq13 : upd Z12 q7 (.tup [.ref z2, .ref t2]) = Z13 at hs13 f_q7 ⊢
      replace Fux := Fux.mono hs13
      replace Fuy := Fuy.mono hs13
      replace by_ := by_.mono hs13
      replace more := more.mono hs13
      replace vx := vx.mono hs13
      replace vy := vy.mono hs13
      replace one_r := one_r.mono hs13
      replace bex := bex.mono hs13
      replace O1 := O1.mono hs13
      replace O2 := O2.mono hs13
      replace f_ua := hs13 _ _ f_ua
      replace f_t1 := hs13 _ _ f_t1
      replace f_va := hs13 _ _ f_va
      replace f_w1 := hs13 _ _ f_w1
      replace f_ba := hs13 _ _ f_ba
      replace f_q4 := hs13 _ _ f_q4
      replace f_q5 := hs13 _ _ f_q5
      replace f_z1 := hs13 _ _ f_z1
      replace f_q6 := hs13 _ _ f_q6
      replace f_z2 := hs13 _ _ f_z2
      replace sB := sB.trans hs13
      replace bx := bx.same hs13
      refine ⟨(by show 2 ≤ sizeLine; decide), fun z3 n_z3 => ?_⟩
      have hs14 := Same.upd (o := .tup [.int 0, .int 1]) n_z3
      have f_z3 := upd_same (H := Z13) (a := z3) (o := .tup [.int 0, .int 1])
      generalize eq14 : upd Z13 z3 (.tup [.int 0, .int 1]) = Z14 at hs14 f_z3 ⊢
      replace Fux := Fux.mono hs14
      replace Fuy := Fuy.mono hs14
      replace by_ := by_.mono hs14
      replace more := more.mono hs14
      replace vx := vx.mono hs14
      replace vy := vy.mono hs14
      replace one_r := one_r.mono hs14
      replace bex := bex.mono hs14
      replace O1 := O1.mono hs14
      replace O2 := O2.mono hs14
      replace f_ua := hs14 _ _ f_ua
      replace f_t1 := hs14 _ _ f_t1
      replace f_va := hs14 _ _ f_va
      replace f_w1 := hs14 _ _ f_w1
      replace f_ba := hs14 _ _ f_ba
      replace f_q4 := hs14 _ _ f_q4
      replace f_q5 := hs14 _ _ f_q5
      replace f_z1 := hs14 _ _ f_z1
      replace f_q6 := hs14 _ _ f_q6
      replace f_z2 := hs14 _ _ f_z2
      replace f_q7 := hs14 _ _ f_q7
      replace sB := sB.trans hs14
      replace bx := bx.same hs14
      have O3 : Fc Z14 (.ref z3) (0, 1) 14 := ⟨⟨z3, rfl, f_z3⟩, nrm_int 0, show (0 : Int).natAbs < 2 ^ 14 by decide, show (1 : Int).natAbs < 2 ^ 14 by decide⟩
      refine ⟨(by show 2 ≤ sizeLine; decide), fun z4 n_z4 => ?_⟩
      have hs15 := Same.upd (o := .tup [.int 0, .int 1]) n_z4
      have f_z4 := upd_same (H := Z14) (a := z4) (o := .tup [.int 0, .int 1])
      generalize eq15 : upd Z14 z4 (.tup [.int 0, .int 1]) = Z15 at hs15 f_z4 ⊢
      replace Fux := Fux.mono hs15
      replace Fuy := Fuy.mono hs15
      replace by_ := by_.mono hs15
      replace more := more.mono hs15
      replace vx := vx.mono hs15
      replace vy := vy.mono hs15
      replace one_r := one_r.mono hs15
      replace bex := bex.mono hs15
      replace O1 := O1.mono hs15
      replace O2 := O2.mono hs15
      replace O3 := O3.mono hs15
      replace f_ua := hs15 _ _ f_ua
      replace f_t1 := hs15 _ _ f_t1
      replace f_va := hs15 _ _ f_va
      replace f_w1 := hs15 _ _ f_w1
      replace f_ba := hs15 _ _ f_ba
      replace f_q4 := hs15 _ _ f_q4
      replace f_q5 := hs15 _ _ f_q5
      replace f_z1 := hs15 _ _ f_z1
      replace f_q6 := hs15 _ _ f_q6
      replace f_z2 := hs15 _ _ f_z2
      replace f_q7 := hs15 _ _ f_q7
      replace f_z3 := hs15 _ _ f_z3
      replace sB := sB.trans hs15
      replace bx := bx.same hs15
      have O4 : Fc Z15 (.ref z4) (0, 1) 14 := ⟨⟨z4, rfl, f_z4⟩, nrm_int 0, show (0 : Int).natAbs < 2 ^ 14 by decide, show (1 : Int).natAbs < 2 ^ 14 by decide⟩
      refine ⟨(by show 2 ≤ sizeLine; decide), fun q8 n_q8 => ?_⟩
      have hs16 := Same.upd (o := .tup [.ref z3, .ref z4]) n_q8
      have f_q8 := upd_same (H := Z15) (a := q8) (o := .tup [.ref z3, .ref z4])
      generalize eq16 : upd Z15 q8 (.tup [.ref z3, .ref z4]) = Z16 at hs16 f_q8 ⊢
      replace Fux := Fux.mono hs16
      replace Fuy := Fuy.mono hs16
      replace by_ := by_.mono hs16
      replace more := more.mono hs16
      replace vx := vx.mono hs16
      replace vy := vy.mono hs16
      replace one_r := one_r.mono hs16
      replace bex := bex.mono hs16
      replace O1 := O1.mono hs16
      replace O2 := O2.mono hs16
      replace O3 := O3.mono hs16
      replace O4 := O4.mono hs16
      replace f_ua := hs16 _ _ f_ua
      replace f_t1 := hs16 _ _ f_t1
      replace f_va := hs16 _ _ f_va
      replace f_w1 := hs16 _ _ f_w1
      replace f_ba := hs16 _ _ f_ba
      replace f_q4 := hs16 _ _ f_q4
      replace f_q5 := hs16 _ _ f_q5
      replace f_z1 := hs16 _ _ f_z1
      replace f_q6 := hs16 _ _ f_q6
      replace f_z2 := hs16 _ _ f_z2
      replace f_q7 := hs16 _ _ f_q7
      replace f_z3 := hs16 _ _ f_z3
      replace f_z4 := hs16 _ _ f_z4
      replace sB := sB.trans hs16
      replace bx := bx.same hs16
      refine ⟨(by show 8 ≤ sizeLine; decide), fun l1 n_l1 => ?_⟩
      have hs17 := Same.upd (o := .lst [.ref ua, .ref va, .ref ba, .ref q4, .ref q5, .ref q6, .ref q7, .ref q8]) n_l1
      have f_l1 := upd_same (H := Z16) (a := l1) (o := .lst [.ref ua, .ref va, .ref ba, .ref q4, .ref q5, .ref q6, .ref q7, .ref q8])
      generalize eq17 : upd Z16 l1 (.lst [.ref ua, .ref va, .ref ba, .ref q4, .ref q5, .ref q6, .ref q7, .ref q8]) = Z17 at hs17 f_l1 ⊢
      replace Fux := Fux.mono hs17
      replace Fuy := Fuy.mono hs17
      replace by_ := by_.mono hs17
      replace more := more.mono hs17
      replace vx := vx.mono hs17
      replace vy := vy.mono hs17
      replace one_r := one_r.mono hs17
      replace bex := bex.mono hs17
      replace O1 := O1.mono hs17
      replace O2 := O2.mono hs17
      replace O3 := O3.mono hs17
      replace O4 := O4.mono hs17
      replace f_ua := hs17 _ _ f_ua
      replace f_t1 := hs17 _ _ f_t1
      replace f_va := hs17 _ _ f_va
      replace f_w1 := hs17 _ _ f_w1
      replace f_ba := hs17 _ _ f_ba
      replace f_q4 := hs17 _ _ f_q4
      replace f_q5 := hs17 _ _ f_q5
      replace f_z1 := hs17 _ _ f_z1
      replace f_q6 := hs17 _ _ f_q6
      replace f_z2 := hs17 _ _ f_z2
      replace f_q7 := hs17 _ _ f_q7
      replace f_z3 := hs17 _ _ f_z3
      replace f_z4 := hs17 _ _ f_z4
      replace f_q8 := hs17 _ _ f_q8
      replace sB := sB.trans hs17
      replace bx := bx.same hs17
      have al : ∀ z ∈ [V.ref ua, V.ref va, V.ref ba, V.ref q4, V.ref q5, V.ref q6, V.ref q7, V.ref q8], ∃ x y, Vc Z17 z x y 44 := by
        intro z hz
        simp only [List.mem_cons, List.not_mem_nil, or_false] at hz
        rcases hz with rfl | rfl | rfl | rfl | rfl | rfl | rfl | rfl
        · exact ⟨_, _, ua, _, _, rfl, f_ua, Fux.up (by decide), Fuy.up (by decide)⟩
        · exact ⟨_, _, va, _, _, rfl, f_va, vx.up (by decide), vy.up (by decide)⟩
        · exact ⟨_, _, ba, _, _, rfl, f_ba, bex.up (by decide), vy.up (by decide)⟩
        · exact ⟨_, _, q4, _, _, rfl, f_q4, vy.up (by decide), bex.up (by decide)⟩
        · exact ⟨_, _, q5, _, _, rfl, f_q5, by_.up (by decide), more.up (by decide)⟩
        · exact ⟨_, _, q6, _, _, rfl, f_q6, by_.up (by decide), O1.up (by decide)⟩
        · exact ⟨_, _, q7, _, _, rfl, f_q7, O2.up (by decide), more.up (by decide)⟩
        · exact ⟨_, _, q8, _, _, rfl, f_q8, O3.up (by decide), O4.up (by decide)⟩
      refine ⟨_, rfl, _, rfl, l1, l1, _, _, rfl, rfl, f_l1, f_l1, (by show 16 ≤ sizeLine; decide), fun l2 n_l2 => ?_⟩
      have al0 := al
      have hs18 := Same.upd (o := .lst ([.ref ua, .ref va, .ref ba, .ref q4, .ref q5, .ref q6, .ref q7, .ref q8] ++ [.ref ua, .ref va, .ref ba, .ref q4, .ref q5, .ref q6, .ref q7, .ref q8])) n_l2
      have f_l2 := upd_same (H := Z17) (a := l2) (o := .lst ([.ref ua, .ref va, .ref ba, .ref q4, .ref q5, .ref q6, .ref q7, .ref q8] ++ [.ref ua, .ref va, .ref ba, .ref q4, .ref q5, .ref q6, .ref q7, .ref q8]))
      generalize eq18 : upd Z17 l2 (.lst ([.ref ua, .ref va, .ref ba, .ref q4, .ref q5, .ref q6, .ref q7, .ref q8] ++ [.ref ua, .ref va, .ref ba, .ref q4, .ref q5, .ref q6, .ref q7, .ref q8])) = Z18 at hs18 f_l2 ⊢
      replace Fux := Fux.mono hs18
      replace Fuy := Fuy.mono hs18
      replace by_ := by_.mono hs18
      replace more := more.mono hs18
      replace vx := vx.mono hs18
      replace vy := vy.mono hs18
      replace one_r := one_r.mono hs18
      replace bex := bex.mono hs18
      replace O1 := O1.mono hs18
      replace O2 := O2.mono hs18
      replace O3 := O3.mono hs18
      replace O4 := O4.mono hs18
      replace f_ua := hs18 _ _ f_ua
      replace f_t1 := hs18 _ _ f_t1
      replace f_va := hs18 _ _ f_va
      replace f_w1 := hs18 _ _ f_w1
      replace f_ba := hs18 _ _ f_ba
      replace f_q4 := hs18 _ _ f_q4
      replace f_q5 := hs18 _ _ f_q5
      replace f_z1 := hs18 _ _ f_z1
      replace f_q6 := hs18 _ _ f_q6
      replace f_z2 := hs18 _ _ f_z2
      replace f_q7 := hs18 _ _ f_q7
      replace f_z3 := hs18 _ _ f_z3
      replace f_z4 := hs18 _ _ f_z4
      replace f_q8 := hs18 _ _ f_q8
      replace f_l1 := hs18 _ _ f_l1
      replace sB := sB.trans hs18
      replace bx := bx.same hs18
      replace f_l2 : Z18 l2 = some (.lst [.ref ua, .ref va, .ref ba, .ref q4, .ref q5, .ref q6, .ref q7, .ref q8, .ref ua, .ref va, .ref ba, .ref q4, .ref q5, .ref q6, .ref q7, .ref q8]) := f_l2
      replace al : ∀ z ∈ [V.ref ua, V.ref va, V.ref ba, V.ref q4, V.ref q5, V.ref q6, V.ref q7, V.ref q8, V.ref ua, V.ref va, V.ref ba, V.ref q4, V.ref q5, V.ref q6, V.ref q7, V.ref q8], ∃ x y, Vc Z18 z x y 44 := fun z hz => by
        have hz2 : z ∈ [V.ref ua, V.ref va, V.ref ba, V.ref q4, V.ref q5, V.ref q6, V.ref q7, V.ref q8] := by
          simp only [List.mem_cons, List.not_mem_nil, or_false] at hz ⊢
          rcases hz with h | h | h | h | h | h | h | h | h | h | h | h | h | h | h | h <;> simp [h]
        obtain ⟨x, y, k⟩ := al0 z hz2
        exact ⟨x, y, k.mono hs18⟩
      refine ⟨l2, rfl, ⟨_, SqL.of f_l2⟩, fun D hD => ?_⟩
      refine comp_list (a := l2) (xs := [.ref ua, .ref va, .ref ba, .ref q4, .ref q5, .ref q6, .ref q7, .ref q8, .ref ua, .ref va, .ref ba, .ref q4, .ref q5, .ref q6, .ref q7, .ref q8]) (D := D) (fun i σ' H' => ∃ (v : Option V) (ys : List V), σ' = [v] ∧ H' D = some (.lst ys) ∧ ys.length = i ∧ (∀ z ∈ ys, z = .bl true) ∧ Same Z18 H')
        ⟨none, [], rfl, upd_same, rfl, fun z hz => absurd hz (by simp), Same.upd hD⟩ (fun i σ' H' _ ⟨v, ys, _, _, _, _, s'⟩ => SqL.of (s' _ _ f_l2)) ?_ ?_
      · rintro j x σ' H' hx ⟨v, ys, rfl, hD', hyl, hys, s'⟩
        have hj : j < 16 := by
          rcases Nat.lt_or_ge j 16 with h | h
          · exact h
          · rw [List.getElem?_eq_none (by simpa using h)] at hx; cases hx
        obtain ⟨x1, y1, k⟩ := al x (List.mem_of_getElem? hx)
        refine ⟨_, rfl, _, x1, y1, 44, rfl, k.mono s', by decide, fun H6 t6 => ?_⟩
        have hD6 := t6 _ _ hD'
        refine ⟨ys, hD6, by rw [hyl]; exact small1000 (by omega), _, ?_, rfl, hj, _, ys ++ [.bl true], rfl, upd_same, by rw [List.length_append, hyl]; rfl, fun z hz => ?_, same_updL (fun b o h => t6 _ _ (s' b o h)) hD⟩
        · show 16 - (j + 1) < 16 - j
          omega
        · rcases List.mem_append.mp hz with h | h
          · exact hys z h
          · exact List.mem_singleton.mp h
      rintro σ' Z19 ⟨v, ys, rfl, f_D, hyl, hys, hs19⟩
      replace Fux := Fux.mono hs19
      replace Fuy := Fuy.mono hs19
      replace by_ := by_.mono hs19
      replace more := more.mono hs19
      replace vx := vx.mono hs19
      replace vy := vy.mono hs19
      replace one_r := one_r.mono hs19
      replace bex := bex.mono hs19
      replace O1 := O1.mono hs19
      replace O2 := O2.mono hs19
      replace O3 := O3.mono hs19
      replace O4 := O4.mono hs19
      replace f_ua := hs19 _ _ f_ua
      replace f_t1 := hs19 _ _ f_t1
      replace f_va := hs19 _ _ f_va
      replace f_w1 := hs19 _ _ f_w1
      replace f_ba := hs19 _ _ f_ba
      replace f_q4 := hs19 _ _ f_q4
      replace f_q5 := hs19 _ _ f_q5
      replace f_z1 := hs19 _ _ f_z1
      replace f_q6 := hs19 _ _ f_q6
      replace f_z2 := hs19 _ _ f_z2
      replace f_q7 := hs19 _ _ f_q7
      replace f_z3 := hs19 _ _ f_z3
      replace f_z4 := hs19 _ _ f_z4
      replace f_q8 := hs19 _ _ f_q8
      replace f_l1 := hs19 _ _ f_l1
      replace f_l2 := hs19 _ _ f_l2
      replace sB := sB.trans hs19
      replace bx := bx.same hs19
      have hy : ys = (List.replicate ys.length true).map V.bl := by rw [List.map_replicate]; exact List.eq_replicate_iff.mpr ⟨rfl, hys⟩
      have hall : (List.replicate ys.length true).all id = true := by simp
      refine ⟨D, List.replicate ys.length true, rfl, SqL.of (by rw [← hy]; exact f_D), ?_⟩
      rw [hall]
      refine ⟨_, rfl, iteF ?_⟩
      have vecV : Vc Z19 (.ref va) (fmul ux (n1, d1)) (fmul uy (n1, d1)) 29 := ⟨va, _, _, rfl, f_va, vx, vy⟩
      apply join (R := fun HX => Same Z19 HX)
      case h =>
        intro J
        refine ⟨_, rfl, t1, _, _, _, rfl, rfl, SqT.of f_t1, at0, rfl, _, rfl, ?_⟩
        by_cases hz : n1 = 0
        · rw [decide_eq_true (show V.int n1 = V.int 0 by rw [hz])]
          refine iteF ?_
          generalize hW : Z19 = HW
          exact J _ (by rw [hW]; exact Same.refl _)
        · rw [decide_eq_false (show ¬ V.int n1 = V.int 0 from fun z => hz (V.int.inj z))]
          refine iteT ?_
          refine ⟨_, rfl, _, rfl, t1, _, _, _, rfl, rfl, SqT.of f_t1, at0, n1, rfl, _, rfl, t1, _, _, _, rfl, rfl, SqT.of f_t1, at1, (by show 2 ≤ sizeLine; decide), fun w9 n9 => ?_⟩
          have t9 := Same.upd (o := .tup [.int ((n1.natAbs : Nat) : Int), .int d1]) n9
          have f9 := upd_same (H := Z19) (a := w9) (o := .tup [.int ((n1.natAbs : Nat) : Int), .int d1])
          generalize upd Z19 w9 (.tup [.int ((n1.natAbs : Nat) : Int), .int d1]) = Y1 at t9 f9 ⊢
          have on := by_.nr
          have ab : Fc Y1 (.ref w9) (((n1.natAbs : Nat) : Int), d1) 14 := by
            refine ⟨⟨w9, rfl, f9⟩, ⟨on.d, ?_⟩, ?_, by_.bd⟩
            · show Nat.gcd (((n1.natAbs : Nat) : Int)).natAbs d1.natAbs = 1
              rw [Int.natAbs_natCast]; exact on.g
            · show (((n1.natAbs : Nat) : Int)).natAbs < 2 ^ 14
              rw [Int.natAbs_natCast]; exact by_.bn
          refine ⟨_, _, _, _, _, 29, 14, rfl, vecV.mono t9, ab, by decide, fun sv Y2 ty2 Vs => ?_⟩
          refine ⟨_, _, _, 44, rfl, Vs, by decide, fun uv Y3 ty3 U1 => ?_⟩
          have vec3 := ((vecV.mono t9).mono ty2).mono ty3
          refine ⟨_, rfl, _, _, _, 29, rfl, vec3, by decide, fun uw Y4 ty4 U2 => ?_⟩
          have un := unit_scale (c := (((n1.natAbs : Nat) : Int), d1)) vx.nr vy.nr ab.nr (by show (0 : Int) < ((n1.natAbs : Nat) : Int); omega) (U1.mono ty4) U2
          refine ⟨un, _, rfl, iteF ?_⟩
          exact J _ (((t9.trans ty2).trans ty3).trans ty4)
      rintro Z20 hs20
      replace sB := sB.trans hs20
      replace bx := bx.same hs20
      refine ⟨_, rfl, p, 60, 17, rfl, bx.mono (by decide), by decide, by decide, by decide, fun rr ZR q0 q1 eR bR => ?_⟩
      refine ⟨rr, rfl, q0, q1, fun ZS tS => ⟨_, rfl, iteF ?_⟩⟩
      exact ⟨_, _, _, _, _, _, _, _, rfl, (Ext.same sB hp1 eR).trans tS⟩
end
end My

set_option Elab.async false
set_option linter.all false
set_option maxRecDepth 100000
set_option maxHeartbeats 4000000
namespace My
open PySem L2 PyProof.Rows
theorem all_mk {l : PySem.W.OpenLaw} {w : World} {K : PySem.W.Frag} {h : Heap} {mg : Str → Option Value} {fa f0 f1 f2 f3 f4 f5 f6 f7 f8 f9 f10 f11 f12 f13 f14 f15 f16 f17 f18 f19 f20 f21 f22 f23 f24 : Addr} (X : K.In h) (G : h.Ns mainGlobals mg) (hfa : mg "law" = some (.ref fa))
    {od0 an0 od1 an1 od2 an2 od3 an3 od4 an4 od5 an5 od6 an6 od7 an7 od8 an8 od9 an9 od10 an10 od11 an11 od12 an12 od13 an13 od14 an14 od15 an15 od16 an16 od17 an17 od18 an18 od19 an19 od20 an20 od21 an21 od22 an22 od23 an23 od24 an24 : Option Addr} {sl0 sl1 sl2 sl3 sl4 sl5 sl6 sl7 sl8 sl9 sl10 sl11 sl12 sl13 sl14 sl15 sl16 sl17 sl18 sl19 sl20 sl21 sl22 sl23 sl24 : Array (Option Value)} {oc0 kV0 dc0 pm0 cd0 ct0 oc1 kV1 dc1 pm1 cd1 ct1 oc2 kV2 dc2 pm2 cd2 ct2 oc3 kV3 dc3 pm3 cd3 ct3 oc4 kV4 dc4 pm4 cd4 ct4 oc5 kV5 dc5 pm5 cd5 ct5 oc6 kV6 dc6 pm6 cd6 ct6 oc7 kV7 dc7 pm7 cd7 ct7 oc8 kV8 dc8 pm8 cd8 ct8 oc9 kV9 dc9 pm9 cd9 ct9 oc10 kV10 dc10 pm10 cd10 ct10 oc11 kV11 dc11 pm11 cd11 ct11 oc12 kV12 dc12 pm12 cd12 ct12 oc13 kV13 dc13 pm13 cd13 ct13 oc14 kV14 dc14 pm14 cd14 ct14 oc15 kV15 dc15 pm15 cd15 ct15 oc16 kV16 dc16 pm16 cd16 ct16 oc17 kV17 dc17 pm17 cd17 ct17 oc18 kV18 dc18 pm18 cd18 ct18 oc19 kV19 dc19 pm19 cd19 ct19 oc20 kV20 dc20 pm20 cd20 ct20 oc21 kV21 dc21 pm21 cd21 ct21 oc22 kV22 dc22 pm22 cd22 ct22 oc23 kV23 dc23 pm23 cd23 ct23 oc24 kV24 dc24 pm24 cd24 ct24 : Value}
    (a0 : PySem.W.nsIn K mainGlobals "_law_take" = some (some (.ref f0))) (l0 : K.lookup f0 = some ⟨oc0, od0, .func (PySem.W.fnOf "_law_take" "_law_take" (defArgs s_take) (defBody s_take) (defScope s_take) .none kV0 dc0 pm0 an0 cd0 ct0), sl0⟩) (c0 : PySem.W.codeIn K cd0 "_law_take" = true) (k0 : PySem.W.keepIn K (.ref f0) = true)
    (a1 : PySem.W.nsIn K mainGlobals "_law_box_of" = some (some (.ref f1))) (l1 : K.lookup f1 = some ⟨oc1, od1, .func (PySem.W.fnOf "_law_box_of" "_law_box_of" (defArgs s_box_of) (defBody s_box_of) (defScope s_box_of) .none kV1 dc1 pm1 an1 cd1 ct1), sl1⟩) (c1 : PySem.W.codeIn K cd1 "_law_box_of" = true) (k1 : PySem.W.keepIn K (.ref f1) = true)
    (a2 : PySem.W.nsIn K mainGlobals "_law_folded" = some (some (.ref f2))) (l2 : K.lookup f2 = some ⟨oc2, od2, .func (PySem.W.fnOf "_law_folded" "_law_folded" (defArgs s_folded) (defBody s_folded) (defScope s_folded) .none kV2 dc2 pm2 an2 cd2 ct2), sl2⟩) (c2 : PySem.W.codeIn K cd2 "_law_folded" = true) (k2 : PySem.W.keepIn K (.ref f2) = true)
    (a3 : PySem.W.nsIn K mainGlobals "_law_lowest" = some (some (.ref f3))) (l3 : K.lookup f3 = some ⟨oc3, od3, .func (PySem.W.fnOf "_law_lowest" "_law_lowest" (defArgs s_lowest) (defBody s_lowest) (defScope s_lowest) .none kV3 dc3 pm3 an3 cd3 ct3), sl3⟩) (c3 : PySem.W.codeIn K cd3 "_law_lowest" = true) (k3 : PySem.W.keepIn K (.ref f3) = true)
    (a4 : PySem.W.nsIn K mainGlobals "common_divisor" = some (some (.ref f4))) (l4 : K.lookup f4 = some ⟨oc4, od4, .func (PySem.W.fnOf "common_divisor" "common_divisor" (defArgs s_common_divisor) (defBody s_common_divisor) (defScope s_common_divisor) .none kV4 dc4 pm4 an4 cd4 ct4), sl4⟩) (c4 : PySem.W.codeIn K cd4 "common_divisor" = true) (k4 : PySem.W.keepIn K (.ref f4) = true)
    (a5 : PySem.W.nsIn K mainGlobals "_law_fraction_by" = some (some (.ref f5))) (l5 : K.lookup f5 = some ⟨oc5, od5, .func (PySem.W.fnOf "_law_fraction_by" "_law_fraction_by" (defArgs s_fraction_by) (defBody s_fraction_by) (defScope s_fraction_by) .none kV5 dc5 pm5 an5 cd5 ct5), sl5⟩) (c5 : PySem.W.codeIn K cd5 "_law_fraction_by" = true) (k5 : PySem.W.keepIn K (.ref f5) = true)
    (a6 : PySem.W.nsIn K mainGlobals "fraction" = some (some (.ref f6))) (l6 : K.lookup f6 = some ⟨oc6, od6, .func (PySem.W.fnOf "fraction" "fraction" (defArgs s_fraction) (defBody s_fraction) (defScope s_fraction) .none kV6 dc6 pm6 an6 cd6 ct6), sl6⟩) (c6 : PySem.W.codeIn K cd6 "fraction" = true) (k6 : PySem.W.keepIn K (.ref f6) = true)
    (a7 : PySem.W.nsIn K mainGlobals "added" = some (some (.ref f7))) (l7 : K.lookup f7 = some ⟨oc7, od7, .func (PySem.W.fnOf "added" "added" (defArgs s_added) (defBody s_added) (defScope s_added) .none kV7 dc7 pm7 an7 cd7 ct7), sl7⟩) (c7 : PySem.W.codeIn K cd7 "added" = true) (k7 : PySem.W.keepIn K (.ref f7) = true)
    (a8 : PySem.W.nsIn K mainGlobals "times" = some (some (.ref f8))) (l8 : K.lookup f8 = some ⟨oc8, od8, .func (PySem.W.fnOf "times" "times" (defArgs s_times) (defBody s_times) (defScope s_times) .none kV8 dc8 pm8 an8 cd8 ct8), sl8⟩) (c8 : PySem.W.codeIn K cd8 "times" = true) (k8 : PySem.W.keepIn K (.ref f8) = true)
    (a9 : PySem.W.nsIn K mainGlobals "_law_sum" = some (some (.ref f9))) (l9 : K.lookup f9 = some ⟨oc9, od9, .func (PySem.W.fnOf "_law_sum" "_law_sum" (defArgs s_sum) (defBody s_sum) (defScope s_sum) .none kV9 dc9 pm9 an9 cd9 ct9), sl9⟩) (c9 : PySem.W.codeIn K cd9 "_law_sum" = true) (k9 : PySem.W.keepIn K (.ref f9) = true)
    (a10 : PySem.W.nsIn K mainGlobals "_law_product" = some (some (.ref f10))) (l10 : K.lookup f10 = some ⟨oc10, od10, .func (PySem.W.fnOf "_law_product" "_law_product" (defArgs s_product) (defBody s_product) (defScope s_product) .none kV10 dc10 pm10 an10 cd10 ct10), sl10⟩) (c10 : PySem.W.codeIn K cd10 "_law_product" = true) (k10 : PySem.W.keepIn K (.ref f10) = true)
    (a11 : PySem.W.nsIn K mainGlobals "scaled" = some (some (.ref f11))) (l11 : K.lookup f11 = some ⟨oc11, od11, .func (PySem.W.fnOf "scaled" "scaled" (defArgs s_scaled) (defBody s_scaled) (defScope s_scaled) .none kV11 dc11 pm11 an11 cd11 ct11), sl11⟩) (c11 : PySem.W.codeIn K cd11 "scaled" = true) (k11 : PySem.W.keepIn K (.ref f11) = true)
    (a12 : PySem.W.nsIn K mainGlobals "dot" = some (some (.ref f12))) (l12 : K.lookup f12 = some ⟨oc12, od12, .func (PySem.W.fnOf "dot" "dot" (defArgs s_dot) (defBody s_dot) (defScope s_dot) .none kV12 dc12 pm12 an12 cd12 ct12), sl12⟩) (c12 : PySem.W.codeIn K cd12 "dot" = true) (k12 : PySem.W.keepIn K (.ref f12) = true)
    (a13 : PySem.W.nsIn K mainGlobals "over" = some (some (.ref f13))) (l13 : K.lookup f13 = some ⟨oc13, od13, .func (PySem.W.fnOf "over" "over" (defArgs s_over) (defBody s_over) (defScope s_over) .none kV13 dc13 pm13 an13 cd13 ct13), sl13⟩) (c13 : PySem.W.codeIn K cd13 "over" = true) (k13 : PySem.W.keepIn K (.ref f13) = true)
    (a14 : PySem.W.nsIn K mainGlobals "whole_root" = some (some (.ref f14))) (l14 : K.lookup f14 = some ⟨oc14, od14, .func (PySem.W.fnOf "whole_root" "whole_root" (defArgs s_whole_root) (defBody s_whole_root) (defScope s_whole_root) .none kV14 dc14 pm14 an14 cd14 ct14), sl14⟩) (c14 : PySem.W.codeIn K cd14 "whole_root" = true) (k14 : PySem.W.keepIn K (.ref f14) = true)
    (a15 : PySem.W.nsIn K mainGlobals "root_of" = some (some (.ref f15))) (l15 : K.lookup f15 = some ⟨oc15, od15, .func (PySem.W.fnOf "root_of" "root_of" (defArgs s_root_of) (defBody s_root_of) (defScope s_root_of) .none kV15 dc15 pm15 an15 cd15 ct15), sl15⟩) (c15 : PySem.W.codeIn K cd15 "root_of" = true) (k15 : PySem.W.keepIn K (.ref f15) = true)
    (a16 : PySem.W.nsIn K mainGlobals "_law_root_of" = some (some (.ref f16))) (l16 : K.lookup f16 = some ⟨oc16, od16, .func (PySem.W.fnOf "_law_root_of" "_law_root_of" (defArgs s_lroot_of) (defBody s_lroot_of) (defScope s_lroot_of) .none kV16 dc16 pm16 an16 cd16 ct16), sl16⟩) (c16 : PySem.W.codeIn K cd16 "_law_root_of" = true) (k16 : PySem.W.keepIn K (.ref f16) = true)
    (a17 : PySem.W.nsIn K mainGlobals "length_of" = some (some (.ref f17))) (l17 : K.lookup f17 = some ⟨oc17, od17, .func (PySem.W.fnOf "length_of" "length_of" (defArgs s_length_of) (defBody s_length_of) (defScope s_length_of) .none kV17 dc17 pm17 an17 cd17 ct17), sl17⟩) (c17 : PySem.W.codeIn K cd17 "length_of" = true) (k17 : PySem.W.keepIn K (.ref f17) = true)
    (a18 : PySem.W.nsIn K mainGlobals "unit_of" = some (some (.ref f18))) (l18 : K.lookup f18 = some ⟨oc18, od18, .func (PySem.W.fnOf "unit_of" "unit_of" (defArgs s_unit_of) (defBody s_unit_of) (defScope s_unit_of) .none kV18 dc18 pm18 an18 cd18 ct18), sl18⟩) (c18 : PySem.W.codeIn K cd18 "unit_of" = true) (k18 : PySem.W.keepIn K (.ref f18) = true)
    (a19 : PySem.W.nsIn K mainGlobals "_law_length" = some (some (.ref f19))) (l19 : K.lookup f19 = some ⟨oc19, od19, .func (PySem.W.fnOf "_law_length" "_law_length" (defArgs s_length) (defBody s_length) (defScope s_length) .none kV19 dc19 pm19 an19 cd19 ct19), sl19⟩) (c19 : PySem.W.codeIn K cd19 "_law_length" = true) (k19 : PySem.W.keepIn K (.ref f19) = true)
    (a20 : PySem.W.nsIn K mainGlobals "_law_like" = some (some (.ref f20))) (l20 : K.lookup f20 = some ⟨oc20, od20, .func (PySem.W.fnOf "_law_like" "_law_like" (defArgs s_like) (defBody s_like) (defScope s_like) .none kV20 dc20 pm20 an20 cd20 ct20), sl20⟩) (c20 : PySem.W.codeIn K cd20 "_law_like" = true) (k20 : PySem.W.keepIn K (.ref f20) = true)
    (a21 : PySem.W.nsIn K mainGlobals "_law_right" = some (some (.ref f21))) (l21 : K.lookup f21 = some ⟨oc21, od21, .func (PySem.W.fnOf "_law_right" "_law_right" (defArgs s_right) (defBody s_right) (defScope s_right) .none kV21 dc21 pm21 an21 cd21 ct21), sl21⟩) (c21 : PySem.W.codeIn K cd21 "_law_right" = true) (k21 : PySem.W.keepIn K (.ref f21) = true)
    (a22 : PySem.W.nsIn K mainGlobals "_law_unit_by" = some (some (.ref f22))) (l22 : K.lookup f22 = some ⟨oc22, od22, .func (PySem.W.fnOf "_law_unit_by" "_law_unit_by" (defArgs s_unit_by) (defBody s_unit_by) (defScope s_unit_by) .none kV22 dc22 pm22 an22 cd22 ct22), sl22⟩) (c22 : PySem.W.codeIn K cd22 "_law_unit_by" = true) (k22 : PySem.W.keepIn K (.ref f22) = true)
    (a23 : PySem.W.nsIn K mainGlobals "_law_refusals_right" = some (some (.ref f23))) (l23 : K.lookup f23 = some ⟨oc23, od23, .func (PySem.W.fnOf "_law_refusals_right" "_law_refusals_right" (defArgs s_refusals_right) (defBody s_refusals_right) (defScope s_refusals_right) .none kV23 dc23 pm23 an23 cd23 ct23), sl23⟩) (c23 : PySem.W.codeIn K cd23 "_law_refusals_right" = true) (k23 : PySem.W.keepIn K (.ref f23) = true)
    (a24 : PySem.W.nsIn K mainGlobals "law" = some (some (.ref f24))) (l24 : K.lookup f24 = some ⟨oc24, od24, .func (PySem.W.fnOf "law" "law" (defArgs s_law) (defBody s_law) (defScope s_law) .none kV24 dc24 pm24 an24 cd24 ct24), sl24⟩) (c24 : PySem.W.codeIn K cd24 "law" = true) (k24 : PySem.W.keepIn K (.ref f24) = true)
    (z_isinstance : PySem.W.nsIn K mainGlobals "isinstance" = some none) (z_abs : PySem.W.nsIn K mainGlobals "abs" = some none) (z_divmod : PySem.W.nsIn K mainGlobals "divmod" = some none) (z_min : PySem.W.nsIn K mainGlobals "min" = some none) (z_all : PySem.W.nsIn K mainGlobals "all" = some none) (z_len : PySem.W.nsIn K mainGlobals "len" = some none) (z_int : PySem.W.nsIn K mainGlobals "int" = some none) (z_bool : PySem.W.nsIn K mainGlobals "bool" = some none) (z_tuple : PySem.W.nsIn K mainGlobals "tuple" = some none) (z_list : PySem.W.nsIn K mainGlobals "list" = some none) (z_str : PySem.W.nsIn K mainGlobals "str" = some none) (z_range : PySem.W.nsIn K mainGlobals "range" = some none) (z_enumerate : PySem.W.nsIn K mainGlobals "enumerate" = some none) (z_zip : PySem.W.nsIn K mainGlobals "zip" = some none)
    {C_BadNumber C_BadPath C_BadSheet C_SideError fI : Addr} {odI anI : Option Addr} {slI : Array (Option Value)} {ocI kVI dcI pmI cdI ctI : Value}
    (a_BadNumber : PySem.W.nsIn K mainGlobals "BadNumber" = some (some (.ref C_BadNumber)))
    (a_BadPath : PySem.W.nsIn K mainGlobals "BadPath" = some (some (.ref C_BadPath)))
    (a_BadSheet : PySem.W.nsIn K mainGlobals "BadSheet" = some (some (.ref C_BadSheet)))
    (a_SideError : PySem.W.nsIn K mainGlobals "SideError" = some (some (.ref C_SideError)))
    (i_S : PySem.W.findIn K (.ref C_BadSheet) "__init__" = some (some (.ref fI))) (l_I : K.lookup fI = some ⟨ocI, odI, .func (PySem.W.fnOf "__init__" "BadSheet.__init__" (defArgs s_init) (defBody s_init) (defScope s_init) .none kVI dcI pmI anI cdI ctI), slI⟩) (c_I : PySem.W.codeIn K cdI "BadSheet.__init__" = true) (k_I : PySem.W.keepIn K (.ref fI) = true)
    (x_N : xclsIn K C_BadNumber none = true) (x_P : xclsIn K C_BadPath none = true) (x_S : xclsIn K C_BadSheet (some (.ref fI)) = true) (k_N : PySem.W.keepIn K (.ref C_BadNumber) = true) (k_P : PySem.W.keepIn K (.ref C_BadPath) = true) (k_S : PySem.W.keepIn K (.ref C_BadSheet) = true)
    (t_I : PySem.W.typeIn K (.ref fI) = some (.type "function")) (n_r : PySem.W.findIn K (.ref C_BadSheet) "row" = some none) (m_r : (PySem.W.clsIn K C_BadSheet).any (fun cd => excMro cd.mro) = true) (s_i : sinIn K C_SideError = true)
    (o_BadNumber : xokIn K C_BadNumber = true) (q_BadNumber : kindsIn K C_BadNumber C_BadNumber C_BadPath C_BadSheet C_SideError true false false = true)
    (o_BadPath : xokIn K C_BadPath = true) (q_BadPath : kindsIn K C_BadPath C_BadNumber C_BadPath C_BadSheet C_SideError false true false = true)
    (o_BadSheet : xokIn K C_BadSheet = true) (q_BadSheet : kindsIn K C_BadSheet C_BadNumber C_BadPath C_BadSheet C_SideError false false true = true)
    (z_ValueError : PySem.W.nsIn K mainGlobals "ValueError" = some none) :
    ∃ fd : FuncData, (∀ (s : Shared) (v : Value), BindsTo s fd ⟨[v], []⟩ [("_law_script", v)]) ∧ ∀ base : Heap, K.In base → base.Ns mainGlobals mg → FnOk l.prog w K mg base CX0 8 fa fd ["_law_script"] (spLaw K) := by
  have e := hfa.symm.trans (PySem.W.mg_of X G a24)
  cases e
  have T : Txt mg := ⟨PySem.W.mg_none_of X G z_isinstance, PySem.W.mg_none_of X G z_abs, PySem.W.mg_none_of X G z_divmod, PySem.W.mg_none_of X G z_min, PySem.W.mg_none_of X G z_all, PySem.W.mg_none_of X G z_len, PySem.W.mg_none_of X G z_int, PySem.W.mg_none_of X G z_bool, PySem.W.mg_none_of X G z_tuple, PySem.W.mg_none_of X G z_list, PySem.W.mg_none_of X G z_str, PySem.W.mg_none_of X G z_range, PySem.W.mg_none_of X G z_enumerate, PySem.W.mg_none_of X G z_zip⟩
  have F0 := fun_mk (st := s_take) l0 c0 k0
  have b0 := F0.binds (ps := ["_law_box", "_law_many"]) fun _ _ _ _ _ _ us hl => match us, hl with | [_, _], _ => rfl
  have F1 := fun_mk (st := s_box_of) l1 c1 k1
  have b1 := F1.binds (ps := ["_law_script", "_law_k"]) fun _ _ _ _ _ _ us hl => match us, hl with | [_, _], _ => rfl
  have F2 := fun_mk (st := s_folded) l2 c2 k2
  have b2 := F2.binds (ps := ["_law_script", "_law_many"]) fun _ _ _ _ _ _ us hl => match us, hl with | [_, _], _ => rfl
  have F3 := fun_mk (st := s_lowest) l3 c3 k3
  have b3 := F3.binds (ps := ["_law_n", "_law_d"]) fun _ _ _ _ _ _ us hl => match us, hl with | [_, _], _ => rfl
  have F4 := fun_mk (st := s_common_divisor) l4 c4 k4
  have b4 := F4.binds (ps := ["one", "other"]) fun _ _ _ _ _ _ us hl => match us, hl with | [_, _], _ => rfl
  have F5 := fun_mk (st := s_fraction_by) l5 c5 k5
  have b5 := F5.binds (ps := ["_law_box"]) fun _ _ _ _ _ _ us hl => match us, hl with | [_], _ => rfl
  have F6 := fun_mk (st := s_fraction) l6 c6 k6
  have b6 := F6.binds (ps := ["n", "d"]) fun _ _ _ _ _ _ us hl => match us, hl with | [_, _], _ => rfl
  have F7 := fun_mk (st := s_added) l7 c7 k7
  have b7 := F7.binds (ps := ["one", "other"]) fun _ _ _ _ _ _ us hl => match us, hl with | [_, _], _ => rfl
  have F8 := fun_mk (st := s_times) l8 c8 k8
  have b8 := F8.binds (ps := ["one", "other"]) fun _ _ _ _ _ _ us hl => match us, hl with | [_, _], _ => rfl
  have F9 := fun_mk (st := s_sum) l9 c9 k9
  have b9 := F9.binds (ps := ["_law_p", "_law_q"]) fun _ _ _ _ _ _ us hl => match us, hl with | [_, _], _ => rfl
  have F10 := fun_mk (st := s_product) l10 c10 k10
  have b10 := F10.binds (ps := ["_law_p", "_law_q"]) fun _ _ _ _ _ _ us hl => match us, hl with | [_, _], _ => rfl
  have F11 := fun_mk (st := s_scaled) l11 c11 k11
  have b11 := F11.binds (ps := ["vector", "by"]) fun _ _ _ _ _ _ us hl => match us, hl with | [_, _], _ => rfl
  have F12 := fun_mk (st := s_dot) l12 c12 k12
  have b12 := F12.binds (ps := ["one", "other"]) fun _ _ _ _ _ _ us hl => match us, hl with | [_, _], _ => rfl
  have F13 := fun_mk (st := s_over) l13 c13 k13
  have b13 := F13.binds (ps := ["one", "other"]) fun _ _ _ _ _ _ us hl => match us, hl with | [_, _], _ => rfl
  have F14 := fun_mk (st := s_whole_root) l14 c14 k14
  have b14 := F14.binds (ps := ["square"]) fun _ _ _ _ _ _ us hl => match us, hl with | [_], _ => rfl
  have F15 := fun_mk (st := s_root_of) l15 c15 k15
  have b15 := F15.binds (ps := ["one"]) fun _ _ _ _ _ _ us hl => match us, hl with | [_], _ => rfl
  have F16 := fun_mk (st := s_lroot_of) l16 c16 k16
  have b16 := F16.binds (ps := ["_law_number"]) fun _ _ _ _ _ _ us hl => match us, hl with | [_], _ => rfl
  have F17 := fun_mk (st := s_length_of) l17 c17 k17
  have b17 := F17.binds (ps := ["vector"]) fun _ _ _ _ _ _ us hl => match us, hl with | [_], _ => rfl
  have F18 := fun_mk (st := s_unit_of) l18 c18 k18
  have b18 := F18.binds (ps := ["vector"]) fun _ _ _ _ _ _ us hl => match us, hl with | [_], _ => rfl
  have F19 := fun_mk (st := s_length) l19 c19 k19
  have b19 := F19.binds (ps := ["_law_vector"]) fun _ _ _ _ _ _ us hl => match us, hl with | [_], _ => rfl
  have F20 := fun_mk (st := s_like) l20 c20 k20
  have b20 := F20.binds (ps := ["_law_found", "_law_due"]) fun _ _ _ _ _ _ us hl => match us, hl with | [_, _], _ => rfl
  have F21 := fun_mk (st := s_right) l21 c21 k21
  have b21 := F21.binds (ps := ["_law_vector"]) fun _ _ _ _ _ _ us hl => match us, hl with | [_], _ => rfl
  have F22 := fun_mk (st := s_unit_by) l22 c22 k22
  have b22 := F22.binds (ps := ["_law_box"]) fun _ _ _ _ _ _ us hl => match us, hl with | [_], _ => rfl
  have F23 := fun_mk (st := s_refusals_right) l23 c23 k23
  have b23 := F23.binds (ps := ["_law_row"]) fun _ _ _ _ _ _ us hl => match us, hl with | [_], _ => rfl
  have F24 := fun_mk (st := s_law) l24 c24 k24
  have F_I := fun_mk (st := s_init) l_I c_I k_I
  have b_I := F_I.binds (ps := ["self", "row"]) fun _ _ _ _ _ _ us hl => match us, hl with | [_, _], _ => rfl
  have ex : Exs K C_BadNumber C_BadPath C_BadSheet C_SideError fI := ⟨x_N, x_P, x_S, k_N, k_P, k_S, t_I, n_r, m_r, sin_of s_i, kinds_of q_BadNumber o_BadNumber, kinds_of q_BadPath o_BadPath, kinds_of q_BadSheet o_BadSheet⟩
  refine ⟨PySem.W.fnOf "law" "law" (defArgs s_law) (defBody s_law) (defScope s_law) .none kV24 dc24 pm24 an24 cd24 ct24, fun s v => .of_eq rfl, fun base _ _ => ?_⟩
  have g_take : Fn l.prog w K mg base 1 "_law_take" ["_law_box", "_law_many"] spTake := ⟨⟨_, _, ok_take F0 T , PySem.W.mg_of X G a0, k0, b0⟩⟩
  have g_box_of : Fn l.prog w K mg base 1 "_law_box_of" ["_law_script", "_law_k"] (spBoxOf K) := ⟨⟨_, _, ok_box_of F1 T , PySem.W.mg_of X G a1, k1, b1⟩⟩
  have g_folded : Fn l.prog w K mg base 1 "_law_folded" ["_law_script", "_law_many"] (spFolded K) := ⟨⟨_, _, ok_folded F2 T , PySem.W.mg_of X G a2, k2, b2⟩⟩
  have g_lowest : Fn l.prog w K mg base 1 "_law_lowest" ["_law_n", "_law_d"] spLowest := ⟨⟨_, _, ok_lowest F3 T , PySem.W.mg_of X G a3, k3, b3⟩⟩
  have g_common_divisor : Fn l.prog w K mg base 1 "common_divisor" ["one", "other"] spCommon := ⟨⟨_, _, ok_common_divisor F4 T , PySem.W.mg_of X G a4, k4, b4⟩⟩
  have g_fraction_by : Fn l.prog w K mg base 2 "_law_fraction_by" ["_law_box"] spFractionBy := ⟨⟨_, _, ok_fraction_by F5 T g_take g_lowest, PySem.W.mg_of X G a5, k5, b5⟩⟩
  have g_fraction : Fn l.prog w K mg base 2 "fraction" ["n", "d"] spLowest := ⟨⟨_, _, ok_fraction F6 T g_common_divisor, PySem.W.mg_of X G a6, k6, b6⟩⟩
  have g_added : Fn l.prog w K mg base 3 "added" ["one", "other"] (spBin fadd) := ⟨⟨_, _, ok_added F7 T g_fraction, PySem.W.mg_of X G a7, k7, b7⟩⟩
  have g_times : Fn l.prog w K mg base 3 "times" ["one", "other"] (spBin fmul) := ⟨⟨_, _, ok_times F8 T g_fraction, PySem.W.mg_of X G a8, k8, b8⟩⟩
  have g_sum : Fn l.prog w K mg base 2 "_law_sum" ["_law_p", "_law_q"] (spBin fadd) := ⟨⟨_, _, ok_sum F9 T g_lowest, PySem.W.mg_of X G a9, k9, b9⟩⟩
  have g_product : Fn l.prog w K mg base 2 "_law_product" ["_law_p", "_law_q"] (spBin fmul) := ⟨⟨_, _, ok_product F10 T g_lowest, PySem.W.mg_of X G a10, k10, b10⟩⟩
  have g_scaled : Fn l.prog w K mg base 4 "scaled" ["vector", "by"] spVF := ⟨⟨_, _, ok_scaled F11 T g_times, PySem.W.mg_of X G a11, k11, b11⟩⟩
  have g_dot : Fn l.prog w K mg base 4 "dot" ["one", "other"] (spDot fdot) := ⟨⟨_, _, ok_dot F12 T g_times g_added, PySem.W.mg_of X G a12, k12, b12⟩⟩
  have g_over : Fn l.prog w K mg base 3 "over" ["one", "other"] spOver := ⟨⟨_, _, ok_over F13 T g_fraction, PySem.W.mg_of X G a13, k13, b13⟩⟩
  have g_whole_root : Fn l.prog w K mg base 1 "whole_root" ["square"] spWhole := ⟨⟨_, _, ok_whole_root F14 T , PySem.W.mg_of X G a14, k14, b14⟩⟩
  have g_root_of : Fn l.prog w K mg base 2 "root_of" ["one"] spRoot := ⟨⟨_, _, ok_root_of F15 T g_whole_root, PySem.W.mg_of X G a15, k15, b15⟩⟩
  have g_lroot_of : Fn l.prog w K mg base 1 "_law_root_of" ["_law_number"] spLRoot := ⟨⟨_, _, ok_lroot_of F16 T , PySem.W.mg_of X G a16, k16, b16⟩⟩
  have g_length_of : Fn l.prog w K mg base 5 "length_of" ["vector"] spLen := ⟨⟨_, _, ok_length_of F17 T g_dot g_root_of, PySem.W.mg_of X G a17, k17, b17⟩⟩
  have g_unit_of : Fn l.prog w K mg base 6 "unit_of" ["vector"] spUnit := ⟨⟨_, _, ok_unit_of F18 T g_length_of g_over, PySem.W.mg_of X G a18, k18, b18⟩⟩
  have g_length : Fn l.prog w K mg base 3 "_law_length" ["_law_vector"] spLen := ⟨⟨_, _, ok_length F19 T g_product g_sum g_lroot_of, PySem.W.mg_of X G a19, k19, b19⟩⟩
  have g_like : Fn l.prog w K mg base 4 "_law_like" ["_law_found", "_law_due"] (spLike 3) := ⟨⟨_, _, ok_like F20 T (PySem.W.mg_of X G a20) k20 b20 4, PySem.W.mg_of X G a20, k20, b20⟩⟩
  have g_right : Fn l.prog w K mg base 7 "_law_right" ["_law_vector"] spRight := ⟨⟨_, _, ok_right F21 T g_length g_unit_of g_length_of g_product g_dot g_scaled g_like, PySem.W.mg_of X G a21, k21, b21⟩⟩
  have g_unit_by : Fn l.prog w K mg base 2 "_law_unit_by" ["_law_box"] spUnitBy := ⟨⟨_, _, ok_unit_by F22 T g_take g_lowest, PySem.W.mg_of X G a22, k22, b22⟩⟩
  have g_refusals_right : Fn l.prog w K mg base 3 "_law_refusals_right" ["_law_row"] spRefuse := ⟨⟨_, _, ok_refusals_right F23 T ex (PySem.W.mg_of X G a_BadNumber) (PySem.W.mg_of X G a_BadPath) (PySem.W.mg_of X G a_BadSheet) (PySem.W.mg_of X G a_SideError) (PySem.W.mg_none_of X G z_ValueError) (ok_init F_I ex (PySem.W.mg_of X G a_SideError)) b_I, PySem.W.mg_of X G a23, k23, b23⟩⟩
  exact ok_law F24 T g_folded g_box_of g_take g_unit_by g_fraction_by g_product g_sum g_right g_unit_of g_scaled g_refusals_right
theorem walk {l : PySem.W.OpenLaw} {q : Program} {loose : List Str} {XP : (Str → Option Value) → Heap → Prop} {YP : World → Heap → Prop} {d : DefRec} {K : Params → PySem.W.Frag} (hn : l.most = some 63) (hdf : d.params.defaults = [])
    (hY : ∀ (w : World) (h : Heap), YP w h → (K w.params).In h)
    (F : ∀ (w : World) (mg : Str → Option Value) (fa : Addr) (h : Heap), (K w.params).In h → h.Ns mainGlobals mg → mg d.name = some (.ref fa) →
      ∃ fd : FuncData, (∀ (s : Shared) (u : Value), BindsTo s fd ⟨[u], []⟩ [("_law_script", u)]) ∧ ∀ base : Heap, (K w.params).In base → base.Ns mainGlobals mg → FnOk l.prog w (K w.params) mg base CX0 8 fa fd ["_law_script"] (spLaw (K w.params))) :
    PySem.W.WalkO q loose XP YP l.row.toRowW d [] (fun f vs => PySem.call f vs) :=
  L2.walk_of (n := 63) (k := 8) (x := "_law_script") (CX := fun _ => CX0) (sp := fun w => spLaw (K w.params)) hn (by decide) hdf ⟨rfl, by decide, by decide, rfl⟩ hY F (fun _ _ a ns hl _ hS => ⟨a, ns, rfl, hS, hl, fun _ => rfl⟩) fun _ _ _ _ _ z => z
end My
open PySem PySem.W PyProof.Rows
set_option maxRecDepth 100000 in
set_option maxHeartbeats 0 in
theorem PySem.Challenge.cw_sidecut_k05_lengths_and_units_holds : PySem.Challenge.rw_sidecut_k05_lengths_and_units.Holds := by
  w_on; o_law; k_head; (case hw => w_witness2)
  k_fill
  refine My.walk (l := PySem.Challenge.rw_sidecut_k05_lengths_and_units) rfl rfl (fun w h Y => PySem.W.kIn_of Y) ?F
  case F =>
    intro w mg fa h KX G hmg
    refine' My.all_mk KX G hmg ?a0 ?l0 ?c0 ?k0 ?a1 ?l1 ?c1 ?k1 ?a2 ?l2 ?c2 ?k2 ?a3 ?l3 ?c3 ?k3 ?a4 ?l4 ?c4 ?k4 ?a5 ?l5 ?c5 ?k5 ?a6 ?l6 ?c6 ?k6 ?a7 ?l7 ?c7 ?k7 ?a8 ?l8 ?c8 ?k8 ?a9 ?l9 ?c9 ?k9 ?a10 ?l10 ?c10 ?k10 ?a11 ?l11 ?c11 ?k11 ?a12 ?l12 ?c12 ?k12 ?a13 ?l13 ?c13 ?k13 ?a14 ?l14 ?c14 ?k14 ?a15 ?l15 ?c15 ?k15 ?a16 ?l16 ?c16 ?k16 ?a17 ?l17 ?c17 ?k17 ?a18 ?l18 ?c18 ?k18 ?a19 ?l19 ?c19 ?k19 ?a20 ?l20 ?c20 ?k20 ?a21 ?l21 ?c21 ?k21 ?a22 ?l22 ?c22 ?k22 ?a23 ?l23 ?c23 ?k23 ?a24 ?l24 ?c24 ?k24 ?z_isinstance ?z_abs ?z_divmod ?z_min ?z_all ?z_len ?z_int ?z_bool ?z_tuple ?z_list ?z_str ?z_range ?z_enumerate ?z_zip ?a_BadNumber ?a_BadPath ?a_BadSheet ?a_SideError ?i_S ?l_I ?c_I ?k_I ?x_N ?x_P ?x_S ?k_N ?k_P ?k_S ?t_I ?n_r ?m_r ?s_i ?o_BadNumber ?q_BadNumber ?o_BadPath ?q_BadPath ?o_BadSheet ?q_BadSheet ?z_ValueError
    (case a0 => k_is)
    (case l0 => k_is)
    (case c0 => k_is)
    (case k0 => k_is)
    (case a1 => k_is)
    (case l1 => k_is)
    (case c1 => k_is)
    (case k1 => k_is)
    (case a2 => k_is)
    (case l2 => k_is)
    (case c2 => k_is)
    (case k2 => k_is)
    (case a3 => k_is)
    (case l3 => k_is)
    (case c3 => k_is)
    (case k3 => k_is)
    (case a4 => k_is)
    (case l4 => k_is)
    (case c4 => k_is)
    (case k4 => k_is)
    (case a5 => k_is)
    (case l5 => k_is)
    (case c5 => k_is)
    (case k5 => k_is)
    (case a6 => k_is)
    (case l6 => k_is)
    (case c6 => k_is)
    (case k6 => k_is)
    (case a7 => k_is)
    (case l7 => k_is)
    (case c7 => k_is)
    (case k7 => k_is)
    (case a8 => k_is)
    (case l8 => k_is)
    (case c8 => k_is)
    (case k8 => k_is)
    (case a9 => k_is)
    (case l9 => k_is)
    (case c9 => k_is)
    (case k9 => k_is)
    (case a10 => k_is)
    (case l10 => k_is)
    (case c10 => k_is)
    (case k10 => k_is)
    (case a11 => k_is)
    (case l11 => k_is)
    (case c11 => k_is)
    (case k11 => k_is)
    (case a12 => k_is)
    (case l12 => k_is)
    (case c12 => k_is)
    (case k12 => k_is)
    (case a13 => k_is)
    (case l13 => k_is)
    (case c13 => k_is)
    (case k13 => k_is)
    (case a14 => k_is)
    (case l14 => k_is)
    (case c14 => k_is)
    (case k14 => k_is)
    (case a15 => k_is)
    (case l15 => k_is)
    (case c15 => k_is)
    (case k15 => k_is)
    (case a16 => k_is)
    (case l16 => k_is)
    (case c16 => k_is)
    (case k16 => k_is)
    (case a17 => k_is)
    (case l17 => k_is)
    (case c17 => k_is)
    (case k17 => k_is)
    (case a18 => k_is)
    (case l18 => k_is)
    (case c18 => k_is)
    (case k18 => k_is)
    (case a19 => k_is)
    (case l19 => k_is)
    (case c19 => k_is)
    (case k19 => k_is)
    (case a20 => k_is)
    (case l20 => k_is)
    (case c20 => k_is)
    (case k20 => k_is)
    (case a21 => k_is)
    (case l21 => k_is)
    (case c21 => k_is)
    (case k21 => k_is)
    (case a22 => k_is)
    (case l22 => k_is)
    (case c22 => k_is)
    (case k22 => k_is)
    (case a23 => k_is)
    (case l23 => k_is)
    (case c23 => k_is)
    (case k23 => k_is)
    (case a24 => k_is)
    (case l24 => k_is)
    (case c24 => k_is)
    (case k24 => k_is)
    (case z_isinstance => k_is)
    (case z_abs => k_is)
    (case z_divmod => k_is)
    (case z_min => k_is)
    (case z_all => k_is)
    (case z_len => k_is)
    (case z_int => k_is)
    (case z_bool => k_is)
    (case z_tuple => k_is)
    (case z_list => k_is)
    (case z_str => k_is)
    (case z_range => k_is)
    (case z_enumerate => k_is)
    (case z_zip => k_is)
    (case a_BadNumber => k_is)
    (case a_BadPath => k_is)
    (case a_BadSheet => k_is)
    (case a_SideError => k_is)
    (case i_S => k_is)
    (case l_I => k_is)
    (case c_I => k_is)
    (case k_I => k_is)
    (case x_N => kernel_rfl)
    (case x_P => kernel_rfl)
    (case x_S => kernel_rfl)
    (case k_N => k_is)
    (case k_P => k_is)
    (case k_S => k_is)
    (case t_I => k_is)
    (case n_r => k_is)
    (case m_r => kernel_rfl)
    (case s_i => kernel_rfl)
    (case o_BadNumber => kernel_rfl)
    (case q_BadNumber => kernel_rfl)
    (case o_BadPath => kernel_rfl)
    (case q_BadPath => kernel_rfl)
    (case o_BadSheet => kernel_rfl)
    (case q_BadSheet => kernel_rfl)
    (case z_ValueError => k_is)
#print axioms PySem.Challenge.cw_sidecut_k05_lengths_and_units_holds

