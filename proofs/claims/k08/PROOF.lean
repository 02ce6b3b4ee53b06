import PyProof.Rows.All
import Wide.All
import OpenK.AllK
import Wide.FinOn
import Lean
import PyProof.EqAt
import PyProof.EqKinds
import PyProof.TupleCall
import PyProof.NeKinds
import PyProof.ExcInit
import PySem.Challenge.RW_sidecut_k08_units_between
set_option Elab.async false
set_option linter.all false
set_option maxRecDepth 100000
namespace L2
open PySem PySem.Spec PyProof.Rows
noncomputable abbrev Key := Sum Int Str
noncomputable def keyIs : Key → Value → Bool
  | .inl k, v => Value.isInt k v
  | .inr x, v => Value.isStrOf x v
noncomputable def keyH (w : World) : Key → Int
  | .inl k => hashInt k
  | .inr x => hashStr w x
theorem keyIs_shape : ∀ {k : Key} {v : Value}, keyIs k v = true → (∃ i t, k = Sum.inl i ∧ v = Value.int i t) ∨ (∃ x t, k = Sum.inr x ∧ v = Value.str x t)
  | .inl i, v, h => by
    obtain ⟨t, e⟩ := Value.isInt_shape (k := i) (v := v) h
    exact .inl ⟨i, t, rfl, e⟩
  | .inr x, v, h => by
    obtain ⟨t, e⟩ := Value.isStrOf_shape (x := x) (v := v) h
    exact .inr ⟨x, t, rfl, e⟩
theorem key_ll (a b : Int) : decide ((Sum.inl a : Key) = Sum.inl b) = (a == b) := by
  by_cases e : a = b
  · subst e; simp
  · have h : ¬ (Sum.inl a : Key) = Sum.inl b := fun q => e (Sum.inl.inj q)
    rw [decide_eq_false h]
    exact (beq_eq_false_iff_ne.mpr e).symm
theorem key_rr (a b : Str) : decide ((Sum.inr a : Key) = Sum.inr b) = decide (a = b) := by
  by_cases e : a = b
  · subst e; simp
  · have h : ¬ (Sum.inr a : Key) = Sum.inr b := fun q => e (Sum.inr.inj q)
    rw [decide_eq_false h, decide_eq_false e]
theorem key_lr (a : Int) (b : Str) : decide ((Sum.inl a : Key) = Sum.inr b) = false := decide_eq_false (fun q => nomatch q)
theorem key_rl (a : Str) (b : Int) : decide ((Sum.inr a : Key) = Sum.inl b) = false := decide_eq_false (fun q => nomatch q)
noncomputable def mixKind (prog : Program) (w : World) : PySem.KeyKind prog w Key where
  is := keyIs
  hash := keyH w
  inj := fun v a b ha hb => by
    rcases keyIs_shape ha with ⟨i, t, rfl, rfl⟩ | ⟨x, t, rfl, rfl⟩
    · rcases keyIs_shape hb with ⟨j, u, rfl, e⟩ | ⟨y, u, rfl, e⟩
      · injection e with e1 _; rw [e1]
      · exact nomatch e
    · rcases keyIs_shape hb with ⟨j, u, rfl, e⟩ | ⟨y, u, rfl, e⟩
      · exact nomatch e
      · injection e with e1 _; rw [e1]
  byValue := fun k v h => by
    rcases keyIs_shape h with ⟨i, t, rfl, rfl⟩ | ⟨x, t, rfl, rfl⟩ <;> rfl
  pyHash := fun hv h => by
    rcases keyIs_shape hv with ⟨i, t, rfl, rfl⟩ | ⟨x, t, rfl, rfl⟩
    · exact wpAny_pyHash_int h
    · exact wpAny_pyHash_str h
  eqBool := fun hu hv h => by
    rcases keyIs_shape hu with ⟨i, t, rfl, rfl⟩ | ⟨x, t, rfl, rfl⟩
    · rcases keyIs_shape hv with ⟨j, u, rfl, rfl⟩ | ⟨y, u, rfl, rfl⟩
      · rw [key_ll] at h; exact wpAny_eqBool_int h
      · rw [key_lr] at h; exact SeqAt.EqAt.int_str i t y u _ _ _ _ h
    · rcases keyIs_shape hv with ⟨j, u, rfl, rfl⟩ | ⟨y, u, rfl, rfl⟩
      · rw [key_rl] at h; exact SeqAt.EqAt.str_int x t j u _ _ _ _ h
      · rw [key_rr] at h; exact wpAny_eqBool_str h
  «strs» := fun k x t v h => by
    rcases keyIs_shape h with ⟨i, u, rfl, e⟩ | ⟨y, u, rfl, e⟩
    · exact nomatch e
    · injection e with e1 _
      subst e1
      cases v <;> rfl
end L2
namespace L2
open PySem PySem.Spec PyProof.Rows
inductive V where
  | non | bl (b : Bool) | int (i : Int) | str (x : Str) | byt (b : Array UInt8) | flt (b : UInt64) | ref (a : Addr) | ty (n : String)
  deriving DecidableEq
noncomputable def RelV : V → Value → Prop
  | .non, u => u = Value.none
  | .bl b, u => u = Value.bool b
  | .int i, u => ∃ t, u = Value.int i t
  | .str x, u => ∃ t, u = Value.str x t
  | .byt b, u => ∃ t, u = Value.bytes b t
  | .flt b, u => ∃ t, u = Value.float b t
  | .ref a, u => u = Value.ref a
  | .ty n, u => u = Value.type n
noncomputable abbrev Vals : List V → List Value → Prop := Paired RelV
theorem Vals.length {xs : List V} {us : List Value} (r : Vals xs us) : xs.length = us.length := Paired.length r
theorem Vals.get : ∀ {xs : List V} {us : List Value} {i : Nat} {x : V}, Vals xs us → xs[i]? = some x → ∃ u, us[i]? = some u ∧ RelV x u
  | _, _, _, _, .nil, e => by simp at e
  | _, _, 0, _, .cons r _, e => by simp at e; subst e; exact ⟨_, rfl, r⟩
  | _, _, i + 1, x, .cons _ t, e => by
    obtain ⟨u, h1, h2⟩ := Vals.get (i := i) (x := x) t (by simpa using e)
    exact ⟨u, by simpa using h1, h2⟩
theorem Vals.set {x : V} {u : Value} (r : RelV x u) : ∀ {xs : List V} {us : List Value} (i : Nat), Vals xs us → Vals (xs.set i x) (us.set i u)
  | _, _, _, .nil => .nil
  | _, _, 0, .cons _ t => .cons r t
  | _, _, i + 1, .cons q t => .cons q (Vals.set r i t)
theorem Vals.append : ∀ {xs ys : List V} {us ws : List Value}, Vals xs us → Vals ys ws → Vals (xs ++ ys) (us ++ ws)
  | _, _, _, _, .nil, s => s
  | _, _, _, _, .cons r t, s => .cons r (Vals.append t s)
theorem Vals.take : ∀ {xs : List V} {us : List Value} (n : Nat), Vals xs us → Vals (xs.take n) (us.take n)
  | _, _, 0, _ => .nil
  | _, _, _ + 1, .nil => .nil
  | _, _, n + 1, .cons r t => .cons r (Vals.take n t)
theorem Vals.drop : ∀ {xs : List V} {us : List Value} (n : Nat), Vals xs us → Vals (xs.drop n) (us.drop n)
  | _, _, 0, r => r
  | _, _, _ + 1, .nil => .nil
  | _, _, n + 1, .cons _ t => Vals.drop n t
noncomputable def RelO : Option V → Option Value → Prop
  | some v, some u => RelV v u
  | none, none => True
  | _, _ => False
noncomputable def KV {κ : Type} : List (κ × V) → List (κ × Value) → Prop := Paired fun (p : κ × V) (q : κ × Value) => p.1 = q.1 ∧ RelV p.2 q.2
noncomputable def kV : Key → V
  | .inl i => .int i
  | .inr x => .str x
inductive HO where
  | lst (xs : List V)
  | tup (xs : List V)
  | dK (kvs : List (Key × V)) | dT (kvs : List (List Key × V))
  | set (S : Int → Bool) (n : Nat)
  | ins (C dx : Addr) (fs : List (Str × V))
  | own (x : Addr)
  | xd (fs : List (Str × V))
  | met (f x : Addr)
  | rng (lo hi : Int)
  | frz (o : Obj) (u : HO)
  | tbl (ps : Array Value)
  | ext (φ : Heap → Prop)
noncomputable abbrev Hp := Addr → Option HO
noncomputable def upd (H : Hp) (a : Addr) (o : HO) : Hp := fun b => if b = a then some o else H b
theorem upd_same {H : Hp} {a : Addr} {o : HO} : upd H a o a = some o := by unfold upd; rw [if_pos rfl]
theorem upd_ne {H : Hp} {a b : Addr} {o : HO} (h : b ≠ a) : upd H a o b = H b := by unfold upd; rw [if_neg h]
theorem ne_of_none {H : Hp} {a b : Addr} {o : HO} (h : H a = some o) (h' : H b = none) : a ≠ b := by
  intro e; subst e; rw [h] at h'; cases h'
section
variable (P : Program) (w : World)
noncomputable def ObjOk (H : Hp) (h : Heap) (a : Addr) : HO → Prop
  | .lst xs => xs.length ≤ sizeLine ∧ ∃ (its : List Value) (n : Nat), Vals xs its ∧ h.get? a = some { cls := .type "list", data := .seq its.toArray n }
  | .tup xs => xs.length ≤ sizeLine ∧ ∃ its : List Value, Vals xs its ∧ IsTup h a its.toArray
  | .dK kvs => kvs.length ≤ sizeLine ∧ (a == sysModules) = false ∧ ∃ vs, KV kvs vs ∧ h.DictOf (mixKind P w) a vs
  | .dT kvs => kvs.length ≤ sizeLine ∧ (a == sysModules) = false ∧ ∃ xs : List (List Key × Addr × Value),
      Paired (fun (p : List Key × V) (q : List Key × Addr × Value) => p.1 = q.1 ∧ H q.2.1 = some (.tup (p.1.map kV)) ∧ RelV p.2 q.2.2) kvs xs ∧
      ∃ o es ep, h.get? a = some o ∧ o.ExactDict ∧ o.data = .dict es ep ∧ es.toList = xs.map (entryOfKey (tupleKind (mixKind P w))) ∧ (xs.map (·.1)).Nodup
  | .set S n => h.SetOf (intKind P w) a S n
  | .ins C dx fs => H dx = some (.own a) ∧ fs.length ≤ 1000 ∧ dx ≠ a ∧ h.get? a = some (PySem.W.instObj C dx) ∧
      ∃ mA, h.Ns1 dx mA ∧ (∀ f, RelO (fs.lookup f) (mA f)) ∧ PySem.Within mA (fs.map (·.1))
  | .own _ => ∃ o, h.get? a = some o
  | .xd fs => ∃ mA, h.Ns1 a mA ∧ ∀ f, RelO (fs.lookup f) (mA f)
  | .rng lo hi => ∃ t u v, h.get? a = some { cls := .type "range", data := .fields #[.int lo t, .int hi u, .int 1 v] }
  | .frz o u => h.get? a = some o ∧ ObjOk H h a u
  | .tbl ps => h.get? a = some { cls := .none, data := .fields ps }
  | .met f x => h.get? a = some (PySem.W.methodObj (.ref f) (.ref x))
  | .ext φ => φ h ∧ (∃ o, h.get? a = some o) ∧ ∀ h1 h2 : Heap, φ h1 → (∀ o, h1.get? a = some o → h2.get? a = some o) → φ h2
noncomputable def HOk (H : Hp) (h : Heap) : Prop := ∀ a o, H a = some o → ObjOk P w H h a o
end
section
variable {P : Program} {w : World} {H H' : Hp} {h h' : Heap} {a : Addr} {o : HO}
theorem ObjOk.lt (x : ObjOk P w H h a o) : a < h.objs.size := by
  cases o with
  | lst xs => obtain ⟨_, _, _, _, e⟩ := x; exact Heap.lt_size e
  | tup xs => obtain ⟨_, _, _, p⟩ := x; exact p.lt
  | dK kvs => obtain ⟨_, _, _, _, o, _, _, e, _⟩ := x; exact Heap.lt_size e
  | dT kvs => obtain ⟨_, _, _, _, o, _, _, e, _⟩ := x; exact Heap.lt_size e
  | set S n => obtain ⟨o, _, _, _, e, _⟩ := x; exact Heap.lt_size e
  | ins C dx fs => obtain ⟨_, _, _, e, _⟩ := x; exact Heap.lt_size e
  | own y => obtain ⟨_, e⟩ := x; exact Heap.lt_size e
  | xd fs => obtain ⟨_, ⟨_, _, _, e, _⟩, _⟩ := x; exact Heap.lt_size e
  | rng lo hi => obtain ⟨_, _, _, e⟩ := x; exact Heap.lt_size e
  | frz ob u => obtain ⟨e, _⟩ := x; exact Heap.lt_size e
  | tbl ps => exact Heap.lt_size (show h.get? a = some _ from x)
  | met f y => exact Heap.lt_size (show h.get? a = some _ from x)
  | ext φ => obtain ⟨_, ⟨_, e⟩, _⟩ := x; exact Heap.lt_size e
theorem Paired.mapP {α β : Type} {F G : α → β → Prop} : ∀ {l₁ : List α} {l₂ : List β}, Paired F l₁ l₂ → (∀ a b, F a b → G a b) → Paired G l₁ l₂
  | _, _, .nil, _ => .nil
  | _, _, .cons r t, f => .cons (f _ _ r) (Paired.mapP t f)
theorem ObjOk.stay (x : ObjOk P w H h a o) (k : ∀ b u, (b = a ∨ H b = some (.own a)) → h.get? b = some u → h'.get? b = some u)
    (ho : ∀ b, H b = some (.own a) → H' b = some (.own a)) (ht : ∀ b xs, H b = some (.tup xs) → H' b = some (.tup xs)) : ObjOk P w H' h' a o := by
  induction o with
  | lst xs => obtain ⟨z, its, n, r, e⟩ := x; exact ⟨z, its, n, r, k _ _ (.inl rfl) e⟩
  | tup xs => obtain ⟨z, its, r, ob, e, c⟩ := x; exact ⟨z, its, r, ob, k _ _ (.inl rfl) e, c⟩
  | dK kvs => obtain ⟨z, y, vs, r, ob, es, ep, e, c⟩ := x; exact ⟨z, y, vs, r, ob, es, ep, k _ _ (.inl rfl) e, c⟩
  | dT kvs =>
    obtain ⟨z, y, xs, r, ob, es, ep, e, c⟩ := x
    exact ⟨z, y, xs, Paired.mapP r fun p q z => ⟨z.1, ht _ _ z.2.1, z.2.2⟩, ob, es, ep, k _ _ (.inl rfl) e, c⟩
  | set S n => obtain ⟨ob, es, ep, t, e, c⟩ := x; exact ⟨ob, es, ep, t, k _ _ (.inl rfl) e, c⟩
  | ins C dx fs =>
    obtain ⟨d, z, ne, e, mA, ⟨od, es, ep, e2, c⟩, r⟩ := x
    exact ⟨ho _ d, z, ne, k _ _ (.inl rfl) e, mA, ⟨od, es, ep, k _ _ (.inr d) e2, c⟩, r⟩
  | own y => obtain ⟨ob, e⟩ := x; exact ⟨ob, k _ _ (.inl rfl) e⟩
  | xd fs => obtain ⟨mA, ⟨od, es, ep, e, c⟩, r⟩ := x; exact ⟨mA, ⟨od, es, ep, k _ _ (.inl rfl) e, c⟩, r⟩
  | rng lo hi => obtain ⟨t, u, v, e⟩ := x; exact ⟨t, u, v, k _ _ (.inl rfl) e⟩
  | frz ob u ih => obtain ⟨e, q⟩ := x; exact ⟨k _ _ (.inl rfl) e, ih q⟩
  | tbl ps =>
    have e : h.get? a = some { cls := .none, data := .fields ps } := x
    show h'.get? a = some { cls := .none, data := .fields ps }
    exact k a _ (.inl rfl) e
  | met f y =>
    have e : h.get? a = some (PySem.W.methodObj (.ref f) (.ref y)) := x
    show h'.get? a = some (PySem.W.methodObj (.ref f) (.ref y))
    exact k a _ (.inl rfl) e
  | ext φ => obtain ⟨p, ⟨o, e⟩, st⟩ := x; exact ⟨st _ _ p fun o q => k _ _ (.inl rfl) q, ⟨o, k _ _ (.inl rfl) e⟩, st⟩
theorem HOk.lt (x : HOk P w H h) (e : H a = some o) : a < h.objs.size := (x a o e).lt
theorem HOk.fresh (x : HOk P w H h) (e : h.objs.size ≤ a) : H a = none := by
  cases q : H a with
  | none => rfl
  | some u => exact absurd (Nat.lt_of_lt_of_le (x.lt q) e) (Nat.lt_irrefl _)
theorem HOk.kept (x : HOk P w H h) (k : ∀ b u, h.get? b = some u → h'.get? b = some u) : HOk P w H h' := fun a o e =>
  (x a o e).stay (fun b u _ q => k b u q) (fun _ q => q) fun _ _ q => q
theorem HOk.laid (x : HOk P w H h) (k : ∀ b u, h.get? b = some u → h'.get? b = some u) (hp : h.objs.size ≤ a) (new : ObjOk P w (upd H a o) h' a o) : HOk P w (upd H a o) h' := fun b u e => by
  have hn := x.fresh hp
  by_cases hb : b = a
  · subst hb; rw [upd_same] at e; cases e; exact new
  · rw [upd_ne hb] at e
    exact (x b u e).stay (fun c v _ q => k c v q) (fun c q => by rw [upd_ne (ne_of_none q hn)]; exact q) fun c xs q => by rw [upd_ne (ne_of_none q hn)]; exact q
end
noncomputable def Rd (H : Hp) (a : Addr) (u : HO) : Prop := H a = some u ∨ ∃ o, H a = some (.frz o u)
theorem Rd.ok {P : Program} {w : World} {H : Hp} {h : Heap} {a : Addr} {u : HO} (r : Rd H a u) (x : HOk P w H h) : ObjOk P w H h a u := by
  rcases r with r | ⟨o, r⟩
  · exact x a u r
  · obtain ⟨_, q⟩ := x a _ r
    exact q
noncomputable def Mut : Option HO → Prop
  | some (.lst _) => True
  | some (.dK _) => True
  | some (.dT _) => True
  | some (.set _ _) => True
  | some (.ins _ _ _) => True
  | some (.ext _) => True
  | _ => False
section
variable {P : Program} {w : World} {H : Hp} {h h' : Heap} {x e : Addr} {o' : HO}
theorem HOk.write (ok : HOk P w H h) (mu : Mut (H x)) (he : e = x ∨ H e = some (.own x)) (k : ∀ b u, b ≠ e → h.get? b = some u → h'.get? b = some u) (heo : ∃ u, h'.get? e = some u)
    (new : ObjOk P w (upd H x o') h' x o') : HOk P w (upd H x o') h' := fun b u q => by
  have nown : ∀ c y, H c = some (.own y) → c ≠ x := fun c y r z => by subst z; rw [r] at mu; exact mu
  have ntup : ∀ c xs, H c = some (.tup xs) → c ≠ x := fun c xs r z => by subst z; rw [r] at mu; exact mu
  by_cases hb : b = x
  · subst hb; rw [upd_same] at q; cases q; exact new
  · rw [upd_ne hb] at q
    by_cases hbe : b = e
    · have q' : H b = some (.own x) := by
        rcases he with z | z
        · exact absurd (hbe.trans z) hb
        · rw [hbe]; exact z
      rw [q] at q'; cases q'
      obtain ⟨v, hv⟩ := heo
      exact ⟨v, by rw [hbe]; exact hv⟩
    · refine (ok b u q).stay (fun c v hc r => k c v ?_ r) (fun c r => by rw [upd_ne (nown c b r)]; exact r) fun c xs r => by rw [upd_ne (ntup c xs r)]; exact r
      rcases hc with rfl | hc
      · exact hbe
      · rintro rfl
        rcases he with z | z
        · exact nown c b hc z
        · rw [hc] at z; cases z; exact hb rfl
end
structure Un (fs ex : List Addr) (H H' : Hp) (h h' : Heap) : Prop where
  keep : ∀ b o, h.get? b = some o → H b = none → b ∉ fs → b ∉ ex → h'.get? b = some o
  slot : ∀ b o, h.get? b = some o → H b = none → b ∈ fs → b ∉ ex → ∃ sl, h'.get? b = some { o with slots := sl }
  free : ∀ b o, h.get? b = some o → H b = none → b ∉ ex → H' b = none
  there : ∀ b o, h.get? b = some o → b ∉ ex → ∃ o', h'.get? b = some o'
  tups : ∀ b xs, H b = some (.tup xs) → H' b = some (.tup xs)
  frzs : ∀ b o u, H b = some (.frz o u) → H' b = some (.frz o u)
  tbls : ∀ b ps, H b = some (.tbl ps) → ∃ more, H' b = some (.tbl (ps ++ more))
section
variable {fs fs' ex ex' : List Addr} {H H1 H2 : Hp} {h h1 h2 h' : Heap} {a x e : Addr} {o : HO}
theorem Un.any (u : Un fs ex H H1 h h1) {b : Addr} {ob : Obj} (q : h.get? b = some ob) (n : H b = none) (hx : b ∉ ex) : ∃ sl, h1.get? b = some { ob with slots := sl } := by
  by_cases hb : b ∈ fs
  · exact u.slot b ob q n hb hx
  · exact ⟨ob.slots, u.keep b ob q n hb hx⟩
theorem Un.kept (k : ∀ b u, h.get? b = some u → h'.get? b = some u) : Un fs ex H H h h' :=
  ⟨fun b ob q _ _ _ => k b ob q, fun b ob q _ _ _ => ⟨ob.slots, k b ob q⟩, fun _ _ _ n _ => n, fun b ob q _ => ⟨ob, k b ob q⟩, fun _ _ q => q, fun _ _ _ q => q, fun _ ps q => ⟨#[], by rw [q]; simp⟩⟩
theorem Un.refl : Un fs ex H H h h := Un.kept fun _ _ q => q
theorem Un.laid (k : ∀ b u, h.get? b = some u → h'.get? b = some u) (hp : h.objs.size ≤ a) (hn : H a = none) : Un fs ex H (upd H a o) h h' where
  keep := fun b u q _ _ _ => k b u q
  slot := fun b u q _ _ _ => ⟨u.slots, k b u q⟩
  free := fun b u q n _ => by rw [upd_ne (Nat.ne_of_lt (Nat.lt_of_lt_of_le (Heap.lt_size q) hp))]; exact n
  there := fun b u q _ => ⟨u, k b u q⟩
  tups := fun b xs q => by rw [upd_ne (ne_of_none q hn)]; exact q
  frzs := fun b u xs q => by rw [upd_ne (ne_of_none q hn)]; exact q
  tbls := fun b ps q => ⟨#[], by rw [upd_ne (ne_of_none q hn), q]; simp⟩
theorem Un.write (mu : Mut (H x)) (he : e = x ∨ H e = some (.own x)) (k : ∀ b u, b ≠ e → h.get? b = some u → h'.get? b = some u) (heo : ∃ u, h'.get? e = some u) : Un fs ex H (upd H x o) h h' := by
  have hx : ∀ b, H b = none → b ≠ x := fun b n z => by subst z; rw [n] at mu; exact mu
  have hb : ∀ b, H b = none → b ≠ e := fun b n z => by
    subst z
    rcases he with r | r
    · exact hx b n r
    · rw [n] at r; cases r
  have hm : ∀ b u, H b = some u → ¬ Mut (some u) → b ≠ x := fun b u q nm z => by subst z; rw [q] at mu; exact nm mu
  refine ⟨fun b u q n _ _ => k b u (hb b n) q, fun b u q n _ _ => ⟨u.slots, k b u (hb b n) q⟩, fun b u q n _ => by rw [upd_ne (hx b n)]; exact n, fun b u q _ => ?_,
    fun b xs q => by rw [upd_ne (hm b _ q fun z => z)]; exact q, fun b u xs q => by rw [upd_ne (hm b _ q fun z => z)]; exact q, fun b ps q => ⟨#[], by rw [upd_ne (hm b _ q fun z => z), q]; simp⟩⟩
  by_cases hbe : b = e
  · subst hbe; exact heo
  · exact ⟨u, k b u hbe q⟩
end
noncomputable def trk (h : Heap) (H : Hp) : List Addr := (List.range h.objs.size).filter fun a => (H a).isSome
noncomputable def hidT (h : Heap) (H : Hp) : Heap := PySem.W.hideAll h (trk h H)
theorem hidT_size (h : Heap) (H : Hp) : (hidT h H).objs.size = h.objs.size := PySem.W.hideAll_size _ _
theorem hidT_get {h : Heap} {H : Hp} {b : Addr} {o : Obj} (e : h.get? b = some o) (n : H b = none) : (hidT h H).get? b = some o :=
  PySem.W.hideAll_get _ e fun hm => by
    have q : (H b).isSome = true := (List.mem_filter.mp hm).2
    rw [n] at q; simp at q
theorem of_hidT {h : Heap} {H : Hp} {b : Addr} {o : Obj} (e : (hidT h H).get? b = some o) : h.get? b = some o ∧ H b = none := by
  have e' : h.get? b = some o := PySem.W.of_hideAll (trk h H) e
  refine ⟨e', ?_⟩
  cases q : H b with
  | none => rfl
  | some x =>
    have hm : b ∈ trk h H := List.mem_filter.mpr ⟨List.mem_range.mpr (Heap.lt_size e'), by simp [q]⟩
    have z : (hidT h H).get? b = none := PySem.W.hideAll_none (trk h H) hm
    rw [z] at e; cases e
end L2
namespace L2
open PySem PySem.Spec PyProof.Rows
structure Mod (K : PySem.W.Frag) (mg : Str → Option Value) (base : Heap) : Prop where
  kin : K.In base
  glob : base.Ns mainGlobals mg
  blt : ∃ mb, base.Ns builtinsNs mb ∧ ∀ x : Str, x ≠ "__name__" → mb x = bootBuiltins x
  nolimit : base.NoLimit
/-- the context: a def's body (or a comprehension's block) running. base: fixed through the whole law; s₀, H₀: the entry; outer: the frames whose slots others may change (a def's callers); stack: all frames that run;
   ex: iterators that were made ahead of the entry and are walked here (a comprehension's); fn: the names whose cells were made at the entry (a def: all; a comprehension's block: its own); calm: not within an except suite; pn: pins that every state bears; xe: what is wanted of an exception that leaves the code -/
structure Cx where
  prog : Program
  w : World
  K : PySem.W.Frag
  mg : Str → Option Value
  base : Heap
  A : Around
  N : List Str
  s₀ : Shared
  H₀ : Hp
  env : Env
  outer : List Env
  stack : List Env
  ex : List Addr
  fn : Str → Bool
  calm : Bool
  pn : List (Addr × Obj)
  xe : Value → Shared → Prop
noncomputable def frs (l : List Env) : List Addr := l.filterMap (·.frame)
noncomputable abbrev Cx.fs (X : Cx) : List Addr := frs X.outer
noncomputable def Vis (sc : Scope) (x : Str) : Prop := sc.names.lookup x = some .local ∨ sc.names.lookup x = some .cell ∨ sc.names.lookup x = some .free
noncomputable def Loc (sc : Scope) (x : Str) : Prop := sc.names.lookup x = some .local ∨ sc.names.lookup x = some .cell
noncomputable def Look (env : Env) (h : Heap) (m : Str → Option Value) (x : Str) (u : Value) : Prop :=
  (env.kindOf x = some .local ∧ m x = some u) ∨ ((env.kindOf x = some .cell ∨ env.kindOf x = some .free) ∧ ∃ c, env.cells.lookup x = some c ∧ h.IsCell c (some u))
structure Cx.Ok (X : Cx) : Prop where
  mod : Mod X.K X.mg X.base
  kind : X.env.scope.kind = .function
  glob : X.env.globals = mainGlobals
  blt : X.env.builtins = builtinsNs
  above : X.s₀.heap.objs.size ≤ X.env.locals
  inj : ∀ x y c, X.env.cells.lookup x = some c → X.env.cells.lookup y = some c → x = y
  has : ∀ x, (X.env.kindOf x = some .cell ∨ X.env.kindOf x = some .free) → ∃ c, X.env.cells.lookup x = some c
  cab : ∀ x c, X.fn x = true → X.env.cells.lookup x = some c → X.s₀.heap.objs.size ≤ c
  hd : X.calm = true → X.A.handled = none
  frames : X.A.frames = some X.stack
  stk : X.stack = X.outer ∨ (X.stack = X.env :: X.outer ∧ X.env.frame = some X.env.locals)
  exf : ∀ b ∈ X.ex, b ≠ X.env.locals ∧ ∀ x c, X.env.cells.lookup x = some c → c ≠ b
  bs : ∀ b o, X.base.get? b = some o → X.s₀.heap.get? b = some o ∧ X.H₀ b = none
  bsz : X.base.objs.size ≤ X.s₀.heap.objs.size
  noex : ∀ b o, X.base.get? b = some o → b ∉ X.ex
  exfs : ∀ b ∈ X.ex, b ∉ X.fs
  funs : X.s₀.heap.FunFrames X.base X.outer
  frf : ∀ b ∈ X.fs, X.H₀ b = none
structure Inv (X : Cx) (pins : List (Addr × Obj)) (σ : List (Option V)) (H : Hp) (s : Shared) : Prop where
  ok : X.Ok
  os : s.os = X.s₀.os
  bare : AllBare s.gens
  base : Un X.fs X.ex X.H₀ H X.s₀.heap s.heap
  loc : ∃ m, s.heap.Ns X.env.locals m ∧ ∀ (i : Nat) (x : Str) (v : V), X.N[i]? = some x → σ[i]? = some (some v) → Vis X.env.scope x → ∃ u, RelV v u ∧ Look X.env s.heap m x u
  cell : ∀ x c, X.env.cells.lookup x = some c → ∃ v, s.heap.IsCell c v
  free : H X.env.locals = none
  freeC : ∀ x c, X.env.cells.lookup x = some c → H c = none
  pin : ∀ p ∈ X.pn ++ pins, s.heap.get? p.1 = some p.2 ∧ H p.1 = none ∧ p.1 ≠ X.env.locals ∧ p.1 ∉ X.fs ∧ ∀ v, p.2.data ≠ .cell v
  hok : HOk X.prog X.w H s.heap
  len : σ.length = X.N.length
section
variable {X : Cx} {pins : List (Addr × Obj)} {σ : List (Option V)} {H H' : Hp} {s : Shared} {h' : Heap}
theorem Cx.Ok.nofr (ok : X.Ok) {b : Addr} {o : Obj} (e : X.base.get? b = some o) : b ∉ X.fs := fun hb => by
  have := (ok.funs.mem hb).1
  rw [e] at this; cases this
theorem Inv.bs (I : Inv X pins σ H s) : ∀ b o, X.base.get? b = some o → s.heap.get? b = some o ∧ H b = none := fun b o e =>
  ⟨I.base.keep b o (I.ok.bs b o e).1 (I.ok.bs b o e).2 (I.ok.nofr e) (I.ok.noex b o e), I.base.free b o (I.ok.bs b o e).1 (I.ok.bs b o e).2 (I.ok.noex b o e)⟩
theorem Inv.bk (I : Inv X pins σ H s) : ∀ b o, X.base.get? b = some o → s.heap.get? b = some o := fun b o e => (I.bs b o e).1
theorem Inv.mod (I : Inv X pins σ H s) : Mod X.K X.mg X.base := I.ok.mod
theorem Inv.kIn (I : Inv X pins σ H s) : X.K.In s.heap := I.ok.mod.kin.keeps I.bk
theorem Inv.lt (I : Inv X pins σ H s) : X.env.locals < s.heap.objs.size := let ⟨_, hn, _⟩ := I.loc; hn.lt
theorem Inv.sz (I : Inv X pins σ H s) : X.s₀.heap.objs.size ≤ s.heap.objs.size := Nat.le_trans I.ok.above (Nat.le_of_lt I.lt)
theorem Inv.nofs (I : Inv X pins σ H s) {a : Addr} (h : s.heap.objs.size ≤ a) : a ∉ X.fs := fun hb => by
  obtain ⟨_, o, ho, _⟩ := I.ok.funs.mem hb
  exact absurd (Nat.lt_of_lt_of_le (Heap.lt_size ho) (Nat.le_trans I.sz h)) (Nat.lt_irrefl _)
theorem Inv.cne (I : Inv X pins σ H s) : ∀ x c, X.env.cells.lookup x = some c → c ≠ X.env.locals := fun x c e z => by
  obtain ⟨v, o, ho, hd⟩ := I.cell x c e
  obtain ⟨m, ⟨o', es, ep, ho', hd', _⟩, _⟩ := I.loc
  rw [z, ho'] at ho; cases ho; rw [hd'] at hd; cases hd
theorem Inv.funs (I : Inv X pins σ H s) : s.heap.FunFrames X.base X.outer := by
  have all : ∀ (l : List Env), (∀ b ∈ frs l, b ∈ X.fs) → X.s₀.heap.FunFrames X.base l → s.heap.FunFrames X.base l := by
    intro l
    induction l with
    | nil => intro _ _; trivial
    | cons env r ih =>
      intro hs hl
      obtain ⟨hk, ⟨L, o, hf, hn, ho, hd⟩, hr⟩ := hl
      have hL : L ∈ X.fs := hs L (by unfold frs; rw [List.filterMap_cons, hf]; exact List.mem_cons_self)
      obtain ⟨sl, e⟩ := I.base.slot L o ho (I.ok.frf L hL) hL fun z => I.ok.exfs L z hL
      exact ⟨hk, ⟨L, _, hf, hn, e, hd⟩, ih (fun b hb => hs b (by unfold frs; rw [List.filterMap_cons, hf]; exact List.mem_cons_of_mem _ hb)) hr⟩
  exact all X.outer (fun _ hb => hb) I.ok.funs
theorem Inv.stack (I : Inv X pins σ H s) : s.heap.FunFrames X.base X.stack := by
  rcases I.ok.stk with e | ⟨e, hf⟩
  · rw [e]; exact I.funs
  · rw [e]
    obtain ⟨m, hn, _⟩ := I.loc
    refine .cons (by rw [I.ok.kind]; decide) hf hn ?_ I.funs
    exact Heap.get?_none_of_le (Nat.le_trans I.ok.bsz I.ok.above)
theorem Inv.stkSub (I : Inv X pins σ H s) : ∀ b ∈ frs X.stack, b ∈ X.env.locals :: X.fs := fun b hb => by
  rcases I.ok.stk with e | ⟨e, hf⟩
  · rw [e] at hb; exact List.mem_cons_of_mem _ hb
  · rw [e] at hb
    unfold frs at hb
    rw [List.filterMap_cons, hf] at hb
    exact hb
theorem Inv.stkFree (I : Inv X pins σ H s) : ∀ b ∈ frs X.stack, H b = none := fun b hb => by
  rcases List.mem_cons.mp (I.stkSub b hb) with e | hb
  · rw [e]; exact I.free
  · obtain ⟨_, o, ho, _⟩ := I.ok.funs.mem hb
    exact I.base.free b o ho (I.ok.frf b hb) fun z => I.ok.exfs b z hb
theorem Inv.step {g' : Array GenState} {t' : Nat} {d' : Drawn} {ch : List Addr} (I : Inv X pins σ H s)
    (hch : ∀ b ∈ ch, (b ∈ X.ex ∨ X.s₀.heap.objs.size ≤ b) ∧ b ≠ X.env.locals ∧ (∀ x c, X.env.cells.lookup x = some c → c ≠ b) ∧ ∀ p ∈ X.pn ++ pins, p.1 ≠ b)
    (keep : ∀ b o, b ≠ X.env.locals → b ∉ X.fs → b ∉ ch → s.heap.get? b = some o → H b = none → h'.get? b = some o)
    (slot : ∀ b o, b ≠ X.env.locals → b ∈ X.fs → b ∉ ch → s.heap.get? b = some o → H b = none → ∃ sl, h'.get? b = some { o with slots := sl }) (free : ∀ b o, b ∉ ch → s.heap.get? b = some o → H b = none → H' b = none)
    (there : ∀ b o, b ∉ ch → s.heap.get? b = some o → ∃ o', h'.get? b = some o')
    (tups : ∀ b xs, H b = some (.tup xs) → H' b = some (.tup xs)) (frzs : ∀ b o u, H b = some (.frz o u) → H' b = some (.frz o u)) (tbls : ∀ b ps, H b = some (.tbl ps) → ∃ more, H' b = some (.tbl (ps ++ more)))
    (ns : ∀ m, s.heap.Ns X.env.locals m → h'.Ns X.env.locals m) (hok : HOk X.prog X.w H' h') (hg : AllBare g') :
    Inv X pins σ H' { s with heap := h', gens := g', drawn := d', toks := t' } := by
  have neL : ∀ b o, X.s₀.heap.get? b = some o → b ≠ X.env.locals := fun b o e => Nat.ne_of_lt (Nat.lt_of_lt_of_le (Heap.lt_size e) I.ok.above)
  have neC : ∀ b o, X.s₀.heap.get? b = some o → b ∉ X.ex → b ∉ ch := fun b o e hx hb => by
    rcases (hch b hb).1 with z | z
    · exact hx z
    · exact absurd (Nat.lt_of_lt_of_le (Heap.lt_size e) z) (Nat.lt_irrefl _)
  have cellK : ∀ x c, X.env.cells.lookup x = some c → ∀ v, s.heap.IsCell c v → h'.IsCell c v := fun x c e v ⟨o, ho, hd⟩ => by
    have nch : c ∉ ch := fun z => (hch c z).2.2.1 x c e rfl
    by_cases hc : c ∈ X.fs
    · obtain ⟨sl, q⟩ := slot c o (I.cne x c e) hc nch ho (I.freeC x c e)
      exact ⟨_, q, hd⟩
    · exact ⟨o, keep c o (I.cne x c e) hc nch ho (I.freeC x c e), hd⟩
  refine ⟨I.ok, I.os, hg, ⟨fun b o e n hb hx => ?_, fun b o e n hb hx => ?_, fun b o e n hx => ?_, fun b o e hx => ?_, fun b xs e => tups b xs (I.base.tups b xs e), fun b o xs e => frzs b o xs (I.base.frzs b o xs e), fun b ps e => ?_⟩, ?_, fun x c e => ?_, ?_, fun x c e => ?_, fun p hp => ?_, hok, I.len⟩
  · exact keep b o (neL b o e) hb (neC b o e hx) (I.base.keep b o e n hb hx) (I.base.free b o e n hx)
  · obtain ⟨sl, e1⟩ := I.base.slot b o e n hb hx
    obtain ⟨sl', e2⟩ := slot b _ (neL b o e) hb (neC b o e hx) e1 (I.base.free b o e n hx)
    exact ⟨sl', e2⟩
  · obtain ⟨o', e1⟩ := I.base.there b o e hx
    exact free b o' (neC b o e hx) e1 (I.base.free b o e n hx)
  · obtain ⟨o', e1⟩ := I.base.there b o e hx
    exact there b o' (neC b o e hx) e1
  · obtain ⟨m1, e1⟩ := I.base.tbls b ps e
    obtain ⟨m2, e2⟩ := tbls b _ e1
    exact ⟨m1 ++ m2, by rw [e2, Array.append_assoc]⟩
  · obtain ⟨m, hn, hl⟩ := I.loc
    refine ⟨m, ns m hn, fun i x v e1 e2 e3 => ?_⟩
    obtain ⟨u, r, l⟩ := hl i x v e1 e2 e3
    refine ⟨u, r, ?_⟩
    rcases l with l | ⟨k, c, e, z⟩
    · exact .inl l
    · exact .inr ⟨k, c, e, cellK x c e _ z⟩
  · obtain ⟨v, z⟩ := I.cell x c e
    exact ⟨v, cellK x c e v z⟩
  · obtain ⟨m, ⟨o, _, _, ho, _⟩, _⟩ := I.loc
    exact free _ o (fun z => (hch _ z).2.1 rfl) ho I.free
  · obtain ⟨v, o, ho, hd⟩ := I.cell x c e
    exact free c o (fun z => (hch c z).2.2.1 x c e rfl) ho (I.freeC x c e)
  · obtain ⟨e, n, ne, nf, d⟩ := I.pin p hp
    have nch : p.1 ∉ ch := fun z => (hch p.1 z).2.2.2 p hp rfl
    exact ⟨keep p.1 p.2 ne nf nch e n, free p.1 p.2 nch e n, ne, nf, d⟩
theorem Inv.un {t' : Nat} (I : Inv X pins σ H s) (u : Un X.fs [] H H' s.heap h') (hok : HOk X.prog X.w H' h') : Inv X pins σ H' { s with heap := h', toks := t' } := by
  obtain ⟨m, ⟨o, es, ep, ho, r⟩, _⟩ := id I.loc
  obtain ⟨sl, hL⟩ := u.any ho I.free (by simp)
  exact I.step (g' := s.gens) (d' := s.drawn) (ch := []) (fun _ z => nomatch z) (fun b o _ hb _ e n => u.keep b o e n hb (by simp)) (fun b o _ hb _ e n => u.slot b o e n hb (by simp)) (fun b o _ e n => u.free b o e n (by simp)) (fun b o _ e => u.there b o e (by simp)) u.tups u.frzs u.tbls (fun m' hm => by
    obtain ⟨o', es', ep', ho', r'⟩ := hm
    rw [ho] at ho'; cases ho'
    exact ⟨_, es', ep', hL, r'⟩) hok I.bare
theorem Inv.call {g' : Array GenState} {t' : Nat} {d' : Drawn} {ch : List Addr} (I : Inv X pins σ H s) (u : Un (frs X.stack) ch H H' s.heap h') (hok : HOk X.prog X.w H' h') (hg : AllBare g')
    (hch : ∀ b ∈ ch, (b ∈ X.ex ∨ X.s₀.heap.objs.size ≤ b) ∧ b ≠ X.env.locals ∧ (∀ x c, X.env.cells.lookup x = some c → c ≠ b) ∧ ∀ p ∈ X.pn ++ pins, p.1 ≠ b) :
    Inv X pins σ H' { s with heap := h', gens := g', drawn := d', toks := t' } := by
  obtain ⟨m, ⟨o, es, ep, ho, r⟩, _⟩ := id I.loc
  obtain ⟨sl, hL⟩ := u.any ho I.free fun z => (hch _ z).2.1 rfl
  exact I.step (ch := ch) hch (fun b o hL hb hc e n => u.keep b o e n (fun z => (List.mem_cons.mp (I.stkSub b z)).elim hL hb) hc) (fun b o _ _ hc e n => u.any e n hc) (fun b o hc e n => u.free b o e n hc) (fun b o hc e => u.there b o e hc) u.tups u.frzs u.tbls (fun m' hm => by
    obtain ⟨o', es', ep', ho', r'⟩ := hm
    rw [ho] at ho'; cases ho'
    exact ⟨_, es', ep', hL, r'⟩) hok hg
theorem Inv.turned {t' : Nat} {it : Addr} (I : Inv X pins σ H s) (k : ∀ b o, b ≠ it → s.heap.get? b = some o → h'.get? b = some o) (hn : H it = none) (hL : it ≠ X.env.locals)
    (h1 : it ∈ X.ex ∨ X.s₀.heap.objs.size ≤ it) (h2 : ∀ x c, X.env.cells.lookup x = some c → c ≠ it) (h3 : ∀ p ∈ X.pn ++ pins, p.1 ≠ it) : Inv X pins σ H { s with heap := h', toks := t' } := by
  have nit : ∀ b u, H b = some u → b ≠ it := fun b u e z => by rw [z, hn] at e; cases e
  refine I.step (g' := s.gens) (d' := s.drawn) (ch := [it]) (fun b hb => ?_) (fun b o _ _ hc e _ => k b o (fun z => hc (by simp [z])) e) (fun b o _ _ hc e _ => ⟨o.slots, k b o (fun z => hc (by simp [z])) e⟩) (fun _ _ _ _ n => n)
    (fun b o hc e => ⟨o, k b o (fun z => hc (by simp [z])) e⟩) (fun _ _ e => e) (fun _ _ _ e => e) (fun b ps e => ⟨#[], by rw [e]; simp⟩) (fun m hm => ?_) (fun b u e => ?_) I.bare
  · have e : b = it := by simpa using hb
    subst e
    exact ⟨h1, hL, h2, h3⟩
  · obtain ⟨o, es, ep, ho, r⟩ := hm
    exact ⟨o, es, ep, k _ o (Ne.symm hL) ho, r⟩
  · refine (I.hok b u e).stay (fun c v hc q => k c v ?_ q) (fun _ q => q) fun _ _ q => q
    rcases hc with z | z
    · rw [z]; exact nit b u e
    · exact nit c _ z
theorem Inv.tok (I : Inv X pins σ H s) (t : Nat) : Inv X pins σ H { s with toks := t } := I.un (h' := s.heap) (t' := t) Un.refl I.hok
theorem Inv.kept {t' : Nat} (I : Inv X pins σ H s) (k : ∀ b u, s.heap.get? b = some u → h'.get? b = some u) : Inv X pins σ H { s with heap := h', toks := t' } := I.un (Un.kept k) (I.hok.kept k)
theorem Inv.laid {a : Addr} {o : HO} {t' : Nat} (I : Inv X pins σ H s) (k : ∀ b u, s.heap.get? b = some u → h'.get? b = some u) (hp : s.heap.objs.size ≤ a) (new : ObjOk X.prog X.w (upd H a o) h' a o) :
    Inv X pins σ (upd H a o) { s with heap := h', toks := t' } := I.un (Un.laid k hp (I.hok.fresh hp)) (I.hok.laid k hp new)
theorem Inv.write {x e : Addr} {o : HO} {t' : Nat} (I : Inv X pins σ H s) (mu : Mut (H x)) (he : e = x ∨ H e = some (.own x)) (k : ∀ b u, b ≠ e → s.heap.get? b = some u → h'.get? b = some u) (heo : ∃ u, h'.get? e = some u)
    (new : ObjOk X.prog X.w (upd H x o) h' x o) : Inv X pins σ (upd H x o) { s with heap := h', toks := t' } := I.un (Un.write mu he k heo) (I.hok.write mu he k heo new)
theorem Inv.pins_of {pins' : List (Addr × Obj)} (I : Inv X pins σ H s) (h : ∀ p ∈ pins', s.heap.get? p.1 = some p.2 ∧ H p.1 = none ∧ p.1 ≠ X.env.locals ∧ p.1 ∉ X.fs ∧ ∀ v, p.2.data ≠ .cell v) : Inv X pins' σ H s :=
  ⟨I.ok, I.os, I.bare, I.base, I.loc, I.cell, I.free, I.freeC, fun p hp => (List.mem_append.mp hp).elim (fun z => I.pin p (List.mem_append_left _ z)) (h p), I.hok, I.len⟩
theorem nodup_ix {N : List Str} (hN : N.Nodup) {i j : Nat} {x : Str} (a : N[i]? = some x) (b : N[j]? = some x) : i = j := by
  obtain ⟨h1, e1⟩ := List.getElem?_eq_some_iff.mp a
  obtain ⟨h2, e2⟩ := List.getElem?_eq_some_iff.mp b
  exact (List.getElem_inj hN).mp (e1.trans e2.symm)
theorem store_ok2 {M : Model} {A : Around} {E : Value → Shared → Prop} {i : Nat} {x : Str} {v : V} {u : Value} {Q : Unit → Shared → Prop} (I : Inv X pins σ H s) (hN : X.N.Nodup) (hi : X.N[i]? = some x) (hx : Loc X.env.scope x) (r : RelV v u)
    (h : ∀ s', Inv X pins (σ.set i (some v)) H s' → (∃ a, Heap.SameBut a s.heap s'.heap ∧ (a = X.env.locals ∨ X.env.cells.lookup x = some a)) → Q () s') (hf : X.fn x = true ∨ X.env.scope.names.lookup x = some .local := by first | exact .inl rfl | exact .inr rfl | assumption) : wpAny M A (storeName X.env x u) Q E s := by
  obtain ⟨m, hn, hl⟩ := id I.loc
  have hcls : (X.env.scope.kind == .class || (X.env.scope.kind == .module && X.env.locals != X.env.globals)) = false := by rw [I.ok.kind]; rfl
  have hiσ : i < σ.length := by rw [I.len]; exact (List.getElem?_eq_some_iff.mp hi).1
  have cne := I.cne
  have tracked : ∀ {a : Addr} {h' : Heap}, (∃ o, s.heap.get? a = some o ∧ H a = none) → Heap.SameBut a s.heap h' → HOk X.prog X.w H h' := fun {a h'} ha hs b ob e => by
    obtain ⟨_, _, hfree⟩ := ha
    refine (I.hok b ob e).stay (fun c w' hc q => (hs.2 c ?_).trans q) (fun _ q => q) fun _ _ q => q
    rintro rfl
    rcases hc with rfl | hc
    · rw [hfree] at e; cases e
    · rw [hfree] at hc; cases hc
  rcases hx with hk | hk
  · refine wpAny_storeName_local hk hn (fun h' hn' hs => ?_) hcls
    obtain ⟨oL, _, _, hoL, _⟩ := id hn
    refine h _ ⟨I.ok, I.os, I.bare, ⟨fun b o e n hb hx => ?_, fun b o e n hb hx => ?_, I.base.free, fun b o e hx => ?_, I.base.tups, I.base.frzs, I.base.tbls⟩, ⟨_, hn', fun j y v' e1 e2 e3 => ?_⟩, fun y c e => ?_, I.free, I.freeC, fun p hp => ?_, tracked ⟨oL, hoL, I.free⟩ hs, by simpa using I.len⟩ ⟨_, hs, .inl rfl⟩
    · exact (hs.2 b (Nat.ne_of_lt (Nat.lt_of_lt_of_le (Heap.lt_size e) I.ok.above))).trans (I.base.keep b o e n hb hx)
    · obtain ⟨sl, e1⟩ := I.base.slot b o e n hb hx
      exact ⟨sl, (hs.2 b (Nat.ne_of_lt (Nat.lt_of_lt_of_le (Heap.lt_size e) I.ok.above))).trans e1⟩
    · obtain ⟨o', e1⟩ := I.base.there b o e hx
      exact ⟨o', (hs.2 b (Nat.ne_of_lt (Nat.lt_of_lt_of_le (Heap.lt_size e) I.ok.above))).trans e1⟩
    · by_cases hj : j = i
      · subst hj
        rw [hi] at e1; cases e1
        rw [List.getElem?_set_self hiσ] at e2
        cases e2
        exact ⟨u, r, .inl ⟨hk, by simp⟩⟩
      · rw [List.getElem?_set_ne (Ne.symm hj)] at e2
        obtain ⟨u', r', q⟩ := hl j y v' e1 e2 e3
        refine ⟨u', r', ?_⟩
        rcases q with ⟨k, e⟩ | ⟨k, c, e, z⟩
        · refine .inl ⟨k, ?_⟩
          have : y ≠ x := fun e => hj (nodup_ix hN e1 (e ▸ hi))
          simp [this, e]
        · exact .inr ⟨k, c, e, z.sameBut hs (cne y c e)⟩
    · obtain ⟨w', z⟩ := I.cell y c e
      exact ⟨w', z.sameBut hs (cne y c e)⟩
    · obtain ⟨e, n, ne, nf, d⟩ := I.pin p hp
      exact ⟨(hs.2 p.1 ne).trans e, n, ne, nf, d⟩
  · have hfn : X.fn x = true := by
      rcases hf with z | z
      · exact z
      · rw [z] at hk; cases hk
    obtain ⟨c, hc⟩ := I.ok.has x (.inl hk)
    obtain ⟨w', z⟩ := I.cell x c hc
    refine wpAny_storeName_cell I.ok.kind hk hc z (fun h' hc' hs => ?_)
    obtain ⟨oc, hoc, hocd⟩ := id z
    refine h { s with heap := h' } ⟨I.ok, I.os, I.bare, ⟨fun b o e n hb hx => ?_, fun b o e n hb hx => ?_, I.base.free, fun b o e hx => ?_, I.base.tups, I.base.frzs, I.base.tbls⟩, ⟨m, hn.sameBut hs (Ne.symm (cne x c hc)), fun j y v' e1 e2 e3 => ?_⟩, fun y c' e => ?_, I.free, I.freeC, fun p hp => ?_, tracked ⟨oc, hoc, I.freeC x c hc⟩ hs, by simpa using I.len⟩ ⟨c, hs, .inr hc⟩
    · exact (hs.2 b (Nat.ne_of_lt (Nat.lt_of_lt_of_le (Heap.lt_size e) (I.ok.cab x c hfn hc)))).trans (I.base.keep b o e n hb hx)
    · obtain ⟨sl, e1⟩ := I.base.slot b o e n hb hx
      exact ⟨sl, (hs.2 b (Nat.ne_of_lt (Nat.lt_of_lt_of_le (Heap.lt_size e) (I.ok.cab x c hfn hc)))).trans e1⟩
    · obtain ⟨o', e1⟩ := I.base.there b o e hx
      exact ⟨o', (hs.2 b (Nat.ne_of_lt (Nat.lt_of_lt_of_le (Heap.lt_size e) (I.ok.cab x c hfn hc)))).trans e1⟩
    · by_cases hj : j = i
      · subst hj
        rw [hi] at e1; cases e1
        rw [List.getElem?_set_self hiσ] at e2
        cases e2
        exact ⟨u, r, .inr ⟨.inl hk, c, hc, hc'⟩⟩
      · rw [List.getElem?_set_ne (Ne.symm hj)] at e2
        obtain ⟨u', r', q⟩ := hl j y v' e1 e2 e3
        refine ⟨u', r', ?_⟩
        rcases q with q | ⟨k, c', e, z'⟩
        · exact .inl q
        · refine .inr ⟨k, c', e, z'.sameBut hs ?_⟩
          rintro rfl
          exact hj (nodup_ix hN e1 (I.ok.inj _ _ _ e hc ▸ hi))
    · by_cases hcc : c' = c
      · subst hcc; exact ⟨_, hc'⟩
      · obtain ⟨w2, z2⟩ := I.cell y c' e
        exact ⟨w2, z2.sameBut hs hcc⟩
    · obtain ⟨e, n, ne, nf, d⟩ := I.pin p hp
      refine ⟨(hs.2 p.1 ?_).trans e, n, ne, nf, d⟩
      intro q
      rw [q, hoc] at e
      have q' : oc = p.2 := Option.some.inj e
      exact d w' (by rw [← q']; exact hocd)
theorem store_ok {M : Model} {A : Around} {E : Value → Shared → Prop} {i : Nat} {x : Str} {v : V} {u : Value} {Q : Unit → Shared → Prop} (I : Inv X pins σ H s) (hN : X.N.Nodup) (hi : X.N[i]? = some x) (hx : Loc X.env.scope x) (r : RelV v u)
    (h : ∀ s', Inv X pins (σ.set i (some v)) H s' → Q () s') (hf : X.fn x = true ∨ X.env.scope.names.lookup x = some .local := by first | exact .inl rfl | exact .inr rfl | assumption) : wpAny M A (storeName X.env x u) Q E s :=
  store_ok2 I hN hi hx r (fun s' I' _ => h s' I') hf
theorem Inv.call' {s' : Shared} {ch : List Addr} (I : Inv X pins σ H s) (ho : s'.os = s.os) (u : Un (frs X.stack) ch H H' s.heap s'.heap) (hok : HOk X.prog X.w H' s'.heap) (hg : AllBare s'.gens)
    (hch : ∀ b ∈ ch, (b ∈ X.ex ∨ X.s₀.heap.objs.size ≤ b) ∧ b ≠ X.env.locals ∧ (∀ x c, X.env.cells.lookup x = some c → c ≠ b) ∧ ∀ p ∈ X.pn ++ pins, p.1 ≠ b) : Inv X pins σ H' s' := by
  obtain ⟨h', g', d', t', o'⟩ := s'
  have e : o' = s.os := ho
  subst e
  exact I.call (g' := g') (t' := t') (d' := d') u hok hg hch
end
noncomputable abbrev XK := Value → Option Addr → Hp → Prop
noncomputable abbrev St := List (Option V)
noncomputable abbrev VK := V → Hp → Prop
noncomputable abbrev TE := St → Hp → VK → Prop
noncomputable abbrev TT := St → Hp → (Bool → Hp → Prop) → Prop
noncomputable abbrev TA := St → Hp → (List V → Hp → Prop) → Prop
structure Ends where
  nx : St → Hp → Prop
  rt : VK
  bk : St → Hp → Prop := fun _ _ => False
  ct : St → Hp → Prop := fun _ _ => False
noncomputable abbrev TS := Ends → St → Hp → Prop
noncomputable def EP (X : Cx) (pins : List (Addr × Obj)) (σ : St) (Q : VK) (u : Value) (s' : Shared) : Prop := ∃ v H', Inv X pins σ H' s' ∧ RelV v u ∧ Q v H'
noncomputable def TP (X : Cx) (pins : List (Addr × Obj)) (σ : St) (Q : Bool → Hp → Prop) (b : Bool) (s' : Shared) : Prop := ∃ H', Inv X pins σ H' s' ∧ Q b H'
noncomputable def AP (X : Cx) (pins : List (Addr × Obj)) (σ : St) (Q : List V → Hp → Prop) (us : List Value) (s' : Shared) : Prop := ∃ vs H', Inv X pins σ H' s' ∧ Vals vs us ∧ Q vs H'
noncomputable def SP (X : Cx) (pins : List (Addr × Obj)) (D : Ends) (f : Flow) (s' : Shared) : Prop :=
  match f with
  | .next => ∃ σ' H', Inv X pins σ' H' s' ∧ D.nx σ' H'
  | .brk => ∃ σ' H', Inv X pins σ' H' s' ∧ D.bk σ' H'
  | .cont => ∃ σ' H', Inv X pins σ' H' s' ∧ D.ct σ' H'
  | .ret u => ∃ v σ' H', Inv X pins σ' H' s' ∧ RelV v u ∧ D.rt v H'
noncomputable def PE (X : Cx) (e : Expr) (t : TE) : Prop :=
  ∀ (pins : List (Addr × Obj)) (s : Shared) (σ : St) (H : Hp) (Q : VK), Inv X pins σ H s → t σ H Q → wpAny (model X.prog X.w) X.A (eval e X.env) (EP X pins σ Q) X.xe s
noncomputable def PT (X : Cx) (e : Expr) (t : TT) : Prop :=
  ∀ (pins : List (Addr × Obj)) (s : Shared) (σ : St) (H : Hp) (Q : Bool → Hp → Prop), Inv X pins σ H s → t σ H Q → wpAny (model X.prog X.w) X.A (isTrue e X.env (eval e X.env)) (TP X pins σ Q) X.xe s
noncomputable def PW (X : Cx) (e : Expr) (t : TT) : Prop :=
  ∀ (whole : Sem Value) (pins : List (Addr × Obj)) (s : Shared) (σ : St) (H : Hp) (Q : Bool → Hp → Prop), Inv X pins σ H s → t σ H Q → wpAny (model X.prog X.w) X.A (isTrue e X.env whole) (TP X pins σ Q) X.xe s
theorem PW.pt {X : Cx} {e : Expr} {t : TT} (h : PW X e t) : PT X e t := h _
noncomputable def PA (X : Cx) (es : List Expr) (t : TA) : Prop :=
  ∀ (pos : Pos) (pins : List (Addr × Obj)) (s : Shared) (σ : St) (H : Hp) (Q : List V → Hp → Prop), Inv X pins σ H s → t σ H Q → wpAny (model X.prog X.w) X.A (spliced (backTo pos (starEach es X.env))) (AP X pins σ Q) X.xe s
noncomputable def PS (X : Cx) (st : Stmt) (t : TS) : Prop :=
  ∀ (pins : List (Addr × Obj)) (s : Shared) (σ : St) (H : Hp) (D : Ends), Inv X pins σ H s → t D σ H → wpAny (model X.prog X.w) X.A (exec st X.env) (SP X pins D) X.xe s
noncomputable def PSs (X : Cx) (st : List Stmt) (t : TS) : Prop :=
  ∀ (pins : List (Addr × Obj)) (s : Shared) (σ : St) (H : Hp) (D : Ends), Inv X pins σ H s → t D σ H → wpAny (model X.prog X.w) X.A (execs st X.env) (SP X pins D) X.xe s
theorem thn {α : Type} {t : Sem α} {Q Q' : α → Shared → Prop} {M : Model} {A : Around} {E : Value → Shared → Prop} {s : Shared} (h : wpAny M A t Q E s) (hQ : ∀ a s, Q a s → Q' a s) : wpAny M A t Q' E s := wpAny_mono h hQ fun _ _ x => x
end L2
namespace L2
open PySem PySem.Spec PyProof.Rows
section
variable {X : Cx}
noncomputable def tVar (i : Nat) : TE := fun σ H Q => ∃ v, σ[i]? = some (some v) ∧ Q v H
noncomputable def tC (v : V) : TE := fun _ H Q => Q v H
theorem pe_var {i : Nat} {x : Str} {pos : Pos} (hN : X.N[i]? = some x) (hv : Vis X.env.scope x) (hd : (x == ("__debug__" : Str)) = false := by decide) (hcd : (x == ("__classdict__" : Str)) = false := by decide) : PE X (.Name x pos) (tVar i) := by
  intro pins s σ H Q I h
  obtain ⟨v, e, h⟩ := h
  obtain ⟨m, hn, hl⟩ := I.loc
  obtain ⟨u, r, l⟩ := hl i x v hN e hv
  have fin : EP X pins σ Q u s := ⟨v, H, I, r, h⟩
  rcases l with ⟨hk, hm⟩ | ⟨hk, c, hc, hcell⟩
  · exact wpAny_Name (wpAny_loadName_local I.ok.kind hk hn hm fin) hd
  · rcases hk with hk | hk
    · exact wpAny_Name (wpAny_loadName_cell I.ok.kind hk hc hcell fin) hd
    · exact wpAny_Name (wpAny_loadName_free I.ok.kind hk hc hcell fin hcd) hd
theorem pe_int {i j pos} : PE X (.Constant (.int i) j pos) (tC (.int i)) := fun _ _ _ H _ I h => wpAny_Constant_int ⟨.int i, H, I.tok _, ⟨_, rfl⟩, h⟩
theorem pe_bl {b j pos} : PE X (.Constant (.bool b) j pos) (tC (.bl b)) := fun _ _ _ H _ I h => Constant_bool ⟨.bl b, H, I, rfl, h⟩
theorem pe_non {j pos} : PE X (.Constant .none j pos) (tC .non) := fun _ _ _ H _ I h => Constant_none ⟨.non, H, I, rfl, h⟩
noncomputable def Gl (X : Cx) (x : Str) : Prop := X.env.kindOf x = some .globalImplicit
theorem ld_glob {E : Value → Shared → Prop} {pins : List (Addr × Obj)} {s : Shared} {σ : St} {H : Hp} {x : Str} {u : Value} {pos : Pos} {Q : Value → Shared → Prop} (I : Inv X pins σ H s) (hg : Gl X x) (hm : X.mg x = some u) (h : Q u s)
    (hd : (x == ("__debug__" : Str)) = false := by decide) : wpAny (model X.prog X.w) X.A (eval (.Name x pos) X.env) Q E s :=
  Calls.Name_function_global I.ok.kind hg (Calls.loadGlobal_global (by rw [I.ok.glob]; exact I.mod.glob.keeps I.bk) hm h) hd
theorem ld_blt {E : Value → Shared → Prop} {pins : List (Addr × Obj)} {s : Shared} {σ : St} {H : Hp} {x : Str} {u : Value} {pos : Pos} {Q : Value → Shared → Prop} (I : Inv X pins σ H s) (hg : Gl X x) (hm : X.mg x = none) (hv : bootBuiltins x = some u) (h : Q u s)
    (hn : x ≠ "__name__" := by decide) (hd : (x == ("__debug__" : Str)) = false := by decide) : wpAny (model X.prog X.w) X.A (eval (.Name x pos) X.env) Q E s := by
  obtain ⟨mb, h1, h2⟩ := I.mod.blt
  exact Calls.Name_function_global I.ok.kind hg (Calls.loadGlobal_builtin (by rw [I.ok.glob]; exact I.mod.glob.keeps I.bk) hm (by rw [I.ok.blt]; exact h1.keeps I.bk) ((h2 x hn).trans hv) h) hd
theorem pe_glob {x : Str} {v : V} {u : Value} {pos : Pos} (hg : Gl X x) (hm : X.mg x = some u) (r : RelV v u) (hd : (x == ("__debug__" : Str)) = false := by decide) : PE X (.Name x pos) (tC v) :=
  fun _ _ _ H _ I h => ld_glob I hg hm ⟨v, H, I, r, h⟩ hd
theorem pe_bltn {x : Str} {v : V} {u : Value} {pos : Pos} (hg : Gl X x) (hm : X.mg x = none) (hv : bootBuiltins x = some u) (r : RelV v u) (hn : x ≠ "__name__" := by decide) (hd : (x == ("__debug__" : Str)) = false := by decide) : PE X (.Name x pos) (tC v) :=
  fun _ _ _ H _ I h => ld_blt I hg hm hv ⟨v, H, I, r, h⟩ hn hd
variable {a b : Expr} {ta tb : TE} {pos : Pos}
noncomputable def tB (t : TE) : TT := fun σ H Q => t σ H fun x H1 => ∃ c, x = .bl c ∧ Q c H1
theorem pt_val {e : Expr} {t : TE} (h : PE X e t) (he : ∀ whole, isTrue e X.env whole = (do let v ← whole; standAt e.pos; holding [v] (truthy v)) := by intro _; rfl) : PT X e (tB t) := by
  intro pins s σ H Q I hw
  refine isTrue_plain (thn (h pins s σ H _ I hw) fun v s1 ⟨x, H1, I1, r1, q1⟩ => ?_) (he _)
  obtain ⟨d, rfl, q⟩ := q1
  cases r1
  exact wpAny_truthy_bool ⟨H1, I1, q⟩
variable {tA tB' : TT} {rest : List Expr}
noncomputable def tAnd (t u : TT) : TT := fun σ H Q => t σ H fun c H1 => if c = true then u σ H1 Q else Q false H1
noncomputable def tOr (t u : TT) : TT := fun σ H Q => t σ H fun c H1 => if c = true then Q true H1 else u σ H1 Q
noncomputable def tNot (t : TT) : TT := fun σ H Q => t σ H fun c H1 => Q (!c) H1
theorem pw_and1 (ha : PT X a tA) : PW X (.BoolOp .And [a] pos) tA := by
  intro wh pins s σ H Q I h
  refine isTrue_and (thn (ha pins s σ H Q I h) fun c s1 e => ?_)
  cases c with
  | true => exact isTrue_and_nil e
  | false => exact e
theorem pw_or1 (ha : PT X a tA) : PW X (.BoolOp .Or [a] pos) tA := by
  intro wh pins s σ H Q I h
  refine isTrue_or (thn (ha pins s σ H Q I h) fun c s1 e => ?_)
  cases c with
  | false => exact isTrue_or_nil e
  | true => exact e
theorem pw_and (ha : PT X a tA) (hb : PW X (.BoolOp .And (b :: rest) pos) tB') : PW X (.BoolOp .And (a :: b :: rest) pos) (tAnd tA tB') := by
  intro wh pins s σ H Q I h
  refine isTrue_and (thn (ha pins s σ H _ I h) fun c s1 ⟨H1, I1, q1⟩ => ?_)
  cases c with
  | true => exact hb wh pins s1 σ H1 Q I1 q1
  | false => exact ⟨H1, I1, q1⟩
theorem pw_or (ha : PT X a tA) (hb : PW X (.BoolOp .Or (b :: rest) pos) tB') : PW X (.BoolOp .Or (a :: b :: rest) pos) (tOr tA tB') := by
  intro wh pins s σ H Q I h
  refine isTrue_or (thn (ha pins s σ H _ I h) fun c s1 ⟨H1, I1, q1⟩ => ?_)
  cases c with
  | true => exact ⟨H1, I1, q1⟩
  | false => exact hb wh pins s1 σ H1 Q I1 q1
theorem pt_not (ha : PT X a tA) : PT X (.UnaryOp .Not a pos) (tNot tA) := by
  intro pins s σ H Q I h
  exact isTrue_not (ha pins s σ H (fun c H1 => Q (!c) H1) I h)
noncomputable def tAndV (ta tb : TE) : TE := fun σ H Q => ta σ H fun x H1 => ∃ c, x = .bl c ∧ if c = true then tb σ H1 Q else Q (.bl false) H1
noncomputable def tOrV (ta tb : TE) : TE := fun σ H Q => ta σ H fun x H1 => ∃ c, x = .bl c ∧ if c = true then Q (.bl true) H1 else tb σ H1 Q
noncomputable def tNotV (ta : TE) : TE := fun σ H Q => ta σ H fun x H1 => ∃ c, x = .bl c ∧ Q (.bl (!c)) H1
theorem pe_one {op} {t : TE} (h : PE X a t) : PE X (.BoolOp op [a] pos) t := fun pins s σ H Q I hw => BoolOp_one (h pins s σ H Q I hw)
theorem pe_and (ha : PE X a ta) (hb : PE X (.BoolOp .And (b :: rest) pos) tb) : PE X (.BoolOp .And (a :: b :: rest) pos) (tAndV ta tb) := by
  intro pins s σ H Q I h
  refine BoolOp_and (thn (ha pins s σ H _ I h) fun v s1 ⟨x, H1, I1, r1, q1⟩ => ?_)
  obtain ⟨c, rfl, q1⟩ := q1
  cases r1
  refine wpAny_truthy_bool ?_
  cases c with
  | true => exact hb pins s1 σ H1 Q I1 q1
  | false => exact ⟨.bl false, H1, I1, rfl, q1⟩
theorem pe_or (ha : PE X a ta) (hb : PE X (.BoolOp .Or (b :: rest) pos) tb) : PE X (.BoolOp .Or (a :: b :: rest) pos) (tOrV ta tb) := by
  intro pins s σ H Q I h
  refine BoolOp_or (thn (ha pins s σ H _ I h) fun v s1 ⟨x, H1, I1, r1, q1⟩ => ?_)
  obtain ⟨c, rfl, q1⟩ := q1
  cases r1
  refine wpAny_truthy_bool ?_
  cases c with
  | false => exact hb pins s1 σ H1 Q I1 q1
  | true => exact ⟨.bl true, H1, I1, rfl, q1⟩
theorem pe_not (ha : PE X a ta) : PE X (.UnaryOp .Not a pos) (tNotV ta) := by
  intro pins s σ H Q I h
  refine UnaryOp_ (thn (ha pins s σ H _ I h) fun v s1 ⟨x, H1, I1, r1, q1⟩ => ?_)
  obtain ⟨c, rfl, q1⟩ := q1
  cases r1
  exact not_of (wpAny_truthy_bool ⟨.bl (!c), H1, I1, rfl, q1⟩)
noncomputable def tIf (t : TT) (ta tb : TE) : TE := fun σ H Q => t σ H fun c H1 => if c = true then ta σ H1 Q else tb σ H1 Q
theorem pe_ifExp {c : Expr} (hc : PT X c tA) (ha : PE X a ta) (hb : PE X b tb) : PE X (.IfExp c a b pos) (tIf tA ta tb) := by
  intro pins s σ H Q I h
  refine wpAny_IfExp (thn (hc pins s σ H _ I h) fun d s1 ⟨H1, I1, q1⟩ => ?_)
  cases d with
  | true => exact ha pins s1 σ H1 Q I1 q1
  | false => exact hb pins s1 σ H1 Q I1 q1
end
end L2
namespace L2
open PySem PySem.Spec PyProof.Rows
noncomputable def SqL (K : PySem.W.Frag) (H : Hp) (a : Addr) (xs : List V) : Prop :=
  Rd H a (.lst xs) ∨
    ∃ (o : Obj) (its : Array Value) (n : Nat), K.lookup a = some o ∧ o.cls = .type "list" ∧ o.dict = none ∧ o.data = .seq its n ∧ its.size ≤ sizeLine ∧ Vals xs its.toList
noncomputable def SqT (K : PySem.W.Frag) (H : Hp) (a : Addr) (xs : List V) : Prop :=
  Rd H a (.tup xs) ∨
    ∃ (o : Obj) (its : Array Value) (n : Nat), K.lookup a = some o ∧ o.cls = .type "tuple" ∧ o.data = .seq its n ∧ its.size ≤ sizeLine ∧ Vals xs its.toList
noncomputable def absV : Value → Option V
  | .none => some .non
  | .bool b => some (.bl b)
  | .int i _ => some (.int i)
  | .str x _ => some (.str x)
  | .bytes b _ => some (.byt b)
  | .float b _ => some (.flt b)
  | .ref a => some (.ref a)
  | .type n => some (.ty n)
  | _ => none
theorem RelV.abs {x : V} {u : Value} (r : RelV x u) : absV u = some x := by
  cases x with
  | non => cases r; rfl
  | bl _ => cases r; rfl
  | int _ => obtain ⟨t, rfl⟩ := r; rfl
  | str _ => obtain ⟨t, rfl⟩ := r; rfl
  | byt _ => obtain ⟨t, rfl⟩ := r; rfl
  | flt _ => obtain ⟨t, rfl⟩ := r; rfl
  | ref _ => cases r; rfl
  | ty _ => cases r; rfl
theorem RelV.inj {x y : V} {u : Value} (r : RelV x u) (q : RelV y u) : x = y := Option.some.inj (r.abs.symm.trans q.abs)
theorem Vals.inj : ∀ {xs ys : List V} {us : List Value}, Vals xs us → Vals ys us → xs = ys
  | _, _, _, .nil, .nil => rfl
  | _, _, _, .cons r t, .cons r' t' => by rw [r.inj r', Vals.inj t t']
section
variable {X : Cx} {pins : List (Addr × Obj)} {σ : St} {H : Hp} {s : Shared} {a : Addr} {xs ys : List V}
theorem SqL.of {K : PySem.W.Frag} (h : H a = some (.lst xs)) : SqL K H a xs := .inl (.inl h)
theorem Inv.list (I : Inv X pins σ H s) (h : SqL X.K H a xs) : ∃ its : List Value, Vals xs its ∧ PlainL s.heap a its.toArray ∧ xs.length ≤ sizeLine := by
  rcases h with h | ⟨o, its, n, hk, hc, hd, hs, hz, r⟩
  · obtain ⟨z, its, n, r, e⟩ := h.ok I.hok
    exact ⟨its, r, ⟨_, n, e, rfl, rfl, rfl⟩, z⟩
  · refine ⟨its.toList, r, ⟨o, n, I.kIn a o hk, hc, hd, by simpa using hs⟩, ?_⟩
    have e := r.length
    simp only [Array.length_toList] at e
    omega
theorem Inv.tuple (I : Inv X pins σ H s) (h : SqT X.K H a xs) : ∃ its : List Value, Vals xs its ∧ IsTup s.heap a its.toArray ∧ xs.length ≤ sizeLine := by
  rcases h with h | ⟨o, its, n, hk, hc, hs, hz, r⟩
  · obtain ⟨z, its, r, p⟩ := h.ok I.hok
    exact ⟨its, r, p, z⟩
  · refine ⟨its.toList, r, ⟨o, I.kIn a o hk, hc, n, by simpa using hs⟩, ?_⟩
    have e := r.length
    simp only [Array.length_toList] at e
    omega
theorem Inv.list_inj (I : Inv X pins σ H s) (h : SqL X.K H a xs) (h' : SqL X.K H a ys) : xs = ys := by
  obtain ⟨its, r, ⟨o, n, e, _, _, d⟩, _⟩ := I.list h
  obtain ⟨its', r', ⟨o', n', e', _, _, d'⟩, _⟩ := I.list h'
  rw [e] at e'; cases e'
  rw [d] at d'
  injection d' with d1 _
  have : its = its' := by simpa using congrArg Array.toList d1
  subst this
  exact r.inj r'
theorem Inv.tuple_inj (I : Inv X pins σ H s) (h : SqT X.K H a xs) (h' : SqT X.K H a ys) : xs = ys := by
  obtain ⟨its, r, ⟨o, e, _, n, d⟩, _⟩ := I.tuple h
  obtain ⟨its', r', ⟨o', e', _, n', d'⟩, _⟩ := I.tuple h'
  rw [e] at e'; cases e'
  rw [d] at d'
  injection d' with d1 _
  have : its = its' := by simpa using congrArg Array.toList d1
  subst this
  exact r.inj r'
end
noncomputable abbrev Cx.wish (X : Cx) (E : Value → Shared → Prop) : Cx := { X with xe := E }
noncomputable abbrev Cx.nox (X : Cx) : Cx := X.wish fun _ _ => False
theorem Cx.Ok.wish {X : Cx} (ok : X.Ok) (E : Value → Shared → Prop) : (X.wish E).Ok :=
  ⟨ok.mod, ok.kind, ok.glob, ok.blt, ok.above, ok.inj, ok.has, ok.cab, ok.hd, ok.frames, ok.stk, ok.exf, ok.bs, ok.bsz, ok.noex, ok.exfs, ok.funs, ok.frf⟩
theorem Cx.Ok.unwish {X : Cx} {E : Value → Shared → Prop} (ok : (X.wish E).Ok) : X.Ok :=
  ⟨ok.mod, ok.kind, ok.glob, ok.blt, ok.above, ok.inj, ok.has, ok.cab, ok.hd, ok.frames, ok.stk, ok.exf, ok.bs, ok.bsz, ok.noex, ok.exfs, ok.funs, ok.frf⟩
section
variable {X : Cx} {pins : List (Addr × Obj)} {σ : St} {H : Hp} {s : Shared} {E : Value → Shared → Prop}
theorem Inv.wish (I : Inv X pins σ H s) (E : Value → Shared → Prop) : Inv (X.wish E) pins σ H s := ⟨I.ok.wish E, I.os, I.bare, I.base, I.loc, I.cell, I.free, I.freeC, I.pin, I.hok, I.len⟩
theorem Inv.unwish (I : Inv (X.wish E) pins σ H s) : Inv X pins σ H s := ⟨I.ok.unwish, I.os, I.bare, I.base, I.loc, I.cell, I.free, I.freeC, I.pin, I.hok, I.len⟩
theorem SP.unwish {D : Ends} {f : Flow} {s' : Shared} (h : SP (X.wish E) pins D f s') : SP X pins D f s' := by
  cases f with
  | next => obtain ⟨σ', H', I, q⟩ := h; exact ⟨σ', H', I.unwish, q⟩
  | brk => obtain ⟨σ', H', I, q⟩ := h; exact ⟨σ', H', I.unwish, q⟩
  | cont => obtain ⟨σ', H', I, q⟩ := h; exact ⟨σ', H', I.unwish, q⟩
  | ret u => obtain ⟨v, σ', H', I, r, q⟩ := h; exact ⟨v, σ', H', I.unwish, r, q⟩
theorem PSs.nox {st : List Stmt} {t : TS} (h : PSs X.nox st t) : PSs X st t := fun pins s σ H D I hw =>
  wpAny_mono (h pins s σ H D (I.wish _) hw) (fun _ _ q => q.unwish) fun _ _ z => False.elim z
end
section
variable {X : Cx} {st : Stmt} {rest : List Stmt} {t u : TS} {e : Expr} {te : TE} {pos : Pos}
noncomputable def tNext : TS := fun D σ H => D.nx σ H
noncomputable def tSeq (t u : TS) : TS := fun D σ H => t { D with nx := u D } σ H
theorem pss_nil : PSs X [] tNext := fun _ _ σ H _ I h => wpAny_execs_nil ⟨σ, H, I, h⟩
theorem pss_cons (h1 : PS X st t) (h2 : PSs X rest u) : PSs X (st :: rest) (tSeq t u) := by
  intro pins s σ H D I h
  refine wpAny_execs_cons (thn (h1 pins s σ H { D with nx := u D } I h) fun f s1 q => ?_)
  cases f with
  | next =>
    obtain ⟨σ', H', I', q⟩ := q
    exact h2 pins s1 σ' H' D I' q
  | ret v => exact q
  | brk => exact q
  | cont => exact q
theorem pss_one (h1 : PS X st t) : PSs X [st] t := by
  intro pins s σ H D I h
  refine wpAny_execs_cons (thn (h1 pins s σ H D I h) fun f s1 q => ?_)
  cases f with
  | next => exact wpAny_execs_nil q
  | ret v => exact q
  | brk => exact q
  | cont => exact q
theorem Inv.quiet {pins : List (Addr × Obj)} {σ : St} {H : Hp} {s : Shared} (I : Inv X pins σ H s) : interactive X.env = false := by simp [interactive, I.ok.kind]
noncomputable def tDrop (te : TE) : TS := fun D σ H => te σ H fun _ H1 => D.nx σ H1
theorem ps_expr (he : PE X e te) (hs : swapsWith e none pos.line X.env = pure false := by rfl) : PS X (.Expr e pos) (tDrop te) := by
  intro pins s σ H D I h
  exact wpAny_Expr_any (thn (he pins s σ H _ I h) fun v s1 ⟨x, H1, I1, r1, q1⟩ => ⟨σ, H1, I1, q1⟩) I.quiet hs
noncomputable def tRet (te : TE) : TS := fun D σ H => te σ H D.rt
theorem ps_ret (he : PE X e te) : PS X (.Return (some e) pos) (tRet te) := by
  intro pins s σ H D I h
  exact wpAny_Return_some (thn (he pins s σ H _ I h) fun v s1 ⟨x, H1, I1, r1, q1⟩ => ⟨x, σ, H1, I1, r1, q1⟩)
noncomputable def tIfS (c : TT) (t u : TS) : TS := fun D σ H => c σ H fun b H1 => if b = true then t D σ H1 else u D σ H1
theorem ps_if {c : Expr} {a b : List Stmt} {tc : TT} (hc : PT X c tc) (ha : PSs X a t) (hb : PSs X b u) : PS X (.If c a b pos) (tIfS tc t u) := by
  intro pins s σ H D I h
  refine wpAny_If (thn (hc pins s σ H _ I h) fun d s1 ⟨H1, I1, q1⟩ => ?_)
  cases d with
  | true => exact ha pins s1 σ H1 D I1 q1
  | false => exact hb pins s1 σ H1 D I1 q1
end
noncomputable abbrev TG := V → St → Hp → (St → Hp → Prop) → Prop
noncomputable abbrev TGs := List V → St → Hp → (St → Hp → Prop) → Prop
noncomputable def PG (X : Cx) (target : Expr) (t : TG) : Prop :=
  ∀ (pins : List (Addr × Obj)) (s : Shared) (σ : St) (H : Hp) (v : V) (u : Value) (Q : St → Hp → Prop), Inv X pins σ H s → RelV v u → t v σ H Q →
    wpAny (model X.prog X.w) X.A (assign target X.env u) (fun _ s' => ∃ σ' H', Inv X pins σ' H' s' ∧ Q σ' H') X.xe s
noncomputable def PGs (X : Cx) (ts : List Expr) (t : TGs) : Prop :=
  ∀ (pins : List (Addr × Obj)) (s : Shared) (σ : St) (H : Hp) (vs : List V) (us : List Value) (Q : St → Hp → Prop), Inv X pins σ H s → Vals vs us → t vs σ H Q →
    wpAny (model X.prog X.w) X.A (assignInOrder ((assignEach ts X.env).map (·.2)) us) (fun _ s' => ∃ σ' H', Inv X pins σ' H' s' ∧ Q σ' H') X.xe s
noncomputable abbrev TSet := V → V → V → Hp → (Hp → Prop) → Prop
noncomputable def PSet (X : Cx) (t : TSet) : Prop :=
  ∀ (pins : List (Addr × Obj)) (s : Shared) (σ : St) (H : Hp) (o i v : V) (ov iv u : Value) (Q : Hp → Prop), Inv X pins σ H s → RelV o ov → RelV i iv → RelV v u → t o i v H Q →
    wpAny (model X.prog X.w) X.A (setItem ov iv u) (fun _ s' => ∃ H', Inv X pins σ H' s' ∧ Q H') X.xe s
noncomputable abbrev TIp := V → V → Hp → VK → Prop
noncomputable def PIp (X : Cx) (op : Operator) (t : TIp) : Prop :=
  ∀ (pins : List (Addr × Obj)) (s : Shared) (σ : St) (H : Hp) (x y : V) (v u : Value) (Q : VK), Inv X pins σ H s → RelV x v → RelV y u → t x y H Q →
    wpAny (model X.prog X.w) X.A (inplaceOp op v u) (EP X pins σ Q) X.xe s
section
variable {X : Cx} {pos : Pos}
noncomputable def gName (i : Nat) : TG := fun v σ H Q => Q (σ.set i (some v)) H
theorem pg_name {i : Nat} {x : Str} (hN : X.N.Nodup) (hi : X.N[i]? = some x) (hx : Loc X.env.scope x) (hf : X.fn x = true ∨ X.env.scope.names.lookup x = some .local := by first | exact .inl rfl | exact .inr rfl | assumption) : PG X (.Name x pos) (gName i) := by
  intro pins s σ H v u Q I r h
  exact wpAny_assign_Name (store_ok I hN hi hx r (fun s' I' => ⟨_, H, I', h⟩) hf)
noncomputable def gNil : TGs := fun vs σ H Q => vs = [] ∧ Q σ H
noncomputable def gCons (t : TG) (u : TGs) : TGs := fun vs σ H Q => ∃ v r, vs = v :: r ∧ t v σ H fun σ' H' => u r σ' H' Q
theorem pgs_nil : PGs X [] gNil := by
  intro pins s σ H vs us Q I r h
  obtain ⟨e, h⟩ := h
  subst e
  cases r
  exact assignInOrder_nil ⟨σ, H, I, h⟩
theorem pgs_cons {e : Expr} {es : List Expr} {t : TG} {u : TGs} (h1 : PG X e t) (h2 : PGs X es u)
    (hs : (assignEach (e :: es) X.env).map (·.2) = assign e X.env :: (assignEach es X.env).map (·.2) := by rfl) : PGs X (e :: es) (gCons t u) := by
  intro pins s σ H vs us Q I r h
  obtain ⟨v, vr, e1, h⟩ := h
  subst e1
  cases r with
  | cons r rr =>
    rw [hs]
    refine assignInOrder_cons (thn (h1 pins s σ H _ _ _ I r h) fun _ s1 ⟨σ1, H1, I1, q1⟩ => ?_)
    exact h2 pins s1 σ1 H1 _ _ Q I1 rr q1
noncomputable def gTup (K : PySem.W.Frag) (n : Nat) (t : TGs) : TG := fun v σ H Q => ∃ a xs, v = .ref a ∧ SqT K H a xs ∧ xs.length = n ∧ t xs σ H Q
theorem pg_tup {es : List Expr} {k : Nat} {t : TGs} {n : Nat} (hc : X.calm = true) (h : PGs X es t)
    (hn : (assignEach es X.env).length = n := by rfl) (hst : (assignEach es X.env).findIdx? (·.1) = none := by rfl) : PG X (.Tuple es k pos) (gTup X.K n t) := by
  intro pins s σ H v u Q I r hw
  obtain ⟨a, xs, e1, hq, hl, hw⟩ := hw
  subst e1
  cases r
  obtain ⟨its, rv, ht, hz⟩ := I.tuple hq
  refine assign_Tuple_tuple (I.ok.hd hc) ht (by simp [hn, ← hl, rv.length]) hst fun h' hx => ?_
  have I1 : Inv X pins σ H { s with heap := h' } := I.kept (t' := s.toks) fun b o e => hx b o (Nat.ne_of_lt (Heap.lt_size e)) e
  exact h pins _ σ H xs _ Q I1 (by simpa using rv) hw
noncomputable def gSub (to ti : TE) (t : TSet) : TG := fun v σ H Q => to σ H fun o H1 => ti σ H1 fun i H2 => t o i v H2 fun H3 => Q σ H3
theorem pg_sub {o i : Expr} {to ti : TE} {t : TSet} (ho : PE X o to) (hi : PE X i ti) (hs : PSet X t)
    (ha : ∀ v, assign (.Subscript o i pos) X.env v = (do
      let ov ← holding [v] (eval o X.env)
      let iv ← holding [v, ov] (eval i X.env)
      standAt pos
      holding [v, ov, iv] (setItem ov iv v)
      release [v, ov, iv] []) := by intro _; rfl) : PG X (.Subscript o i pos) (gSub to ti t) := by
  intro pins s σ H v u Q I r h
  rw [ha]
  refine wpAny_bind (wpAny_holding (thn (ho pins s σ H _ I h) fun ov s1 ⟨x, H1, I1, r1, q1⟩ => ?_))
  refine wpAny_bind (wpAny_holding (thn (hi pins s1 σ H1 _ I1 q1) fun iv s2 ⟨y, H2, I2, r2, q2⟩ => ?_))
  refine wpAny_bind (wpAny_standAt (wpAny_bind (wpAny_holding (thn (hs pins s2 σ H2 x y v ov iv u _ I2 r1 r2 r q2) fun _ s3 ⟨H3, I3, q3⟩ => ?_))))
  exact wpAny_release ⟨σ, H3, I3, q3⟩
noncomputable def tAsg (te : TE) (g : TG) : TS := fun D σ H => te σ H fun x H1 => g x σ H1 D.nx
theorem ps_asg {tg e : Expr} {te : TE} {g : TG} (he : PE X e te) (hg : PG X tg g) (hs : swapsWithSole [tg] e pos.line X.env = pure false := by rfl) (hw : swappedStores [tg] e X.env = pure none := by rfl)
    (h1 : (assignEach [tg] X.env).map (·.2) = [assign tg X.env] := by rfl) : PS X (.Assign [tg] e pos) (tAsg te g) := by
  intro pins s σ H D I h
  refine wpAny_Assign_stores (thn (he pins s σ H _ I h) fun v s1 ⟨x, H1, I1, r1, q1⟩ => ?_) hs hw
  rw [h1]
  exact thn (hg pins s1 σ H1 x v _ I1 r1 q1) fun _ s2 q => q
theorem ps_set {i : Nat} {x : Str} {e : Expr} {te : TE} {pos' : Pos} (hN : X.N.Nodup) (hi : X.N[i]? = some x) (hx : Loc X.env.scope x) (he : PE X e te) (hs : swapsWith e (some (.Name x pos')) pos.line X.env = pure false := by rfl) (hf : X.fn x = true ∨ X.env.scope.names.lookup x = some .local := by first | exact .inl rfl | exact .inr rfl | assumption) :
    PS X (.Assign [.Name x pos'] e pos) (tAsg te (gName i)) := by
  intro pins s σ H D I h
  refine wpAny_Assign_Name (thn (he pins s σ H _ I h) fun v s1 ⟨y, H1, I1, r1, q1⟩ => ?_) hs
  exact store_ok I1 hN hi hx r1 (fun s2 I2 => ⟨_, H1, I2, q1⟩) hf
noncomputable def tPar (i j : Nat) (ta : TA) : TS := fun D σ H => ta σ H fun vs H1 => ∃ v w, vs = [v, w] ∧ D.nx ((σ.set i (some v)).set j (some w)) H1
theorem ps_par {i j : Nat} {x y : Str} {a b : Expr} {ta : TA} {px py pt : Pos} {kt k2 pt2} (hc : X.calm = true) (hN : X.N.Nodup) (hi : X.N[i]? = some x) (hj : X.N[j]? = some y) (hij : i ≠ j)
    (hx : X.env.scope.names.lookup x = some .local) (hy : X.env.scope.names.lookup y = some .local) (ha : PA X [a, b] ta)
    (hw : swappedStores [.Tuple [.Name x px, .Name y py] kt pt] (.Tuple [a, b] k2 pt2) X.env = pure (some [x, y]))
    (hs : swapsWithSole [.Tuple [.Name x px, .Name y py] kt pt] (.Tuple [a, b] k2 pt2) pos.line X.env = pure false := by rfl) :
    PS X (.Assign [.Tuple [.Name x px, .Name y py] kt pt] (.Tuple [a, b] k2 pt2) pos) (tPar i j ta) := by
  intro pins s σ H D I h
  rw [exec_Assign_arm]
  refine wpAny_bind (wpAny_standAt ?_)
  rw [hs]
  refine wpAny_bind (wpAny_pure ?_)
  rw [if_neg (by decide)]
  refine wpAny_bind (Tuple_ (thn (ha _ pins s σ H _ I h) fun us s1 ⟨vs, H1, I1, r1, q1⟩ => ?_))
  obtain ⟨v, w, e1, q1⟩ := q1
  subst e1
  obtain ⟨u1, u2, rfl, rv, rw'⟩ : ∃ u1 u2, us = [u1, u2] ∧ RelV v u1 ∧ RelV w u2 := by
    cases r1 with
    | cons p q =>
      cases q with
      | cons p' q' =>
        cases q'
        exact ⟨_, _, rfl, p, p'⟩
  refine wpAny_newObj_type ?_ (by show 2 ≤ sizeLine; decide)
  have I2 : Inv X pins σ H1 { s1 with heap := s1.heap.push { cls := .type "tuple", data := .seq [u1, u2].toArray } } := I1.kept (t' := s1.toks) fun b o e => Heap.get?_push_of_some _ e
  rw [hw]
  refine wpAny_bind (wpAny_pure ?_)
  show wpAny (model X.prog X.w) X.A (do rule "assign.swapped-stores"; let items ← unpackItems (.ref s1.heap.objs.size) 2 none; assignInOrder [fun v => bindName X.env y v, fun v => bindName X.env x v] items.reverse; pure Flow.next) _ _ _
  refine wpAny_bind (wpAny_rule (wpAny_bind (unpackItems_tuple (items := #[u1, u2]) (I.ok.hd hc) (IsTup.new s1.heap _) fun h' hx' => ?_)))
  have I3 := I2.kept (h' := h') (t' := s1.toks) fun b o e => hx' b o (Nat.ne_of_lt (Heap.lt_size e)) e
  show wpAny _ _ (assignInOrder [fun v => bindName X.env y v, fun v => bindName X.env x v] [u2, u1] >>= fun _ => pure Flow.next) _ _ _
  refine wpAny_bind (assignInOrder_cons (wpAny_bindName (store_ok I3 hN hj (.inl hy) rw' (fun s2 I4 => ?_) (.inr hy))))
  refine assignInOrder_cons (wpAny_bindName (store_ok I4 hN hi (.inl hx) rv (fun s3 I5 => assignInOrder_nil (wpAny_pure ?_)) (.inr hx)))
  rw [List.set_comm _ _ (Ne.symm hij)] at I5
  exact ⟨_, H1, I5, q1⟩
noncomputable def tAug (i : Nat) (te : TE) (ti : TIp) : TS := fun D σ H => ∃ x, σ[i]? = some (some x) ∧ te σ H fun y H1 => ti x y H1 fun z H2 => D.nx (σ.set i (some z)) H2
theorem ps_aug {i : Nat} {x : Str} {e : Expr} {te : TE} {op : Operator} {ti : TIp} {pos' : Pos} (hN : X.N.Nodup) (hi : X.N[i]? = some x) (hx : Loc X.env.scope x) (he : PE X e te) (ho : PIp X op ti) (hf : X.fn x = true ∨ X.env.scope.names.lookup x = some .local := by first | exact .inl rfl | exact .inr rfl | assumption) :
    PS X (.AugAssign (.Name x pos') op e pos) (tAug i te ti) := by
  intro pins s σ H D I h
  obtain ⟨v, e1, h⟩ := h
  obtain ⟨m, hn, hl⟩ := I.loc
  have vis : Vis X.env.scope x := by rcases hx with k | k; exact .inl k; exact .inr (.inl k)
  obtain ⟨u, r, l⟩ := hl i x v hi e1 vis
  refine wpAny_AugAssign_Name ?_
  have go : wpAny (model X.prog X.w) X.A (eval e X.env) (fun w s₂ => wpAny (model X.prog X.w) X.A (inplaceOp op u w) (fun r s₃ => wpAny (model X.prog X.w) X.A (storeName X.env x r) (fun _ => SP X pins D .next) X.xe s₃) X.xe s₂) X.xe s := by
    refine thn (he pins s σ H _ I h) fun w s1 ⟨y, H1, I1, r1, q1⟩ => ?_
    refine thn (ho pins s1 σ H1 v y u w _ I1 r r1 q1) fun z s2 ⟨zv, H2, I2, r2, q2⟩ => ?_
    exact store_ok I2 hN hi hx r2 (fun s3 I3 => ⟨_, H2, I3, q2⟩) hf
  rcases l with ⟨hk, hm⟩ | ⟨hk, c, hc, hcell⟩
  · exact wpAny_loadName_local I.ok.kind hk hn hm go
  · rcases hk with hk | hk
    · exact wpAny_loadName_cell I.ok.kind hk hc hcell go
    · rcases hx with k | k
      · have : X.env.scope.names.lookup x = some .free := hk
        rw [k] at this; cases this
      · have : X.env.scope.names.lookup x = some .free := hk
        rw [k] at this; cases this
noncomputable def ipI (f : Int → Int → Int) : TIp := fun x y H Q => ∃ i j, x = .int i ∧ y = .int j ∧ Q (.int (f i j)) H
theorem ip_add : PIp X .Add (ipI fun i j => i + j) := by
  intro pins s σ H x y v u Q I r1 r2 h
  obtain ⟨i, j, e1, e2, q⟩ := h
  subst e1; subst e2
  obtain ⟨t, rfl⟩ := r1
  obtain ⟨t', rfl⟩ := r2
  exact iadd_int ⟨.int _, H, I.tok _, ⟨_, rfl⟩, q⟩
end
section
variable {X : Cx} {pos : Pos}
noncomputable def tWhile (c : TT) (tb : TS) : TS := fun D σ H => ∃ W : Nat → St → Hp → Prop, (∃ m, W m σ H) ∧ ∀ m σ H, W m σ H →
  c σ H fun b H1 => if b = true then ∃ N : St → Hp → Prop, (∀ σ' H', N σ' H' → ∃ m', m' < m ∧ W m' σ' H') ∧ tb { D with nx := N, ct := N, bk := D.nx } σ H1 else D.nx σ H1
theorem ps_while {c : Expr} {body : List Stmt} {tc : TT} {tb : TS} (hp : PassesOwn (model X.prog X.w) X.A X.env X.xe) (hc : PT X c tc) (hb : PSs X body tb) : PS X (.While c body [] pos) (tWhile tc tb) := by
  intro pins s σ H D I h
  obtain ⟨W, ⟨m0, w0⟩, turn⟩ := h
  refine wpAny_While (codeAny_whileLoop (fun n s' => ∃ σ' H', Inv X pins σ' H' s' ∧ W n σ' H') ?_ m0 ⟨σ, H, I, w0⟩)
  rintro n s1 ⟨σ1, H1, I1, w1⟩
  refine wpAny_passesOwn hp (thn (hc pins s1 σ1 H1 _ I1 (turn n σ1 H1 w1)) fun b s2 ⟨H2, I2, q2⟩ => ?_)
  cases b with
  | true =>
    obtain ⟨N, hN, q2⟩ := q2
    rw [if_pos rfl]
    refine wpAny_passesOwn hp (thn (hb pins s2 σ1 H2 _ I2 q2) fun f s3 q3 => ?_)
    cases f with
    | next =>
      obtain ⟨σ3, H3, I3, n3⟩ := q3
      obtain ⟨m', hm, w3⟩ := hN σ3 H3 n3
      exact ⟨m', hm, σ3, H3, I3, w3⟩
    | cont =>
      obtain ⟨σ3, H3, I3, n3⟩ := q3
      obtain ⟨m', hm, w3⟩ := hN σ3 H3 n3
      exact ⟨m', hm, σ3, H3, I3, w3⟩
    | brk => exact q3
    | ret v => exact q3
  | false =>
    rw [if_neg Bool.false_ne_true]
    exact wpAny_execs_nil ⟨σ1, H2, I2, q2⟩
end
structure It where
  go : Nat → Hp → Prop
  yld : Nat → Hp → V → Hp → Prop
  stop : Nat → Hp → Prop
noncomputable def FpOk (X : Cx) (pins : List (Addr × Obj)) (H : Hp) (b : Addr) : Prop :=
  H b = none ∧ b ≠ X.env.locals ∧ b ∉ X.fs ∧ (b ∈ X.ex ∨ X.s₀.heap.objs.size ≤ b) ∧ (∀ x c, X.env.cells.lookup x = some c → c ≠ b) ∧ ∀ p ∈ X.pn ++ pins, p.1 ≠ b
theorem Inv.fpOk {X : Cx} {pins : List (Addr × Obj)} {σ : St} {H H' : Hp} {s : Shared} {b : Addr} (I : Inv X pins σ H s) (hb : s.heap.objs.size ≤ b) (hn : H' b = none) : FpOk X pins H' b := by
  refine ⟨hn, Nat.ne_of_gt (Nat.lt_of_lt_of_le I.lt hb), I.nofs hb, .inr (Nat.le_trans I.sz hb), fun x c e z => ?_, fun p hp z => ?_⟩
  · obtain ⟨v, q⟩ := I.cell x c e
    exact absurd (Nat.lt_of_lt_of_le q.lt (by rw [z]; exact hb)) (Nat.lt_irrefl _)
  · exact absurd (Nat.lt_of_lt_of_le (Heap.lt_size (I.pin p hp).1) (by rw [z]; exact hb)) (Nat.lt_irrefl _)
structure Turn (P : Program) (w : World) (K : PySem.W.Frag) (tg : Expr) (J : It) (fp : List Addr) (it : Addr) (tn : Nat → Heap → Prop) : Prop where
  mem : it ∈ fp
  obj : ∀ i h, tn i h → ∀ b ∈ fp, ∃ o, h.get? b = some o ∧ ∀ v, o.data ≠ .cell v
  keep : ∀ i h h', tn i h → (∀ b ∈ fp, ∀ o, h.get? b = some o → h'.get? b = some o) → tn i h'
  item : ∀ (X : Cx), X.prog = P → X.w = w → X.K = K → X.calm = true → ∀ (i : Nat) (pins : List (Addr × Obj)) (s : Shared) (σ : St) (H : Hp) (E : Value → Shared → Prop), Inv X pins σ H s → (∀ b ∈ fp, FpOk X pins H b) → tn i s.heap → J.go i H →
    wpAny (model P w) X.A (pyNext (.ref it)) (fun r s1 => ∃ u, r = some u ∧
      wpAny (model P w) X.A (letOwnedTupleGo tg (.ref it) u) (fun _ s2 => ∃ x H', Inv X pins σ H' s2 ∧ RelV x u ∧ J.yld i H x H' ∧ tn (i + 1) s2.heap ∧ ∀ b ∈ fp, H' b = none) E s1) E s
  done : ∀ (X : Cx), X.prog = P → X.w = w → X.K = K → X.calm = true → ∀ (i : Nat) (pins : List (Addr × Obj)) (s : Shared) (σ : St) (H : Hp) (E : Value → Shared → Prop), Inv X pins σ H s → (∀ b ∈ fp, FpOk X pins H b) → tn i s.heap → J.stop i H →
    wpAny (model P w) X.A (pyNext (.ref it)) (fun r s1 => r = none ∧ Inv X pins σ H s1) E s
  self : ∀ (A : Around) (i : Nat) (s : Shared) (Q : Value → Shared → Prop) (E : Value → Shared → Prop), tn i s.heap → Q (.ref it) s → wpAny (model P w) A (pyIter (.ref it)) Q E s
noncomputable abbrev TI := St → Hp → (It → Hp → Prop) → Prop
noncomputable def PIE (X : Cx) (pins : List (Addr × Obj)) (σ : St) (tg : Expr) (R : It → Hp → Prop) (itv : Value) (s2 : Shared) : Prop :=
  ∃ (it : Addr) (fp : List Addr) (tn : Nat → Heap → Prop) (J : It) (H' : Hp), itv = .ref it ∧ Inv X pins σ H' s2 ∧ Turn X.prog X.w X.K tg J fp it tn ∧ tn 0 s2.heap ∧ (∀ b ∈ fp, FpOk X pins H' b) ∧ R J H'
noncomputable def PI (X : Cx) (tg iter : Expr) (wi : TI) : Prop :=
  ∀ (pins : List (Addr × Obj)) (s : Shared) (σ : St) (H : Hp) (R : It → Hp → Prop), Inv X pins σ H s → wi σ H R →
    wpAny (model X.prog X.w) X.A (eval iter X.env) (fun v s1 => wpAny (model X.prog X.w) X.A (pyIter v) (PIE X pins σ tg R) X.xe s1) X.xe s
theorem go_of {M : Model} {A : Around} {E : Value → Shared → Prop} {s : Shared} {tg : Expr} {it : Addr} {u : Value} {o : Obj} {n : String} {vs : Array Value} {Q : Unit → Shared → Prop} (ho : s.heap.get? it = some o) (hc : o.cls = .type n) (hd : o.data = .fields vs)
    (hn : ["enumerate", "zip", "dict_itemiterator", "dict_reverseitemiterator", "odict_iterator", "itertools.zip_longest", "itertools.pairwise"].contains n = false) (hQ : Q () s) : wpAny M A (letOwnedTupleGo tg (.ref it) u) Q E s := by
  unfold letOwnedTupleGo
  cases tg <;> first
    | exact wpAny_pure hQ
    | (cases u <;> first
        | exact wpAny_pure hQ
        | (refine wpAny_bind (wpAny_load ho ?_)
           rw [hc, hd]
           show wpAny M A (if (["enumerate", "zip", "dict_itemiterator", "dict_reverseitemiterator", "odict_iterator", "itertools.zip_longest", "itertools.pairwise"].contains n && vs[0]? == some (rawInt _)) = true then _ else _) Q E s
           rw [if_neg (by intro h; rw [hn, Bool.false_and] at h; cases h)]
           exact wpAny_pure hQ))
noncomputable def Itl (K : PySem.W.Frag) (a : Addr) : It :=
  ⟨fun i H => ∃ xs x, SqL K H a xs ∧ xs[i]? = some x, fun i H x H' => H' = H ∧ ∀ xs, SqL K H a xs → xs[i]? = some x, fun i H => ∃ xs, SqL K H a xs ∧ xs.length ≤ i⟩
noncomputable def Itt (K : PySem.W.Frag) (a : Addr) : It :=
  ⟨fun i H => ∃ xs x, SqT K H a xs ∧ xs[i]? = some x, fun i H x H' => H' = H ∧ ∀ xs, SqT K H a xs → xs[i]? = some x, fun i H => ∃ xs, SqT K H a xs ∧ xs.length ≤ i⟩
noncomputable def Itr (lo : Int) (n : Nat) : It := ⟨fun i _ => i < n, fun i H x H' => H' = H ∧ x = .int (lo + i), fun i _ => n ≤ i⟩
theorem turn_list {P : Program} {w : World} {K : PySem.W.Frag} {tg : Expr} (a it : Addr) : Turn P w K tg (Itl K a) [it] it (fun i h => h.IsListIter it a i) where
  mem := by simp
  obj := fun i h st b hb => by
    have e : b = it := by simpa using hb
    subst e
    obtain ⟨o, e, c, d⟩ := st
    exact ⟨o, e, fun v z => by rw [d] at z; cases z⟩
  keep := fun i h h' st k => st.at fun o e => k it (by simp) o e
  item := by
    intro X hP hw hK hc i pins s σ H E I hf st hg
    subst hP hw hK
    obtain ⟨xs, x, hq, hx⟩ := hg
    obtain ⟨its, rv, p, hz⟩ := I.list hq
    obtain ⟨u, hu, ru⟩ := rv.get hx
    obtain ⟨f0, f1, f2, f3, f4, f5⟩ := hf it (by simp)
    refine wpAny_pyNext_list_item st p.isList (x := u) (by simpa using hu) fun h' st' sb => ?_
    have I1 : Inv X pins σ H { s with heap := h' } := I.turned (t' := s.toks) (fun b o hb e => (sb.2 b hb).trans e) f0 f1 f3 f4 f5
    obtain ⟨o, e, c, d⟩ := id st'
    exact ⟨u, rfl, go_of (s := { s with heap := h' }) e c d (by decide) ⟨x, H, I1, ru, ⟨rfl, fun ys hy => by rw [I.list_inj hy hq]; exact hx⟩, st', fun b hb => (hf b hb).1⟩⟩
  done := by
    intro X hP hw hK hc i pins s σ H E I hf st hg
    subst hP hw hK
    obtain ⟨xs, hq, hx⟩ := hg
    obtain ⟨its, rv, p, hz⟩ := I.list hq
    obtain ⟨f0, f1, f2, f3, f4, f5⟩ := hf it (by simp)
    have hl := rv.length
    exact wpAny_pyNext_list_end (I.ok.hd hc) st p.isList (by simp; omega) fun h' eb => ⟨rfl, I.turned (t' := s.toks) (fun b o hb e => eb b o hb e) f0 f1 f3 f4 f5⟩
  self := fun _ _ _ _ _ st h => wpAny_pyIter_listiter st h
theorem turn_tuple {P : Program} {w : World} {K : PySem.W.Frag} {tg : Expr} (a it : Addr) : Turn P w K tg (Itt K a) [it] it (fun i h => h.IsTupleIter it a i) where
  mem := by simp
  obj := fun i h st b hb => by
    have e : b = it := by simpa using hb
    subst e
    obtain ⟨o, e, c, d⟩ := st
    exact ⟨o, e, fun v z => by rw [d] at z; cases z⟩
  keep := fun i h h' st k => st.at fun o e => k it (by simp) o e
  item := by
    intro X hP hw hK hc i pins s σ H E I hf st hg
    subst hP hw hK
    obtain ⟨xs, x, hq, hx⟩ := hg
    obtain ⟨its, rv, p, hz⟩ := I.tuple hq
    obtain ⟨u, hu, ru⟩ := rv.get hx
    obtain ⟨f0, f1, f2, f3, f4, f5⟩ := hf it (by simp)
    refine wpAny_pyNext_tuple_item st (show s.heap.IsTuple a its.toArray from p) (x := u) (by simpa using hu) fun h' st' sb => ?_
    have I1 : Inv X pins σ H { s with heap := h' } := I.turned (t' := s.toks) (fun b o hb e => (sb.2 b hb).trans e) f0 f1 f3 f4 f5
    obtain ⟨o, e, c, d⟩ := id st'
    exact ⟨u, rfl, go_of (s := { s with heap := h' }) e c d (by decide) ⟨x, H, I1, ru, ⟨rfl, fun ys hy => by rw [I.tuple_inj hy hq]; exact hx⟩, st', fun b hb => (hf b hb).1⟩⟩
  done := by
    intro X hP hw hK hc i pins s σ H E I hf st hg
    subst hP hw hK
    obtain ⟨xs, hq, hx⟩ := hg
    obtain ⟨its, rv, p, hz⟩ := I.tuple hq
    obtain ⟨f0, f1, f2, f3, f4, f5⟩ := hf it (by simp)
    have hl := rv.length
    exact wpAny_pyNext_tuple_end (I.ok.hd hc) st (show s.heap.IsTuple a its.toArray from p) (by simp; omega) fun h' eb => ⟨rfl, I.turned (t' := s.toks) (fun b o hb e => eb b o hb e) f0 f1 f3 f4 f5⟩
  self := fun _ _ _ _ _ st h => wpAny_pyIter_tupleiter st h
theorem turn_range {P : Program} {w : World} {K : PySem.W.Frag} {tg : Expr} (it : Addr) (lo : Int) (n : Nat) : Turn P w K tg (Itr lo n) [it] it (fun i h => IsRangeIter h it (lo + (i : Nat) * 1) ((n : Int) - (i : Nat)) 1) where
  mem := by simp
  obj := fun i h st b hb => by
    have e : b = it := by simpa using hb
    subst e
    exact ⟨_, st, fun v z => by
      have z' : Data.fields _ = Data.cell v := z
      cases z'⟩
  keep := fun i h h' st k => k it (by simp) _ st
  item := by
    intro X hP hw hK hc i pins s σ H E I hf st hg
    subst hP hw hK
    obtain ⟨f0, f1, f2, f3, f4, f5⟩ := hf it (by simp)
    have W := Walks.range (prog := X.prog) (w := X.w) (I.ok.hd hc) it lo 1 n
    refine W.item i s _ _ hg st fun v h' tk hv st' kk => ?_
    obtain ⟨t, rfl⟩ := hv
    have I1 : Inv X pins σ H { s with heap := h', toks := tk } := I.turned (fun b o hb e => kk b o (by simpa using hb) e) f0 f1 f3 f4 f5
    refine ⟨_, rfl, go_of (s := { s with heap := h', toks := tk }) (n := "range_iterator") st' rfl rfl (by decide) ⟨.int (lo + i), H, I1, ⟨t, ?_⟩, ⟨rfl, rfl⟩, st', fun b hb => (hf b hb).1⟩⟩
    rw [Int.mul_one]
  done := by
    intro X hP hw hK hc i pins s σ H E I hf st hg
    subst hP hw hK
    obtain ⟨f0, f1, f2, f3, f4, f5⟩ := hf it (by simp)
    exact wpAny_pyNext_range_end (I.ok.hd hc) st (by have : n ≤ i := hg; omega) fun h' eb => ⟨rfl, I.turned (t' := s.toks) (fun b o hb e => eb b o hb e) f0 f1 f3 f4 f5⟩
  self := fun _ _ _ _ _ st h => wpAny_pyIter_rangeiter st h
end L2
namespace L2
open PySem PySem.Spec PyProof.Rows
section
variable {X : Cx} {tg : Expr}
noncomputable def iList (K : PySem.W.Frag) (tl : TE) : TI := fun σ H R => tl σ H fun x H1 => ∃ a, x = .ref a ∧ (∃ xs, SqL K H1 a xs) ∧ R (Itl K a) H1
noncomputable def iTup (K : PySem.W.Frag) (tl : TE) : TI := fun σ H R => tl σ H fun x H1 => ∃ a, x = .ref a ∧ (∃ xs, SqT K H1 a xs) ∧ R (Itt K a) H1
theorem pi_list {l : Expr} {tl : TE} (hl : PE X l tl) : PI X tg l (iList X.K tl) := by
  intro pins s σ H R I h
  refine thn (hl pins s σ H _ I h) fun v s1 ⟨x, H1, I1, r1, q1⟩ => ?_
  obtain ⟨a, e, ⟨xs, hq⟩, q⟩ := q1
  subst e
  cases r1
  obtain ⟨its, rv, p, hz⟩ := I1.list hq
  refine wpAny_pyIter_list p.isList ?_
  refine ⟨s1.heap.objs.size, [s1.heap.objs.size], _, _, H1, rfl, I1.kept (t' := s1.toks) fun b o e => Heap.get?_push_of_some _ e, turn_list a _, ⟨_, Heap.get?_push_size _ rfl, rfl, rfl⟩, fun b hb => ?_, q⟩
  have e : b = s1.heap.objs.size := by simpa using hb
  subst e
  exact I1.fpOk (Nat.le_refl _) (I1.hok.fresh (Nat.le_refl _))
theorem pi_tup {l : Expr} {tl : TE} (hl : PE X l tl) : PI X tg l (iTup X.K tl) := by
  intro pins s σ H R I h
  refine thn (hl pins s σ H _ I h) fun v s1 ⟨x, H1, I1, r1, q1⟩ => ?_
  obtain ⟨a, e, ⟨xs, hq⟩, q⟩ := q1
  subst e
  cases r1
  obtain ⟨its, rv, p, hz⟩ := I1.tuple hq
  refine wpAny_pyIter_tuple (show s1.heap.IsTuple a its.toArray from p) ?_
  refine ⟨s1.heap.objs.size, [s1.heap.objs.size], _, _, H1, rfl, I1.kept (t' := s1.toks) fun b o e => Heap.get?_push_of_some _ e, turn_tuple a _, ⟨_, Heap.get?_push_size _ rfl, rfl, rfl⟩, fun b hb => ?_, q⟩
  have e : b = s1.heap.objs.size := by simpa using hb
  subst e
  exact I1.fpOk (Nat.le_refl _) (I1.hok.fresh (Nat.le_refl _))
theorem range_it {pins : List (Addr × Obj)} {σ : St} {H : Hp} {s : Shared} {R : It → Hp → Prop} {E : Value → Shared → Prop} {lo hi : Int} {t u v : Tok} {tk : Nat} (I : Inv X pins σ H s) (h1 : -(2 ^ 62) ≤ lo) (h2 : lo < 2 ^ 62) (h3 : -(2 ^ 62) ≤ hi) (h4 : hi < 2 ^ 62)
    (q : R (Itr lo (hi - lo).toNat) H) : wpAny (model X.prog X.w) X.A (pyIter (.ref s.heap.objs.size)) (PIE X pins σ tg R) E { s with heap := s.heap.push { cls := .type "range", data := .fields #[.int lo t, .int hi u, .int 1 v] }, toks := tk } := by
  refine wpAny_pyIter_range (IsRange.new ..) (small_one h1 h2 h3 h4) ?_
  have I1 : Inv X pins σ H { s with heap := s.heap.push { cls := .type "range", data := .fields #[.int lo t, .int hi u, .int 1 v] }, toks := tk } := I.kept fun b o e => Heap.get?_push_of_some _ e
  refine ⟨(s.heap.push { cls := .type "range", data := .fields #[.int lo t, .int hi u, .int 1 v] }).objs.size, [(s.heap.push { cls := .type "range", data := .fields #[.int lo t, .int hi u, .int 1 v] }).objs.size], _, _, H, rfl,
    I1.kept (t' := tk) fun b o e => Heap.get?_push_of_some _ e, turn_range _ lo (hi - lo).toNat, ?_, fun b hb => ?_, q⟩
  · have e1 : lo + ((0 : Nat) : Int) * 1 = lo := by simp
    have e2 : (((hi - lo).toNat : Nat) : Int) - ((0 : Nat) : Int) = Builtin.Range.rangeSize lo hi 1 := by rw [rangeSize_one]; split <;> omega
    show IsRangeIter _ _ (lo + ((0 : Nat) : Int) * 1) ((((hi - lo).toNat : Nat) : Int) - ((0 : Nat) : Int)) 1
    rw [e1, e2]
    exact Heap.get?_push_size _ rfl
  · have e : b = (s.heap.push { cls := .type "range", data := .fields #[.int lo t, .int hi u, .int 1 v] }).objs.size := by simpa using hb
    subst e
    exact I1.fpOk (Nat.le_refl _) (I1.hok.fresh (Nat.le_refl _))
noncomputable def iRng1 (ta : TA) : TI := fun σ H R => ta σ H fun vs H1 => ∃ j : Int, vs = [.int j] ∧ -(2 ^ 62) ≤ j ∧ j < 2 ^ 62 ∧ R (Itr 0 j.toNat) H1
noncomputable def iRng2 (ta : TA) : TI := fun σ H R => ta σ H fun vs H1 => ∃ i j : Int, vs = [.int i, .int j] ∧ (-(2 ^ 62) ≤ i ∧ i < 2 ^ 62 ∧ -(2 ^ 62) ≤ j ∧ j < 2 ^ 62) ∧ R (Itr i (j - i).toNat) H1
theorem pi_range1 {a : Expr} {ta : TA} {p pos : Pos} (hg : Gl X "range") (hm : X.mg "range" = none) (ha : PA X [a] ta) (hs : starEach [a] X.env = [(false, eval a X.env)] := by rfl) : PI X tg (.Call (.Name "range" p) [a] [] pos) (iRng1 ta) := by
  intro pins s σ H R I h
  refine Call_ (ld_blt I hg hm boot_range (PyProof.Rows.callWith_type1 (thn (ha pos pins s σ H _ I h) fun us s1 ⟨vs, H1, I1, r1, q1⟩ => ?_) hs rfl))
  obtain ⟨j, e, q1, q2, q⟩ := q1
  subst e
  cases r1 with
  | cons r rr =>
    cases rr
    obtain ⟨t, rfl⟩ := r
    exact call_range_1 (range_it I1 (by omega) (by omega) q1 q2 (by simpa using q))
theorem pi_range2 {a b : Expr} {ta : TA} {p pos : Pos} (hg : Gl X "range") (hm : X.mg "range" = none) (ha : PA X [a, b] ta) (hs : starEach [a, b] X.env = [(false, eval a X.env), (false, eval b X.env)] := by rfl) (hs2 : starEach [b] X.env = [(false, eval b X.env)] := by rfl) :
    PI X tg (.Call (.Name "range" p) [a, b] [] pos) (iRng2 ta) := by
  intro pins s σ H R I h
  refine Call_ (ld_blt I hg hm boot_range (PyProof.Rows.callWith_type1 (thn (ha pos pins s σ H _ I h) fun us s1 ⟨vs, H1, I1, r1, q1⟩ => ?_) (by rw [hs, hs2]) (by rw [hs2]; rfl)))
  obtain ⟨i, j, e, ⟨q1, q2, q3, q4⟩, q⟩ := q1
  subst e
  cases r1 with
  | cons r rr =>
    cases rr with
    | cons r' rr =>
      cases rr
      obtain ⟨t, rfl⟩ := r
      obtain ⟨t', rfl⟩ := r'
      exact call_range_2 (range_it I1 q1 q2 q3 q4 q)
noncomputable def tFor (wi : TI) (g : TG) (tb : TS) : TS := fun D σ H => wi σ H fun J H1 => ∃ W : Nat → Nat → St → Hp → Prop, (∃ m, W 0 m σ H1) ∧ ∀ i m σ H, W i m σ H →
  (J.stop i H ∧ D.nx σ H) ∨ (J.go i H ∧ ∃ N : St → Hp → Prop, (∀ σ' H', N σ' H' → ∃ m', m' < m ∧ W (i + 1) m' σ' H') ∧ ∀ x H', J.yld i H x H' → g x σ H' fun σ2 H2 => tb { D with nx := N, ct := N, bk := D.nx } σ2 H2)
noncomputable def pinsAt (fp : List Addr) (h : Heap) : List (Addr × Obj) := fp.filterMap fun b => (h.get? b).map fun o => (b, o)
theorem mem_pinsAt {fp : List Addr} {h : Heap} {b : Addr} {o : Obj} (hb : b ∈ fp) (e : h.get? b = some o) : (b, o) ∈ pinsAt fp h := List.mem_filterMap.mpr ⟨b, hb, by rw [e]; rfl⟩
theorem of_pinsAt {fp : List Addr} {h : Heap} {p : Addr × Obj} (hp : p ∈ pinsAt fp h) : p.1 ∈ fp ∧ h.get? p.1 = some p.2 := by
  obtain ⟨b, hb, e⟩ := List.mem_filterMap.mp hp
  cases q : h.get? b with
  | none => rw [q] at e; cases e
  | some o =>
    rw [q] at e
    have e' : (b, o) = p := Option.some.inj e
    subst e'
    exact ⟨hb, q⟩
theorem Inv.pinned {pins : List (Addr × Obj)} {σ : St} {H : Hp} {s : Shared} {fp : List Addr} (I : Inv X pins σ H s) (hf : ∀ b ∈ fp, FpOk X pins H b) (ho : ∀ b ∈ fp, ∃ o, s.heap.get? b = some o ∧ ∀ v, o.data ≠ .cell v) : Inv X (pins ++ pinsAt fp s.heap) σ H s :=
  I.pins_of fun p hp => (List.mem_append.mp hp).elim (fun z => I.pin p (List.mem_append_right _ z)) fun z => by
    obtain ⟨hb, e⟩ := of_pinsAt z
    obtain ⟨f0, f1, f2, _⟩ := hf p.1 hb
    obtain ⟨o, e', d⟩ := ho p.1 hb
    rw [e] at e'; cases e'
    exact ⟨e, f0, f1, f2, d⟩
theorem Inv.unpinned {pins pl : List (Addr × Obj)} {σ : St} {H : Hp} {s : Shared} (I : Inv X (pins ++ pl) σ H s) : Inv X pins σ H s := I.pins_of fun p hp => I.pin p (List.mem_append_right _ (List.mem_append_left _ hp))
theorem ps_for {iter : Expr} {body : List Stmt} {wi : TI} {g : TG} {tb : TS} {pos : Pos} (hp : PassesOwn (model X.prog X.w) X.A X.env X.xe) (hc : X.calm = true) (hi : PI X tg iter wi) (hg : PG X tg g) (hb : PSs X body tb)
    (hs : ∀ x, foldedSetIterable iter X.env x = pure x := by intro _; rfl) : PS X (.For tg iter body [] pos) (tFor wi g tb) := by
  intro pins s σ H D I h
  refine wpAny_For (thn (hi pins s σ H _ I h) fun v s1 h1 => thn h1 fun itv s2 h2 => ?_) hs
  obtain ⟨it, fp, tn, J, H2, e, I2, T, st2, f2, W, ⟨m0, w0⟩, turn⟩ := h2
  subst e
  -- what stays true of the iterator's objects through the loop
  have stat : ∀ {H' : Hp}, (∀ b ∈ fp, H' b = none) → ∀ b ∈ fp, FpOk X pins H' b := fun hn b hb => ⟨hn b hb, (f2 b hb).2⟩
  refine codeAny_forLoop_any (fun n s' => ∃ i σ' H', Inv X pins σ' H' s' ∧ tn i s'.heap ∧ (∀ b ∈ fp, H' b = none) ∧ W i n σ' H') ?_ m0 ⟨0, σ, H2, I2, st2, fun b hb => (f2 b hb).1, w0⟩
  rintro n s3 ⟨i, σ3, H3, I3, st3, fr3, w3⟩
  rcases turn i n σ3 H3 w3 with ⟨stop, qn⟩ | ⟨go, N, hN, step⟩
  · refine wpAny_passesOwn hp (thn (T.done X rfl rfl rfl hc i pins s3 σ3 H3 X.xe I3 (stat fr3) st3 stop) fun r s4 ⟨hr, I4⟩ => ?_)
    subst hr
    exact wpAny_execs_nil ⟨σ3, H3, I4, qn⟩
  · refine wpAny_passesOwn hp (thn (T.item X rfl rfl rfl hc i pins s3 σ3 H3 X.xe I3 (stat fr3) st3 go) fun r s4 ⟨u, hr, h4⟩ => ?_)
    subst hr
    refine wpAny_passesOwn hp (thn h4 fun _ s5 ⟨x, H5, I5, r5, y5, st5, fr5⟩ => ?_)
    have I5' := I5.pinned (stat fr5) (T.obj _ _ st5)
    refine wpAny_passesOwn hp (thn (hg _ s5 σ3 H5 x u _ I5' r5 (step x H5 y5)) fun _ s6 ⟨σ6, H6, I6, q6⟩ => ?_)
    refine wpAny_passesOwn hp (thn (hb _ s6 σ6 H6 _ I6 q6) fun f s7 q7 => ?_)
    have again : ∀ {σ7 : St} {H7 : Hp}, Inv X (pins ++ pinsAt fp s5.heap) σ7 H7 s7 → N σ7 H7 → ∃ m, m < n ∧ ∃ i σ' H', Inv X pins σ' H' s7 ∧ tn i s7.heap ∧ (∀ b ∈ fp, H' b = none) ∧ W i m σ' H' := fun {σ7 H7} I7 n7 => by
      obtain ⟨m', hm, w7⟩ := hN σ7 H7 n7
      refine ⟨m', hm, i + 1, σ7, H7, I7.unpinned, T.keep _ _ _ st5 fun b hb o e => (I7.pin (b, o) (List.mem_append_right _ (List.mem_append_right _ (mem_pinsAt hb e)))).1, fun b hb => ?_, w7⟩
      obtain ⟨o, e, d⟩ := T.obj _ _ st5 b hb
      exact (I7.pin (b, o) (List.mem_append_right _ (List.mem_append_right _ (mem_pinsAt hb e)))).2.1
    cases f with
    | next => obtain ⟨σ7, H7, I7, n7⟩ := q7; exact again I7 n7
    | cont => obtain ⟨σ7, H7, I7, n7⟩ := q7; exact again I7 n7
    | brk => obtain ⟨σ7, H7, I7, q7⟩ := q7; exact ⟨σ7, H7, I7.unpinned, q7⟩
    | ret v => obtain ⟨x7, σ7, H7, I7, r7, q7⟩ := q7; exact ⟨x7, σ7, H7, I7.unpinned, r7, q7⟩
end
end L2
namespace L2
open PySem PySem.Spec PyProof.Rows
noncomputable abbrev R2 := V → V → Hp → VK → Prop
noncomputable def OpR (X : Cx) (f : Value → Value → Sem Value) (r : R2) : Prop :=
  ∀ (pins : List (Addr × Obj)) (s : Shared) (σ : St) (H : Hp) (x y : V) (v u : Value) (Q : VK), Inv X pins σ H s → RelV x v → RelV y u → r x y H Q →
    wpAny (model X.prog X.w) X.A (f v u) (EP X pins σ Q) X.xe s
noncomputable def UnR (X : Cx) (f : Value → Sem Value) (r : V → Hp → VK → Prop) : Prop :=
  ∀ (pins : List (Addr × Obj)) (s : Shared) (σ : St) (H : Hp) (x : V) (v : Value) (Q : VK), Inv X pins σ H s → RelV x v → r x H Q →
    wpAny (model X.prog X.w) X.A (f v) (EP X pins σ Q) X.xe s
noncomputable def CallR (X : Cx) (f : Value) (r : List V → Hp → VK → Prop) : Prop :=
  ∀ (pins : List (Addr × Obj)) (s : Shared) (σ : St) (H : Hp) (xs : List V) (us : List Value) (Q : VK), Inv X pins σ H s → Vals xs us → r xs H Q →
    wpAny (model X.prog X.w) X.A (call f us) (EP X pins σ Q) X.xe s
noncomputable def tOp (r : R2) (ta tb : TE) : TE := fun σ H Q => ta σ H fun x H1 => tb σ H1 fun y H2 => r x y H2 Q
noncomputable def tUn (r : V → Hp → VK → Prop) (ta : TE) : TE := fun σ H Q => ta σ H fun x H1 => r x H1 Q
noncomputable def rI (C : Int → Int → Prop) (g : Int → Int → V) : R2 := fun x y H Q => ∃ i j, x = .int i ∧ y = .int j ∧ C i j ∧ Q (g i j) H
noncomputable def rI0 (g : Int → Int → V) : R2 := fun x y H Q => ∃ i j, x = .int i ∧ y = .int j ∧ Q (g i j) H
noncomputable def rU (g : Int → V) : V → Hp → VK → Prop := fun x H Q => ∃ i, x = .int i ∧ Q (g i) H
section
variable {X : Cx} {a b c : Expr} {ta tb tc : TE} {pos : Pos}
theorem binT (ha : PE X a ta) (hb : PE X b tb) {pins : List (Addr × Obj)} {s : Shared} {σ : St} {H : Hp} {R : V → V → Hp → Prop} (I : Inv X pins σ H s)
    (h : ta σ H fun x H1 => tb σ H1 fun y H2 => R x y H2) {Q : Value → Shared → Prop} {f : Value → Value → Sem Value}
    (hf : ∀ v u s2 x y H2, Inv X pins σ H2 s2 → RelV x v → RelV y u → R x y H2 → wpAny (model X.prog X.w) X.A (f v u) Q X.xe s2) :
    wpAny (model X.prog X.w) X.A (eval a X.env) (fun v s₁ => wpAny (model X.prog X.w) X.A (eval b X.env) (fun u s₂ => wpAny (model X.prog X.w) X.A (f v u) Q X.xe s₂) X.xe s₁) X.xe s := by
  refine thn (ha pins s σ H _ I h) fun v s1 ⟨x, H1, I1, r1, q1⟩ => ?_
  refine thn (hb pins s1 σ H1 _ I1 q1) fun u s2 ⟨y, H2, I2, r2, q2⟩ => ?_
  exact hf v u s2 x y H2 I2 r1 r2 q2
theorem pe_op {op : Operator} {r : R2} (ho : OpR X (binaryOp op) r) (ha : PE X a ta) (hb : PE X b tb) : PE X (.BinOp a op b pos) (tOp r ta tb) := by
  intro pins s σ H Q I h
  exact wpAny_BinOp (binT ha hb I h fun v u s2 x y H2 I2 rx ry q => ho pins s2 σ H2 x y v u Q I2 rx ry q)
theorem pe_un {op : UnaryOp} {r : V → Hp → VK → Prop} (ho : UnR X (unaryOp op) r) (ha : PE X a ta) : PE X (.UnaryOp op a pos) (tUn r ta) := by
  intro pins s σ H Q I h
  exact UnaryOp_ (thn (ha pins s σ H _ I h) fun v s1 ⟨x, H1, I1, r1, q1⟩ => ho pins s1 σ H1 x v Q I1 r1 q1)
theorem opI {f : Value → Value → Sem Value} {C : Int → Int → Prop} {g : Int → Int → Int}
    (rule : ∀ (i j : Int) (t u : Tok) (s : Shared) (Q : Value → Shared → Prop) (E : Value → Shared → Prop), C i j → Q (.int (g i j) s.toks) { s with toks := s.toks + 1 } → wpAny (model X.prog X.w) X.A (f (.int i t) (.int j u)) Q E s) :
    OpR X f (rI C fun i j => .int (g i j)) := by
  intro pins s σ H x y v u Q I rx ry h
  obtain ⟨i, j, rfl, rfl, hc, q⟩ := h
  obtain ⟨t, rfl⟩ := rx
  obtain ⟨t', rfl⟩ := ry
  exact rule i j t t' s _ _ hc ⟨.int (g i j), H, I.tok _, ⟨_, rfl⟩, q⟩
theorem opI0 {f : Value → Value → Sem Value} {g : Int → Int → Int}
    (rule : ∀ (i j : Int) (t u : Tok) (s : Shared) (Q : Value → Shared → Prop) (E : Value → Shared → Prop), Q (.int (g i j) s.toks) { s with toks := s.toks + 1 } → wpAny (model X.prog X.w) X.A (f (.int i t) (.int j u)) Q E s) :
    OpR X f (rI0 fun i j => .int (g i j)) := by
  intro pins s σ H x y v u Q I rx ry h
  obtain ⟨i, j, rfl, rfl, q⟩ := h
  obtain ⟨t, rfl⟩ := rx
  obtain ⟨t', rfl⟩ := ry
  exact rule i j t t' s _ _ ⟨.int (g i j), H, I.tok _, ⟨_, rfl⟩, q⟩
theorem opB0 {f : Value → Value → Sem Value} {g : Int → Int → Bool}
    (rule : ∀ (i j : Int) (t u : Tok) (s : Shared) (Q : Value → Shared → Prop) (E : Value → Shared → Prop), Q (.bool (g i j)) s → wpAny (model X.prog X.w) X.A (f (.int i t) (.int j u)) Q E s) :
    OpR X f (rI0 fun i j => .bl (g i j)) := by
  intro pins s σ H x y v u Q I rx ry h
  obtain ⟨i, j, rfl, rfl, q⟩ := h
  obtain ⟨t, rfl⟩ := rx
  obtain ⟨t', rfl⟩ := ry
  exact rule i j t t' s _ _ ⟨.bl (g i j), H, I, rfl, q⟩
noncomputable def CPow (i j : Int) : Prop := 0 ≤ j ∧ j ≤ 1000000 ∧ i.natAbs < 2 ^ 64
noncomputable def CMul (i j : Int) : Prop := (-(2 ^ 64) < i ∧ i < 2 ^ 64) ∨ (-(2 ^ 64) < j ∧ j < 2 ^ 64)
theorem CMul.ok {i j : Int} (h : CMul i j) : IntMulOk i j := by
  rcases h with ⟨h1, h2⟩ | ⟨h1, h2⟩
  · exact .of_left (intBits_le_64 h1 h2)
  · exact .of_right (intBits_le_64 h1 h2)
theorem op_add : OpR X (binaryOp .Add) (rI0 fun i j => .int (i + j)) := opI0 fun _ _ _ _ _ _ _ q => add_int q
theorem op_sub : OpR X (binaryOp .Sub) (rI0 fun i j => .int (i - j)) := opI0 fun _ _ _ _ _ _ _ q => sub_int q
theorem op_mul : OpR X (binaryOp .Mult) (rI CMul fun i j => .int (i * j)) := opI fun _ _ _ _ _ _ _ hc q => mul_int q hc.ok
theorem op_mod : OpR X (binaryOp .Mod) (rI (fun _ j => 0 < j) fun i j => .int (i % j)) := opI fun i j _ _ _ _ _ hc q => by
  have h1 : (0 : Int) < j := hc
  exact mod_int' (by omega) (by rw [Int.fmod_eq_emod_of_nonneg i (by omega)]; exact q)
theorem op_pow : OpR X (binaryOp .Pow) (rI CPow fun i j => .int (i ^ j.toNat)) := opI fun _ _ _ _ _ _ _ hc q => pow_int_small hc.1 hc.2.1 hc.2.2 q
theorem unI {f : Value → Sem Value} {g : Int → Int}
    (rule : ∀ (i : Int) (t : Tok) (s : Shared) (Q : Value → Shared → Prop) (E : Value → Shared → Prop), Q (.int (g i) s.toks) { s with toks := s.toks + 1 } → wpAny (model X.prog X.w) X.A (f (.int i t)) Q E s) :
    UnR X f (rU fun i => .int (g i)) := by
  intro pins s σ H x v Q I rx h
  obtain ⟨i, rfl, q⟩ := h
  obtain ⟨t, rfl⟩ := rx
  exact rule i t s _ _ ⟨.int (g i), H, I.tok _, ⟨_, rfl⟩, q⟩
theorem un_neg : UnR X (unaryOp .USub) (rU fun i => .int (-i)) := unI fun _ _ _ _ _ q => neg_int q
end
section
variable {X : Cx} {a b c : Expr} {ta tb tc : TE} {pos : Pos}
theorem fin_bl {pins : List (Addr × Obj)} {σ : St} {H : Hp} {s : Shared} {Q : VK} {k k' : Bool} (I : Inv X pins σ H s) (q : Q (.bl k) H) (e : k = k') : EP X pins σ Q (.bool k') s := by
  subst e
  exact ⟨.bl k, H, I, rfl, q⟩
theorem op_lt : OpR X (compareOp .Lt) (rI0 fun i j => .bl (decide (i < j))) := opB0 fun _ _ _ _ _ _ _ q => lt_int q
theorem op_le : OpR X (compareOp .LtE) (rI0 fun i j => .bl (decide (i ≤ j))) := opB0 fun _ _ _ _ _ _ _ q => le_int q
theorem op_gt : OpR X (compareOp .Gt) (rI0 fun i j => .bl (decide (j < i))) := opB0 fun _ _ _ _ _ _ _ q => gt_int q
theorem op_ge : OpR X (compareOp .GtE) (rI0 fun i j => .bl (decide (j ≤ i))) := opB0 fun _ _ _ _ _ _ _ q => ge_int q
theorem op_isN : OpR X (compareOp .Is) (fun x y H Q => y = .non ∧ Q (.bl (decide (x = .non))) H) := by
  intro pins s σ H x y v u Q I rx ry h
  obtain ⟨rfl, q⟩ := h
  cases ry
  refine is_none_gen (fin_bl I q ?_)
  cases x <;> first
    | (cases rx; rfl)
    | (obtain ⟨t, rfl⟩ := rx; rfl)
theorem nomark (b : Expr) {op : CmpOp} (h : op ≠ .In := by decide) (h2 : op ≠ .NotIn := by decide) : behindInMarks op b = false := by
  have e1 : (op == CmpOp.In) = false := by cases op <;> first | rfl | exact absurd rfl h
  have e2 : (op == CmpOp.NotIn) = false := by cases op <;> first | rfl | exact absurd rfl h2
  cases b <;> simp [behindInMarks, e1, e2]
theorem pe_cmpR {op : CmpOp} {r : R2} (ho : OpR X (compareOp op) r) (ha : PE X a ta) (hb : PE X b tb) (hm : behindInMarks op b = false) : PE X (.Compare a [op] [b] pos) (tOp r ta tb) := by
  intro pins s σ H Q I h
  exact wpAny_Compare1 (binT ha hb I h fun v u s2 x y H2 I2 rx ry q => ho pins s2 σ H2 x y v u Q I2 rx ry q) hm
noncomputable def tTest (t : TE) : TT := fun σ H Q => t σ H fun x H' => ∃ k, x = .bl k ∧ Q k H'
theorem pt_cmpR {op : CmpOp} {r : R2} (ho : OpR X (compareOp op) r) (ha : PE X a ta) (hb : PE X b tb) (hm : behindInMarks op b = false) : PT X (.Compare a [op] [b] pos) (tTest (tOp r ta tb)) := by
  intro pins s σ H Q I h
  refine wpAny_isTrue_Compare1 (thn (ha pins s σ H _ I h) fun v s1 ⟨x, H1, I1, r1, q1⟩ => thn (hb pins s1 σ H1 _ I1 q1) fun u s2 ⟨y, H2, I2, r2, q2⟩ =>
    thn (ho pins s2 σ H2 x y v u _ I2 r1 r2 q2) fun c s3 ⟨z, H3, I3, r3, k, e, q3⟩ => ?_) hm
  subst e
  cases r3
  exact wpAny_truthy_bool ⟨H3, I3, q3⟩
theorem line63 : (sizeLine : Nat) < 2 ^ 63 := by rw [sizeLine_eq]; decide
theorem vals1 {x : V} {us : List Value} (r : Vals [x] us) : ∃ u, us = [u] ∧ RelV x u := by
  cases r with
  | cons r1 r2 => cases r2; exact ⟨_, rfl, r1⟩
end
end L2
namespace L2
open PySem PySem.Spec PyProof.Rows
section
variable {prog : Program} {w : World} {A : Around} {E : Value → Shared → Prop} {s : Shared} {K : PySem.W.Frag} {x dx C f : Addr} {mA : Str → Option Value} {name : Str} {v : Value}
end
section
variable {P : Program} {w : World} {H H' : Hp} {h h' : Heap} {a C dx : Addr} {fs fs' : List (Str × V)}
end
section
variable {X : Cx} {pins : List (Addr × Obj)} {σ : St} {H : Hp} {s : Shared} {a C dx : Addr} {fs : List (Str × V)} {f : Str} {v : V} {A : Around} {E : Value → Shared → Prop}
end
section
variable {X : Cx} {o e value : Expr} {f : Str} {pos pos' tpos : Pos} {ta tv : TE}
end
section
variable {X : Cx} {pins : List (Addr × Obj)} {σ : St} {H : Hp} {s : Shared} {A : Around} {E : Value → Shared → Prop} {Q : Value → Shared → Prop} {c : Value} {b : Bool}
end
end L2
namespace L2
open PySem PySem.Spec PyProof.Rows
structure Room (k : Nat) (A : Around) : Prop where
  hd : A.handled = none
  dp : A.depth + 3 * k + 5 < recursionLimit
  un : A.units + 16 * k + 200 < cLine
  gd : A.guards = some []
theorem Room.mono {j k : Nat} {A : Around} (r : Room k A) (h : j ≤ k) : Room j A := ⟨r.hd, by have := r.dp; omega, by have := r.un; omega, r.gd⟩
theorem Room.deeper {k : Nat} {A : Around} (r : Room (k + 1) A) (env : Env) : Room k (A.deeper env) :=
  ⟨r.hd, by have := r.dp; show A.depth + 1 + 3 * k + 5 < _; omega, by have := r.un; show A.units + 3 + 16 * k + 200 < _; omega, r.gd⟩
theorem Room.depth {k : Nat} {A : Around} (r : Room k A) : A.depth < recursionLimit := by have := r.dp; omega
theorem Room.units {k : Nat} {A : Around} (r : Room k A) : A.units + 64 < cLine := by have := r.un; omega
noncomputable def tNil : TA := fun _ H Q => Q [] H
noncomputable def tCons (ta : TE) (tr : TA) : TA := fun σ H Q => ta σ H fun x H1 => tr σ H1 fun xs H2 => Q (x :: xs) H2
section
variable {X : Cx} {e : Expr} {es : List Expr} {te : TE} {t : TA} {pos : Pos}
theorem pa_nil : PA X [] tNil := fun _ _ _ _ H Q I h => Calls.spliced_nil ⟨[], H, I, .nil, h⟩
theorem pa_cons (ha : PE X e te) (hr : PA X es t) (hs : starEach (e :: es) X.env = (false, eval e X.env) :: starEach es X.env := by rfl) : PA X (e :: es) (tCons te t) := by
  intro pos pins s σ H Q I h
  rw [hs]
  show wpAny _ _ (spliced ((false, eval e X.env) :: backTo pos (starEach es X.env))) _ _ s
  refine Calls.spliced_cons (thn (ha pins s σ H _ I h) fun u s1 ⟨x, H1, I1, r1, q1⟩ => ?_)
  exact thn (hr pos pins s1 σ H1 _ I1 q1) fun us s2 ⟨xs, H2, I2, r2, q2⟩ => ⟨x :: xs, H2, I2, .cons r1 r2, q2⟩
noncomputable def tTup (t : TA) : TE := fun σ H Q => t σ H fun xs H1 => xs.length ≤ sizeLine ∧ ∀ p, H1 p = none → Q (.ref p) (upd H1 p (.tup xs))
noncomputable def tLst (t : TA) : TE := fun σ H Q => t σ H fun xs H1 => xs.length ≤ sizeLine ∧ ∀ p, H1 p = none → Q (.ref p) (upd H1 p (.lst xs))
theorem pe_tup {x1} (h : PA X es t) : PE X (.Tuple es x1 pos) (tTup t) := by
  intro pins s σ H Q I hq
  refine wpAny_Tuple_spliced (thn (h pos pins s σ H _ I hq) fun us s1 ⟨xs, H1, I1, r, z, q⟩ => ⟨by rw [← r.length]; exact z, ?_⟩)
  have hf : H1 s1.heap.objs.size = none := I1.hok.fresh (Nat.le_refl _)
  refine ⟨.ref s1.heap.objs.size, upd H1 s1.heap.objs.size (.tup xs), I1.laid (t' := s1.toks) (fun b u e => Heap.get?_push_of_some _ e) (Nat.le_refl _) ?_, rfl, q _ hf⟩
  exact ⟨z, us, r, ⟨_, Heap.get?_push_size _ rfl, rfl, _, rfl⟩⟩
theorem pe_lst (h : PA X es t) : PE X (.List es pos) (tLst t) := by
  intro pins s σ H Q I hq
  refine wpAny_List_spliced (thn (h pos pins s σ H _ I hq) fun us s1 ⟨xs, H1, I1, r, z, q⟩ => ⟨by rw [← r.length]; exact z, ?_⟩)
  have hf : H1 s1.heap.objs.size = none := I1.hok.fresh (Nat.le_refl _)
  refine ⟨.ref s1.heap.objs.size, upd H1 s1.heap.objs.size (.lst xs), I1.laid (t' := s1.toks) (fun b u e => Heap.get?_push_of_some _ e) (Nat.le_refl _) ?_, rfl, q _ hf⟩
  exact ⟨z, us, 0, r, Heap.get?_push_size _ rfl⟩
end
noncomputable abbrev Sp := List V → Hp → VK → XK → Prop
noncomputable abbrev CXT := List Env → Hp → Shared → XK → Value → Shared → Prop
structure Env0 (P : Program) (w : World) (K : PySem.W.Frag) (mg : Str → Option Value) (base : Heap) (A : Around) (outer : List Env) (s : Shared) (H : Hp) : Prop where
  frames : A.frames = some outer
  mod : Mod K mg base
  bs : ∀ b o, base.get? b = some o → s.heap.get? b = some o ∧ H b = none
  bsz : base.objs.size ≤ s.heap.objs.size
  funs : s.heap.FunFrames base outer
  frf : ∀ b ∈ frs outer, H b = none
  hok : HOk P w H s.heap
  bare : AllBare s.gens
noncomputable def CE (outer : List Env) (P : Program) (w : World) (H : Hp) (s : Shared) (Q : VK) (u : Value) (s' : Shared) : Prop :=
  ∃ v H', s'.os = s.os ∧ AllBare s'.gens ∧ Un (frs outer) [] H H' s.heap s'.heap ∧ HOk P w H' s'.heap ∧ RelV v u ∧ Q v H'
noncomputable def CR (CX : CXT) (outer : List Env) (P : Program) (w : World) (H : Hp) (s : Shared) (Q : VK) (E : XK) (r : Result) (s' : Shared) : Prop :=
  match r with
  | .ok (.ret u) => CE outer P w H s Q u s'
  | .ok _ => False
  | .error e => CX outer H s E e s'
structure FnOk (P : Program) (w : World) (K : PySem.W.Frag) (mg : Str → Option Value) (base : Heap) (CX : CXT) (k : Nat) (f : Addr) (fd : FuncData) (ps : List Str) (sp : Sp) : Prop where
  len : ∀ vs H Q E, sp vs H Q E → vs.length = ps.length
  run : ∀ (A : Around) (outer : List Env) (s : Shared) (H : Hp) (args : Args) (us : List Value) (vs : List V) (Q : VK) (E : XK), Room k A → Env0 P w K mg base A outer s H → BindsTo s fd args (ps.zip us) → Vals vs us → sp vs H Q E →
    codeAny (model P w) A (.call (.ref f) args) (CR CX outer P w H s Q E) s
theorem FnOk.imp {P : Program} {w : World} {K : PySem.W.Frag} {mg : Str → Option Value} {base : Heap} {CX : CXT} {k : Nat} {f : Addr} {fd : FuncData} {ps : List Str} {sp sp' : Sp} (F : FnOk P w K mg base CX k f fd ps sp)
    (h : ∀ vs H Q E, sp' vs H Q E → sp vs H Q E) : FnOk P w K mg base CX k f fd ps sp' :=
  ⟨fun vs H Q E q => F.len vs H Q E (h _ _ _ _ q), fun A outer s H args us vs Q E hr he hb hv hs => F.run A outer s H args us vs Q E hr he hb hv (h _ _ _ _ hs)⟩
section
variable {X : Cx} {pins : List (Addr × Obj)} {σ : St} {H : Hp} {s s' : Shared}
theorem Inv.env0 (I : Inv X pins σ H s) : Env0 X.prog X.w X.K X.mg X.base X.A X.stack s H :=
  ⟨I.ok.frames, I.ok.mod, I.bs, Nat.le_trans I.ok.bsz I.sz, I.stack, I.stkFree, I.hok, I.bare⟩
theorem Inv.after {Q : VK} {u : Value} (I : Inv X pins σ H s) (h : CE X.stack X.prog X.w H s Q u s') : EP X pins σ Q u s' := by
  obtain ⟨v, H', os, bare, un, hok, r, q⟩ := h
  obtain ⟨hh, g, d, t, os'⟩ := s'
  obtain rfl : os' = s.os := os
  exact ⟨v, H', I.call (h' := hh) (g' := g) (d' := d) (t' := t) (ch := []) un hok bare (fun b z => absurd z (by simp)), r, q⟩
end
noncomputable def tCall (sp : Sp) (dvs : List V) (E : XK) (t : TA) : TE := fun σ H Q => t σ H fun vs H1 => sp (vs ++ dvs) H1 Q E
noncomputable def Binds (K : PySem.W.Frag) (fd : FuncData) (ps : List Str) (ds : List Value) : Prop :=
  ∀ (s : Shared) (us : List Value), K.In s.heap → (us ++ ds).length = ps.length → BindsTo s fd ⟨us, []⟩ (ps.zip (us ++ ds))
theorem Binds.all {K : PySem.W.Frag} {fd : FuncData} {ps : List Str} (h : ∀ us : List Value, us.length = ps.length → bindArgs fd ⟨us, []⟩ = pure (ps.zip us)) : Binds K fd ps [] := fun s us _ hl => by
  rw [List.append_nil] at hl ⊢
  exact .of_eq (h us hl)
noncomputable def Passes (CX : CXT) (X : Cx) (E : XK) : Prop := ∀ (pins : List (Addr × Obj)) (σ : St) (H : Hp) (s : Shared) (e : Value) (s' : Shared), Inv X pins σ H s → CX X.stack H s E e s' → X.xe e s'
section
variable {X : Cx} {CX : CXT} {k : Nat} {f C : Addr} {fd : FuncData} {ps : List Str} {sp : Sp} {dvs : List V} {ds : List Value} {E : XK} {x m : Str} {p pos apos : Pos} {e o : Expr} {es : List Expr} {ta : TE} {t : TA}
theorem run_fn {pins : List (Addr × Obj)} {σ : St} {H : Hp} {s : Shared} {Q : VK} {us : List Value} {vs : List V} (F : FnOk X.prog X.w X.K X.mg X.base CX k f fd ps sp) (hr : Room k X.A) (hb : Binds X.K fd ps ds) (hd : Vals dvs ds) (hx : Passes CX X E)
    (I : Inv X pins σ H s) (r : Vals vs us) (h : sp (vs ++ dvs) H Q E) : wpAny (model X.prog X.w) X.A (call (.ref f) us) (EP X pins σ Q) X.xe s := by
  have r2 : Vals (vs ++ dvs) (us ++ ds) := r.append hd
  have hl : (us ++ ds).length = ps.length := by rw [← r2.length]; exact F.len _ _ _ _ h
  refine wpAny_call (codeAny_mono (F.run X.A X.stack s H ⟨us, []⟩ (us ++ ds) (vs ++ dvs) Q E hr I.env0 (hb s us I.kIn hl) r2 h) fun r s' hq => ?_)
  cases r with
  | error e => exact hx pins σ H s e s' I hq
  | ok fl =>
    cases fl with
    | ret u => exact I.after hq
    | next => exact False.elim hq
    | brk => exact False.elim hq
    | cont => exact False.elim hq
theorem pe_call (F : FnOk X.prog X.w X.K X.mg X.base CX k f fd ps sp) (hr : Room k X.A) (hg : Gl X x) (hm : X.mg x = some (.ref f)) (hk : PySem.W.keepIn X.K (.ref f) = true) (hb : Binds X.K fd ps ds) (hd : Vals dvs ds) (hx : Passes CX X E)
    (ha : PA X (e :: es) t) (hdb : (x == ("__debug__" : Str)) = false := by decide) (he : starEach (e :: es) X.env = (false, eval e X.env) :: starEach es X.env := by rfl) (hpl : (backTo pos (starEach es X.env)).any (·.1) = false := by rfl) :
    PE X (.Call (.Name x p) (e :: es) [] pos) (tCall sp dvs E t) := by
  intro pins s σ H Q I h
  refine wpAny_Call_Name_kw (ld_glob I hg hm ?_ hdb)
  refine PySem.W.callWith_K (h₀ := X.base) I.ok.mod.kin hk (thn (ha pos pins s σ H _ I h) fun us s1 ⟨vs, H1, I1, r, q⟩ => ⟨I1.kIn, ?_⟩) he hpl
  exact run_fn F hr hb hd hx I1 r q
end
section
variable {X : Cx} {CX : CXT} {k : Nat} {f C : Addr} {fd : FuncData} {ps ks : List Str} {sp : Sp} {E : XK} {x m : Str} {p pos apos kpos : Pos} {e o : Expr} {es : List Expr} {kws : List Keyword} {te ta : TE} {t tk : TA} {nm : Option Str}
variable {g : List Value → List Value → List Value} {gV : List V → List V → List V}
end
structure FnScope (N P : List Str) (sc : Scope) : Prop where
  kind : sc.kind = .function
  co : sc.isCoroutine = false
  gen : sc.isGenerator = false
  nd : N.Nodup
  pre : N.take P.length = P
  par : ∀ x ∈ P, sc.names.lookup x = some .local ∨ sc.names.lookup x = some .cell
  nofree : ∀ y ∈ sc.names, y.2 ≠ .free
theorem bindL_out {kindOf : Str → Option NameKind} {x : Str} : ∀ {binds : List (Str × Value)} {m : Str → Option Value}, (∀ v, (x, v) ∉ binds) → bindL kindOf binds m x = m x
  | [], _, _ => rfl
  | (n, v) :: r, m, h => by
    unfold bindL
    rw [bindL_out fun w hw => h w (List.mem_cons_of_mem _ hw)]
    split
    · have : x ≠ n := by rintro rfl; exact h v List.mem_cons_self
      simp [this]
    · rfl
theorem bindC_out {kindOf : Str → Option NameKind} {x : Str} : ∀ {binds : List (Str × Value)} {m : Str → Option Value}, (∀ v, (x, v) ∉ binds) → bindC kindOf binds m x = m x
  | [], _, _ => rfl
  | (n, v) :: r, m, h => by
    unfold bindC
    rw [bindC_out fun w hw => h w (List.mem_cons_of_mem _ hw)]
    split
    · rfl
    · have : x ≠ n := by rintro rfl; exact h v List.mem_cons_self
      simp [this]
theorem bindL_get {kindOf : Str → Option NameKind} {x : Str} {v : Value} : ∀ {P : List Str} {vs : List Value} {i : Nat} {m : Str → Option Value}, P.Nodup → P[i]? = some x → vs[i]? = some v → kindOf x = some .local →
    bindL kindOf (P.zip vs) m x = some v
  | [], _, _, _, _, h, _, _ => by simp at h
  | _ :: _, [], _, _, _, _, h, _ => by simp at h
  | p :: P, w :: vs, 0, m, nd, h1, h2, hk => by
    simp at h1 h2; subst h1; subst h2
    show bindL kindOf ((p, w) :: P.zip vs) m p = _
    unfold bindL
    rw [bindL_out fun v hv => (List.nodup_cons.mp nd).1 (List.of_mem_zip hv).1, if_pos hk]
    simp
  | p :: P, w :: vs, i + 1, m, nd, h1, h2, hk => by
    show bindL kindOf ((p, w) :: P.zip vs) m x = _
    unfold bindL
    exact bindL_get (i := i) (List.nodup_cons.mp nd).2 (by simpa using h1) (by simpa using h2) hk
theorem bindC_get {kindOf : Str → Option NameKind} {x : Str} {v : Value} : ∀ {P : List Str} {vs : List Value} {i : Nat} {m : Str → Option Value}, P.Nodup → P[i]? = some x → vs[i]? = some v → kindOf x ≠ some .local →
    bindC kindOf (P.zip vs) m x = some v
  | [], _, _, _, _, h, _, _ => by simp at h
  | _ :: _, [], _, _, _, _, h, _ => by simp at h
  | p :: P, w :: vs, 0, m, nd, h1, h2, hk => by
    simp at h1 h2; subst h1; subst h2
    show bindC kindOf ((p, w) :: P.zip vs) m p = _
    unfold bindC
    rw [bindC_out fun v hv => (List.nodup_cons.mp nd).1 (List.of_mem_zip hv).1, if_neg hk]
    simp
  | p :: P, w :: vs, i + 1, m, nd, h1, h2, hk => by
    show bindC kindOf ((p, w) :: P.zip vs) m x = _
    unfold bindC
    exact bindC_get (i := i) (List.nodup_cons.mp nd).2 (by simpa using h1) (by simpa using h2) hk
noncomputable def start (N : List Str) (vs : List V) : St := vs.map some ++ List.replicate (N.length - vs.length) none
noncomputable def cxOf (CX : CXT) (P : Program) (w : World) (K : PySem.W.Frag) (mg : Str → Option Value) (base : Heap) (N : List Str) (qual : Str) (scope : Scope) (f : Addr) (cd : Value) (A : Around) (outer : List Env) (s : Shared) (H : Hp) (E : XK) : Cx where
  prog := P
  w := w
  K := K
  mg := mg
  base := base
  A := A.deeper (envOfC qual scope s.heap.objs.size f cd)
  N := N
  s₀ := s
  H₀ := H
  env := envOfC qual scope s.heap.objs.size f cd
  outer := outer
  stack := envOfC qual scope s.heap.objs.size f cd :: outer
  ex := []
  calm := true
  fn := fun _ => true
  pn := []
  xe := fun e s' => wpAny (model P w) (A.deeper (envOfC qual scope s.heap.objs.size f cd)) (leaving (envOfC qual scope s.heap.objs.size f cd) e) (fun _ s'' => CX outer H s E e s'') (fun e' s'' => CX outer H s E e' s'') s'
theorem cell_has {sc : Scope} {n : Nat} {x : Str} (h : sc.names.lookup x = some .cell) : ∃ c, (cellsFrom n sc.names []).lookup x = some c := by
  have q := PySem.W.cellsFrom_some sc.names n [] (.inl h)
  exact Option.isSome_iff_exists.mp q
theorem inv_start {CX : CXT} {P : Program} {w : World} {K : PySem.W.Frag} {mg : Str → Option Value} {base : Heap} {N ps : List Str} {qual : Str} {scope : Scope} {f : Addr} {cd : Value} {A : Around} {outer : List Env} {s s1 : Shared} {H : Hp} {E : XK} {us : List Value} {vs : List V}
    (S : FnScope N ps scope) (hd : A.handled = none) (e0 : Env0 P w K mg base A outer s H) (hl : vs.length = ps.length) (r : Vals vs us)
    (x : InCallC s s.heap.objs.size (bindL (envOfC qual scope s.heap.objs.size f cd).kindOf (ps.zip us) fun _ => none) (cellsFrom (s.heap.objs.size + 1) scope.names []) (bindC (envOfC qual scope s.heap.objs.size f cd).kindOf (ps.zip us) fun _ => none) s1) :
    Inv (cxOf CX P w K mg base N qual scope f cd A outer s H E) [] (start N vs) H s1 := by
  have hpl : ps.length ≤ N.length := by have := congrArg List.length S.pre; rw [List.length_take] at this; omega
  obtain ⟨h1, tk, rfl, hk⟩ := x.done
  have noA : ∀ b : Addr, b ∉ (cxOf CX P w K mg base N qual scope f cd A outer s H E).ex := fun b z => absurd (show b ∈ ([] : List Addr) from z) (by simp)
  refine ⟨⟨e0.mod, S.kind, rfl, rfl, Nat.le_refl _, fun y z c h1 h2 => ?_, fun y hy => ?_, fun y c _ h => ?_, fun _ => hd, Around.frames_deeper e0.frames, .inr ⟨rfl, rfl⟩, fun b z => absurd z (noA b), e0.bs, e0.bsz, fun b _ _ => noA b, fun b z => absurd z (noA b), e0.funs, e0.frf⟩,
    rfl, e0.bare, Un.kept hk, ⟨_, x.toInCall.ns, fun i y v h1 h2 h3 => ?_⟩, fun y c h => ⟨_, x.cell y c h⟩, e0.hok.fresh (Nat.le_refl _), fun y c h => ?_, fun p hp => absurd (show p ∈ ([] : List (Addr × Obj)) from hp) (by simp), e0.hok.kept hk, ?_⟩
  · exact name_of_addr x.apart (PySem.mem_of_lookup h1) (PySem.mem_of_lookup h2)
  · have hy : scope.names.lookup y = some .cell ∨ scope.names.lookup y = some .free := hy
    rcases hy with hy | hy
    · exact cell_has hy
    · exact absurd rfl (S.nofree _ (PySem.mem_of_lookup hy))
  · exact Nat.le_of_lt (x.above y c (PySem.mem_of_lookup h))
  · have hi : i < vs.length := by
      unfold start at h2
      by_cases hi : i < vs.length
      · exact hi
      · rw [List.getElem?_append_right (by simpa using hi)] at h2
        rw [List.getElem?_replicate] at h2
        split at h2 <;> cases h2
    have ha : vs[i]? = some v := by
      unfold start at h2
      rw [List.getElem?_append_left (by simpa using hi), List.getElem?_map] at h2
      cases e : vs[i]? with
      | none => rw [e] at h2; cases h2
      | some a => rw [e] at h2; cases h2; rfl
    obtain ⟨u, hu, rv⟩ := r.get ha
    have hp : ps[i]? = some y := by
      rw [← S.pre, List.getElem?_take_of_lt (by omega)]; exact h1
    have ndP : ps.Nodup := by rw [← S.pre]; exact S.nd.sublist (List.take_sublist _ _)
    refine ⟨u, rv, ?_⟩
    rcases S.par y (List.mem_of_getElem? hp) with k | k
    · exact .inl ⟨k, bindL_get ndP hp hu k⟩
    · obtain ⟨c, e⟩ := cell_has (n := s.heap.objs.size + 1) k
      refine .inr ⟨.inl k, c, e, ?_⟩
      have q := x.cell y c e
      rw [bindC_get ndP hp hu (by show scope.names.lookup y ≠ _; rw [k]; decide)] at q
      exact q
  · exact e0.hok.fresh (Nat.le_of_lt (x.above y c (PySem.mem_of_lookup h)))
  · unfold start
    show _ = N.length
    rw [List.length_append, List.length_map, List.length_replicate]
    omega
theorem fn_of {CX : CXT} {P : Program} {w : World} {K : PySem.W.Frag} {mg : Str → Option Value} {base : Heap} {k : Nat} {f : Addr} {name qual : Str} {params : Arguments} {body : List Stmt} {scope : Scope} {dV kV doc pm cdv ct oc : Value} {an od : Option Addr}
    {osl : Array (Option Value)} {N ps : List Str} {sp : Sp} (lk : K.lookup f = some ⟨oc, od, .func (PySem.W.fnOf name qual params body scope dV kV doc pm an cdv ct), osl⟩) (hcd : PySem.W.codeIn K cdv qual = true) (S : FnScope N ps scope)
    (len : ∀ vs H Q E, sp vs H Q E → vs.length = ps.length)
    (hbody : ∀ (A : Around) (outer : List Env) (s : Shared) (H : Hp) (vs : List V) (Q : VK) (E : XK), Room k (A.deeper (envOfC qual scope s.heap.objs.size f cdv)) → sp vs H Q E →
      ∃ t, PSs (cxOf CX P w K mg base N qual scope f cdv A outer s H E) body t ∧ t { nx := fun _ H' => Q .non H', rt := Q } (start N vs) H) :
    FnOk P w K mg base CX (k + 1) f (PySem.W.fnOf name qual params body scope dV kV doc pm an cdv ct) ps sp := by
  refine ⟨len, fun A outer s H args us vs Q E hr e0 hb r hsp => ?_⟩
  have hl := len _ _ _ _ hsp
  have KX : K.In s.heap := e0.mod.kin.keeps fun b o e => (e0.bs b o e).1
  have lim : s.heap.NoLimit := e0.mod.nolimit.keeps fun b o e => (e0.bs b o e).1
  have hkind : ∀ y ∈ ps.zip us, scope.names.lookup y.1 = some .local ∨ (scope.names.lookup y.1 = some .cell ∧ ((cellsFrom (s.heap.objs.size + 1) scope.names []).lookup y.1).isSome = true) := fun ⟨n, v⟩ hy => by
    rcases S.par n (List.of_mem_zip hy).1 with q | q
    · exact .inl q
    · exact .inr ⟨q, PySem.W.cellsFrom_some _ _ _ (.inl q)⟩
  refine codeAny_call_function hr.depth (KX _ _ lk) rfl S.co S.gen rfl (PySem.W.codeRec_of KX hcd) (hb _ _ _ _ ?_)
  refine wpAny_newFunctionEnv_cells S.kind hkind fun env he s1 x => ?_
  subst he
  refine ⟨lim.keeps x.toInCall.keep, codeAny_func ?_⟩
  obtain ⟨t, ht, hq⟩ := hbody A outer s H vs Q E (hr.deeper _) hsp
  have I : Inv (cxOf CX P w K mg base N qual scope f cdv A outer s H E) [] (start N vs) H s1 := inv_start S hr.hd e0 hl r x
  refine wpAny_mono (ht [] s1 (start N vs) H _ I hq) (fun fl s' hs => ?_) fun e s' hs => hs
  have fin : ∀ {σ' : St} {H' : Hp} {v : V} {u : Value}, Inv (cxOf CX P w K mg base N qual scope f cdv A outer s H E) [] σ' H' s' → RelV v u → Q v H' → CE outer P w H s Q u s' :=
    fun {σ' H' v u} J rv q => ⟨v, H', J.os, J.bare, J.base, J.hok, rv, q⟩
  cases fl with
  | ret u =>
    obtain ⟨v, σ', H', J, rv, q⟩ := hs
    exact fin J rv q
  | next =>
    obtain ⟨σ', H', J, q⟩ := hs
    exact fin (v := V.non) (u := Value.none) J rfl q
  | brk =>
    obtain ⟨_, _, _, q⟩ := hs
    exact False.elim q
  | cont =>
    obtain ⟨_, _, _, q⟩ := hs
    exact False.elim q
end L2
namespace L2
open PySem PySem.Spec PyProof.Rows
section
variable {X : Cx} {x : Str} {p pos : Pos} {e : Expr} {es : List Expr} {t : TA} {id T : String} {r : List V → Hp → VK → Prop}
noncomputable def tCB (r : List V → Hp → VK → Prop) (t : TA) : TE := fun σ H Q => t σ H fun vs H1 => r vs H1 Q
theorem pe_callB (hc : CallR X (.builtin id) r) (hg : Gl X x) (hm : X.mg x = none) (hv : bootBuiltins x = some (.builtin id)) (ha : PA X (e :: es) t) (hn : x ≠ "__name__" := by decide) (hdb : (x == ("__debug__" : Str)) = false := by decide)
    (he : starEach (e :: es) X.env = (false, eval e X.env) :: starEach es X.env := by rfl) (hpl : (backTo pos (starEach es X.env)).any (·.1) = false := by rfl) : PE X (.Call (.Name x p) (e :: es) [] pos) (tCB r t) := by
  intro pins s σ H Q I h
  refine wpAny_Call_Name_kw (ld_blt I hg hm hv ?_ hn hdb)
  exact PyProof.Rows.callWith_builtin1 (thn (ha pos pins s σ H _ I h) fun us s1 ⟨vs, H1, I1, r1, q1⟩ => hc pins s1 σ H1 vs us Q I1 r1 q1) he hpl
theorem pe_callTy (hc : CallR X (.type T) r) (hg : Gl X x) (hm : X.mg x = none) (hv : bootBuiltins x = some (.type T)) (ha : PA X (e :: es) t) (hn : x ≠ "__name__" := by decide) (hdb : (x == ("__debug__" : Str)) = false := by decide)
    (he : starEach (e :: es) X.env = (false, eval e X.env) :: starEach es X.env := by rfl) (hpl : (backTo pos (starEach es X.env)).any (·.1) = false := by rfl) : PE X (.Call (.Name x p) (e :: es) [] pos) (tCB r t) := by
  intro pins s σ H Q I h
  refine wpAny_Call_Name_kw (ld_blt I hg hm hv ?_ hn hdb)
  exact PyProof.Rows.callWith_type1 (thn (ha pos pins s σ H _ I h) fun us s1 ⟨vs, H1, I1, r1, q1⟩ => hc pins s1 σ H1 vs us Q I1 r1 q1) he hpl
end
end L2
namespace HT
open PySem PyProof.Rows
section
open PySem.SeqAt
open PySem.AutoSeq1 (wpAny_loadPart')
open PySem.MeetsSeq PySem.MeetsSeq2 PySem.MeetsSeq3
end
section
variable {prog : Program} {w : World} {A : Around} {E : Value → Shared → Prop} {s : Shared}
noncomputable def sIx (n d : Nat) : Option Int → Nat
  | none => d
  | some v => if v < 0 then (v + (n : Int)).toNat else min v.toNat n
theorem sIx_none (n d : Nat) : sIx n d none = d := rfl
theorem sIx_nat (n d k : Nat) : sIx n d (some (k : Int)) = min k n := by
  show (if (k : Int) < 0 then ((k : Int) + (n : Int)).toNat else min (k : Int).toNat n) = min k n
  rw [if_neg (by omega), Int.toNat_natCast]
end
end HT
namespace L2
open PySem PySem.Spec PyProof.Rows
noncomputable abbrev TO := St → Hp → (Option Int → Hp → Prop) → Prop
noncomputable def PO (X : Cx) (e : Option Expr) (t : TO) : Prop :=
  ∀ (pins : List (Addr × Obj)) (s : Shared) (σ : St) (H : Hp) (Q : Option Int → Hp → Prop), Inv X pins σ H s → t σ H Q →
    wpAny (model X.prog X.w) X.A (evalPart e X.env) (fun u s' => ∃ o H', Inv X pins σ H' s' ∧ IsPart u o ∧ Q o H') X.xe s
noncomputable def tNoPart : TO := fun _ H Q => Q none H
noncomputable def tPart (t : TE) : TO := fun σ H Q => t σ H fun x H1 => ∃ i, x = .int i ∧ Q (some i) H1
section
variable {X : Cx} {e : Expr} {te : TE} {lo hi : Option Expr} {tl th : TO} {pos p2 : Pos}
theorem po_none : PO X none tNoPart := by
  intro pins s σ H Q I h
  rw [evalPart_none]
  exact wpAny_pure ⟨none, H, I, .none, h⟩
theorem po_some (h : PE X e te) : PO X (some e) (tPart te) := by
  intro pins s σ H Q I hw
  rw [evalPart_some]
  refine thn (h pins s σ H _ I hw) fun u s1 ⟨x, H1, I1, r1, q1⟩ => ?_
  obtain ⟨i, rfl, q⟩ := q1
  obtain ⟨t, rfl⟩ := r1
  exact ⟨some i, H1, I1, .int i t, q⟩
noncomputable def SlR (X : Cx) (r : V → Option Int → Option Int → Hp → VK → Prop) : Prop :=
  ∀ (pins : List (Addr × Obj)) (s : Shared) (σ : St) (H : Hp) (x : V) (v vl vu : Value) (lo hi : Option Int) (sl : Addr) (Q : VK), Inv X pins σ H s → RelV x v → s.heap.IsSliceOf sl vl vu .none → IsPart vl lo → IsPart vu hi → r x lo hi H Q →
    ∃ T id, typeLookup (.type T) "__getitem__" = pure (some (.builtin id)) ∧ s.TypeIs v T ∧ wpAny (model X.prog X.w) X.A (getItem v (.ref sl)) (EP X pins σ Q) X.xe s
noncomputable def tSl (r : V → Option Int → Option Int → Hp → VK → Prop) (te : TE) (tl th : TO) : TE := fun σ H Q => te σ H fun x H1 => tl σ H1 fun l H2 => th σ H2 fun u H3 => r x l u H3 Q
theorem pe_slice {r : V → Option Int → Option Int → Hp → VK → Prop} (hr : SlR X r) (he : PE X e te) (hl : PO X lo tl) (hu : PO X hi th) : PE X (.Subscript e (.Slice lo hi none p2) pos) (tSl r te tl th) := by
  intro pins s σ H Q I h
  refine Subscript_ (thn (he pins s σ H _ I h) fun v s1 ⟨x, H1, I1, r1, q1⟩ => ?_)
  refine wpAny_Slice (thn (hl pins s1 σ H1 _ I1 q1) fun vl s2 ⟨l, H2, I2, pl, q2⟩ => thn (hu pins s2 σ H2 _ I2 q2) fun vu s3 ⟨u, H3, I3, pu, q3⟩ => ?_)
  rw [evalPart_none]
  refine wpAny_pure ?_
  have I4 : Inv X pins σ H3 { s3 with heap := s3.heap.push { cls := .type "slice", data := .fields #[vl, vu, .none] } } := I3.kept (t' := s3.toks) fun b ob q => Heap.get?_push_of_some _ q
  obtain ⟨T, id, hT, ht, hg⟩ := hr pins { s3 with heap := s3.heap.push { cls := .type "slice", data := .fields #[vl, vu, .none] } } σ H3 x v vl vu l u s3.heap.objs.size Q I4 r1 (Heap.IsSliceOf.new ..) pl pu q3
  show wpAny (model X.prog X.w) X.A (subscriptTail e (.Slice lo hi none p2) v (.ref s3.heap.objs.size)) (EP X pins σ Q) X.xe { s3 with heap := s3.heap.push { cls := .type "slice", data := .fields #[vl, vu, .none] } }
  exact tail_any (ops := [.ref s3.heap.objs.size, v]) ht hT hg (by with_unfolding_all rfl)
noncomputable def cutV (xs : List V) (lo hi : Option Int) : List V := (xs.drop (HT.sIx xs.length 0 lo)).take (HT.sIx xs.length xs.length hi - HT.sIx xs.length 0 lo)
theorem cutV_length (xs : List V) (lo hi : Option Int) : (cutV xs lo hi).length ≤ xs.length := by
  unfold cutV
  rw [List.length_take, List.length_drop]
  omega
end
end L2
namespace L2
open PySem PySem.Spec PyProof.Rows
noncomputable def ixN (n : Nat) (i : Int) : Option Nat := if 0 ≤ i then (if i < n then some i.toNat else none) else if -(n : Int) ≤ i then some (i + n).toNat else none
noncomputable def atI {α : Type} (xs : List α) (i : Int) : Option α := (ixN xs.length i).bind fun j => xs[j]?
theorem ixN_seq {n : Nat} {i : Int} {j : Nat} (h : ixN n i = some j) : seqIndex? i n = some j ∧ j < n ∧ -(n : Int) ≤ i ∧ i < n := by
  unfold ixN at h
  by_cases h0 : 0 ≤ i
  · rw [if_pos h0] at h
    by_cases h1 : i < n
    · rw [if_pos h1] at h
      have e : i.toNat = j := Option.some.inj h
      exact ⟨by rw [seqIndex_of h0 h1, e], by omega, by omega, h1⟩
    · rw [if_neg h1] at h; cases h
  · rw [if_neg h0] at h
    by_cases h1 : -(n : Int) ≤ i
    · rw [if_pos h1] at h
      have e : (i + n).toNat = j := Option.some.inj h
      exact ⟨by rw [seqIndex_neg (by omega) h1, e], by omega, h1, by omega⟩
    · rw [if_neg h1] at h; cases h
theorem atI_get {α : Type} {xs : List α} {i : Int} {v : α} (h : atI xs i = some v) : ∃ j, seqIndex? i xs.length = some j ∧ xs[j]? = some v ∧ j < xs.length ∧ -(xs.length : Int) ≤ i ∧ i < xs.length := by
  unfold atI at h
  cases e : ixN xs.length i with
  | none => rw [e] at h; cases h
  | some j =>
    rw [e] at h
    obtain ⟨h1, h2, h3, h4⟩ := ixN_seq e
    exact ⟨j, h1, h, h2, h3, h4⟩
theorem atI_nat {α : Type} {xs : List α} {j : Nat} {v : α} (h : xs[j]? = some v) : atI xs (j : Int) = some v := by
  have hj : j < xs.length := (List.getElem?_eq_some_iff.mp h).1
  have e : ixN xs.length (j : Int) = some j := by
    unfold ixN
    rw [if_pos (by omega), if_pos (by omega)]; simp
  unfold atI; rw [e]; exact h
noncomputable def PlainIx (b : Expr) : Prop := ∀ o i, subscripted b false o i = operate [o, i] (getItem o i)
noncomputable def IxR (X : Cx) (r : R2) : Prop :=
  ∀ (value slice : Expr) (pins : List (Addr × Obj)) (s : Shared) (σ : St) (H : Hp) (x y : V) (v u : Value) (Q : VK), Inv X pins σ H s → RelV x v → RelV y u → r x y H Q →
    subscripted slice false v u = operate [v, u] (getItem v u) → wpAny (model X.prog X.w) X.A (subscriptTail value slice v u) (EP X pins σ Q) X.xe s
noncomputable def MtR (X : Cx) (id : String) (r : V → List V → Hp → VK → Prop) : Prop :=
  ∀ (pins : List (Addr × Obj)) (s : Shared) (σ : St) (H : Hp) (x : V) (xs : List V) (v : Value) (us : List Value) (Q : VK), Inv X pins σ H s → RelV x v → Vals xs us → r x xs H Q →
    wpAny (model X.prog X.w) X.A (call (.builtin id) (v :: us)) (EP X pins σ Q) X.xe s
section
variable {X : Cx} {a b : Expr} {ta tb : TE} {pos : Pos}
theorem IxR.or {r r' : R2} (h : IxR X r) (h' : IxR X r') : IxR X (fun x y H Q => r x y H Q ∨ r' x y H Q) := by
  intro value slice pins s σ H x y v u Q I rx ry q hs
  rcases q with q | q
  · exact h value slice pins s σ H x y v u Q I rx ry q hs
  · exact h' value slice pins s σ H x y v u Q I rx ry q hs
theorem pe_ix {r : R2} (hr : IxR X r) (ha : PE X a ta) (hb : PE X b tb) (hs : PlainIx b) : PE X (.Subscript a b pos) (tOp r ta tb) := by
  intro pins s σ H Q I h
  exact Subscript_ (binT ha hb I h fun v u s2 x y H2 I2 rx ry q => hr a b pins s2 σ H2 x y v u Q I2 rx ry q (hs _ _))
noncomputable def rIxL (K : PySem.W.Frag) : R2 := fun x y H Q => ∃ p xs i v, x = .ref p ∧ y = .int i ∧ SqL K H p xs ∧ atI xs i = some v ∧ Q v H
noncomputable def rIxT (K : PySem.W.Frag) : R2 := fun x y H Q => ∃ p xs i v, x = .ref p ∧ y = .int i ∧ SqT K H p xs ∧ atI xs i = some v ∧ Q v H
noncomputable def rIxS : R2 := fun x y H Q => ∃ z i c, x = .str z ∧ y = .int i ∧ z.length ≤ sizeLine ∧ atI z.cps.toList i = some c ∧ Q (.str ⟨#[c]⟩) H
theorem ix_list : IxR X (rIxL X.K) := by
  intro value slice pins s σ H x y v u Q I rx ry h hs
  obtain ⟨p, xs, i, z, rfl, rfl, hq, he, q⟩ := h
  cases rx
  obtain ⟨t, rfl⟩ := ry
  obtain ⟨its, r, pl, hz⟩ := I.list hq
  obtain ⟨j, h1, h2, h3, h4, h5⟩ := atI_get he
  obtain ⟨w, ew, rw'⟩ := r.get h2
  have hl := r.length
  have hn := line63
  have fin : EP X pins σ Q w s := ⟨z, H, I, rw', q⟩
  by_cases h0 : 0 ≤ i
  · have hj : i.toNat = j := by
      rw [seqIndex_of h0 h5] at h1
      exact Option.some.inj h1
    exact item_listR pl.isList h0 (by omega) (by rw [hj]; simpa using ew) fin hs
  · have hj : (i + (its.toArray.size : Int)).toNat = j := by
      rw [seqIndex_neg (by omega) h4] at h1
      rw [List.size_toArray, ← hl]
      exact Option.some.inj h1
    exact subscriptTail_builtinR (x := w) pl.isList.typeIs slot_list_getitem.lookup
      (wpAny_getItem_list_neg (Q := fun r s' => r = w ∧ EP X pins σ Q r s') pl.isList (by omega) (by rw [List.size_toArray] <;> omega) (by omega) (by rw [hj]; simpa using ew) ⟨rfl, fin⟩) hs
theorem ix_tup : IxR X (rIxT X.K) := by
  intro value slice pins s σ H x y v u Q I rx ry h hs
  obtain ⟨p, xs, i, z, rfl, rfl, hq, he, q⟩ := h
  cases rx
  obtain ⟨t, rfl⟩ := ry
  obtain ⟨its, r, pl, hz⟩ := I.tuple hq
  obtain ⟨j, h1, h2, h3, h4, h5⟩ := atI_get he
  obtain ⟨w, ew, rw'⟩ := r.get h2
  have hl := r.length
  have hn := line63
  have fin : EP X pins σ Q w s := ⟨z, H, I, rw', q⟩
  exact subscriptTail_builtinR (x := w) pl.typeIs slot_tuple_getitem.lookup
    (getItem_tuple (j := j) (Q := fun r s' => r = w ∧ EP X pins σ Q r s') pl (by omega) (by omega) (by rw [List.size_toArray, ← hl]; exact h1) (by simpa using ew) ⟨rfl, fin⟩) hs
theorem ix_str : IxR X rIxS := by
  intro value slice pins s σ H x y v u Q I rx ry h hs
  obtain ⟨z, i, c, rfl, rfl, hz, he, q⟩ := h
  obtain ⟨t, rfl⟩ := rx
  obtain ⟨t', rfl⟩ := ry
  obtain ⟨j, h1, h2, h3, h4, h5⟩ := atI_get he
  have hl : z.cps.toList.length = z.length := by simp [Str.length]
  rw [hl] at h1 h4 h5
  have hn := line63
  exact tail_any (typeIs_str s z t) slot_str_getitem.lookup (getItem_str (c := c) (by
    have e1 : decide (i < -(2 ^ 63 : Int)) = false := decide_eq_false (by omega)
    have e2 : decide (i ≥ 2 ^ 63) = false := decide_eq_false (by omega)
    rw [e1, e2, Bool.or_false]) (by rw [h1]; simpa using h2) ⟨.str ⟨#[c]⟩, H, I.tok _, ⟨_, rfl⟩, q⟩) hs
noncomputable def rIx (K : PySem.W.Frag) : R2 := fun x y H Q => rIxL K x y H Q ∨ rIxT K x y H Q ∨ rIxS x y H Q
theorem ix_seq : IxR X (rIx X.K) := ix_list.or (ix_tup.or ix_str)
theorem mapSeq_set (its : List Value) (n j : Nat) (u : Value) : Obj.mapSeq (·.setIfInBounds j u) { cls := .type "list", data := .seq its.toArray n } = { cls := .type "list", data := .seq (its.set j u).toArray n } := by
  simp [Obj.mapSeq]
theorem Inv.lst {pins : List (Addr × Obj)} {σ : St} {H : Hp} {s : Shared} {p : Addr} {xs : List V} (I : Inv X pins σ H s) (h : H p = some (.lst xs)) :
    ∃ (its : List Value) (n : Nat), Vals xs its ∧ s.heap.get? p = some { cls := .type "list", data := .seq its.toArray n } ∧ xs.length ≤ sizeLine := by
  obtain ⟨z, its, n, r, e⟩ := I.hok p _ h
  exact ⟨its, n, r, e, z⟩
theorem Inv.lstUpd {pins : List (Addr × Obj)} {σ : St} {H : Hp} {s : Shared} {p : Addr} {xs ys : List V} {its its' : List Value} {n n' : Nat} {f : Obj → Obj} (I : Inv X pins σ H s) (h : H p = some (.lst xs))
    (ho : s.heap.get? p = some { cls := .type "list", data := .seq its.toArray n }) (hf : f { cls := .type "list", data := .seq its.toArray n } = { cls := .type "list", data := .seq its'.toArray n' }) (r : Vals ys its') (hz : ys.length ≤ sizeLine) (t : Nat) :
    Inv X pins σ (upd H p (.lst ys)) { s with heap := s.heap.update p f, toks := t } := by
  have e : (s.heap.update p f).get? p = some { cls := .type "list", data := .seq its'.toArray n' } := by
    rw [Heap.get?_update_self f ho (by rw [hf] <;> rfl), hf]
  refine I.write (x := p) (e := p) (by rw [h]; trivial) (.inl rfl) (fun b u hb q => (Heap.get?_update_other _ _ (Ne.symm hb)).trans q) ⟨_, e⟩ ?_
  exact ⟨hz, its', n', r, e⟩
noncomputable def rSetL : V → V → V → Hp → (Hp → Prop) → Prop := fun o i v H Q => ∃ p xs k j, o = .ref p ∧ i = .int k ∧ H p = some (.lst xs) ∧ ixN xs.length k = some j ∧ Q (upd H p (.lst (xs.set j v)))
theorem set_list : PSet X rSetL := by
  intro pins s σ H o i v ov iv u Q I ro ri rv h
  obtain ⟨p, xs, k, j, rfl, rfl, hp, hj, q⟩ := h
  cases ro
  obtain ⟨t, rfl⟩ := ri
  obtain ⟨its, n, r, ho, hz⟩ := I.lst hp
  obtain ⟨h1, h2, h3, h4⟩ := ixN_seq hj
  have hl := r.length
  have hn := line63
  have I' : Inv X pins σ (upd H p (.lst (xs.set j v))) { s with heap := s.heap.update p (Obj.mapSeq (·.setIfInBounds j u)) } :=
    I.lstUpd hp ho (mapSeq_set its n j u) (r.set rv j) (by rw [List.length_set]; exact hz) s.toks
  by_cases h0 : 0 ≤ k
  · have hk : k.toNat = j := by
      rw [seqIndex_of h0 h4] at h1
      exact Option.some.inj h1
    exact PySem.W.ki_setAt ho h0 (by omega) (by rw [List.size_toArray, ← hl]; exact h4) (by rw [hk]; exact ⟨_, I', q⟩)
  · have hk : (k + (its.toArray.size : Int)).toNat = j := by
      rw [seqIndex_neg (by omega) h3] at h1
      rw [List.size_toArray, ← hl]
      exact Option.some.inj h1
    exact PySem.W.ki_setBack ho (by omega) (by rw [List.size_toArray, ← hl]; exact h3) (by omega) (by rw [hk]; exact ⟨_, I', q⟩)
theorem slice_bounds (lo hi : Option Int) (n : Nat) : (sliceBounds lo hi none n).1 = ((HT.sIx n 0 lo : Nat) : Int) ∧ (sliceBounds lo hi none n).2.1 = ((HT.sIx n n hi : Nat) : Int) ∧ (sliceBounds lo hi none n).2.2 = 1 := by
  refine ⟨?_, ?_, rfl⟩
  · cases lo with
    | none => simp [sliceBounds, HT.sIx]
    | some i =>
      simp only [sliceBounds, HT.sIx, Option.getD_none, show (1 : Int) > 0 by decide, if_true]
      by_cases h : i < 0
      · simp only [h, if_true] <;> omega
      · simp only [h, if_false] <;> omega
  · cases hi with
    | none => simp [sliceBounds, HT.sIx]
    | some i =>
      simp only [sliceBounds, HT.sIx, Option.getD_none, show (1 : Int) > 0 by decide, if_true]
      by_cases h : i < 0
      · simp only [h, if_true] <;> omega
      · simp only [h, if_false] <;> omega
theorem slicePick_cut (its : List Value) (lo hi : Option Int) : slicePick its.toArray lo hi none = ((its.drop (HT.sIx its.length 0 lo)).take (HT.sIx its.length its.length hi - HT.sIx its.length 0 lo)).toArray := by
  obtain ⟨h1, h2, h3⟩ := slice_bounds lo hi its.toArray.size
  unfold slicePick
  rw [h1, h2, h3]
  simp only [sliceRange_one, pick_run, List.size_toArray] <;> rfl
noncomputable def rSlL (K : PySem.W.Frag) : V → Option Int → Option Int → Hp → VK → Prop := fun x lo hi H Q => ∃ a xs, x = .ref a ∧ SqL K H a xs ∧ ∀ p, H p = none → Q (.ref p) (upd H p (.lst (cutV xs lo hi)))
theorem sl_list : SlR X (rSlL X.K) := by
  intro pins s σ H x v vl vu lo hi sl Q I rx hs pl pu h
  obtain ⟨a, xs, rfl, hx, q⟩ := h
  cases rx
  obtain ⟨its, r, ht, hz⟩ := I.list hx
  have hlen := r.length
  refine ⟨"list", _, slot_list_getitem.lookup, ht.isList.typeIs, ?_⟩
  refine wpAny_getItem_list_slice ht.isList hs pl pu .none (by simp) ?_ (by rw [List.size_toArray] <;> omega)
  rw [slicePick_cut, ← hlen]
  refine ⟨.ref s.heap.objs.size, _, I.laid (t' := s.toks) (o := .lst (cutV xs lo hi)) (fun b ob q => Heap.get?_push_of_some _ q) (Nat.le_refl _) ?_, rfl, q _ (I.hok.fresh (Nat.le_refl _))⟩
  exact ⟨Nat.le_trans (cutV_length xs lo hi) hz, _, 0, (r.drop (HT.sIx xs.length 0 lo)).take (HT.sIx xs.length xs.length hi - HT.sIx xs.length 0 lo), Heap.get?_push_size _ rfl⟩
theorem call_len_seq : CallR X (.builtin "len") (fun xs H Q => ∃ p ys, xs = [.ref p] ∧ (SqL X.K H p ys ∨ SqT X.K H p ys) ∧ Q (.int ys.length) H) := by
  intro pins s σ H xs us Q I r h
  obtain ⟨p, ys, rfl, hq, q⟩ := h
  obtain ⟨u, rfl, rx⟩ := vals1 r
  cases rx
  have hn := line63
  rcases hq with hq | hq
  · obtain ⟨its, r', pl, hz⟩ := I.list hq
    have hlen := r'.length
    exact Calls.call_len_list pl.isList (by simp only [List.size_toArray] <;> omega) ⟨.int ys.length, H, I.tok _, ⟨s.toks + 1, by rw [List.size_toArray, hlen]⟩, q⟩
  · obtain ⟨its, r', pl, hz⟩ := I.tuple hq
    have hlen := r'.length
    exact len_tuple pl (by simp only [List.size_toArray] <;> omega) ⟨.int ys.length, H, I.tok _, ⟨s.toks + 1, by rw [List.size_toArray, hlen]⟩, q⟩
theorem call_list_of : CallR X (.type "list") (fun xs H Q => ∃ p ys, xs = [.ref p] ∧ (SqL X.K H p ys ∨ SqT X.K H p ys) ∧ ∀ l, H l = none → Q (.ref l) (upd H l (.lst ys))) := by
  intro pins s σ H xs us Q I r h
  obtain ⟨p, ys, rfl, hq, q⟩ := h
  obtain ⟨u, rfl, rx⟩ := vals1 r
  cases rx
  have fin : ∀ (its : List Value), Vals ys its → ys.length ≤ sizeLine → ∀ (h' : Heap) (c' : Nat), (∀ b o', s.heap.get? b = some o' → h'.get? b = some o') →
      h'.get? s.heap.objs.size = some { cls := .type "list", dict := none, data := .seq its.toArray c', slots := #[] } → EP X pins σ Q (.ref s.heap.objs.size) { s with heap := h' } := fun its r' hz h' c' kp e =>
    ⟨.ref s.heap.objs.size, _, I.laid (t' := s.toks) kp (Nat.le_refl _) (show ObjOk X.prog X.w _ h' _ (.lst ys) from ⟨hz, its, c', r', e⟩), rfl, q _ (I.hok.fresh (Nat.le_refl _))⟩
  rcases hq with hq | hq
  · obtain ⟨its, r', pl, hz⟩ := I.list hq
    have hlen := r'.length
    obtain ⟨o, ho, hc, n, hd⟩ := pl.isList
    exact call_list_seq p (.inl rfl) ho hc hd (fun h' c' kp e => fin its r' hz h' c' kp e) (by simp only [List.size_toArray] <;> omega)
  · obtain ⟨its, r', pl, hz⟩ := I.tuple hq
    have hlen := r'.length
    obtain ⟨o, ho, hc, n, hd⟩ := pl
    exact call_list_seq p (.inr rfl) ho hc hd (fun h' c' kp e => fin its r' hz h' c' kp e) (by simp only [List.size_toArray] <;> omega)
noncomputable def tyV (K : PySem.W.Frag) (T : String) (x : V) (H : Hp) : Prop := match x with
  | .str _ => T = "str"
  | .int _ => T = "int"
  | .ref p => (T = "list" ∧ ∃ xs, SqL K H p xs) ∨ (T = "tuple" ∧ ∃ o, K.lookup p = some o ∧ o.cls = .type "tuple" ∧ o.dict = none) ∨
      (T = "dict" ∧ ((∃ kvs, H p = some (.dK kvs)) ∨ ∃ kvs, H p = some (.dT kvs))) ∨ (T = "set" ∧ ∃ S n, H p = some (.set S n))
  | _ => False
theorem tyV_is {pins : List (Addr × Obj)} {σ : St} {H : Hp} {s : Shared} {T : String} {x : V} {v : Value} (I : Inv X pins σ H s) (r : RelV x v) (ty : tyV X.K T x H) :
    s.TypeIs v T ∧ ∀ a, v = .ref a → ∃ ob, s.heap.get? a = some ob ∧ ob.dict = none := by
  cases x with
  | str z =>
    obtain ⟨t, rfl⟩ := r
    cases (show T = "str" from ty)
    exact ⟨typeIs_str s z t, fun _ e => nomatch e⟩
  | int i =>
    obtain ⟨t, rfl⟩ := r
    cases (show T = "int" from ty)
    exact ⟨typeIs_int s i t, fun _ e => nomatch e⟩
  | ref p =>
    cases r
    rcases ty with ⟨rfl, xs, hq⟩ | ⟨rfl, o, hk, hc, hd⟩ | ⟨rfl, hk⟩ | ⟨rfl, S, n, hk⟩
    · obtain ⟨its, _, pl, _⟩ := I.list hq
      refine ⟨pl.isList.typeIs, fun a e => ?_⟩
      cases e
      obtain ⟨o, n, e, c, hd, _⟩ := pl
      exact ⟨o, e, hd⟩
    · refine ⟨⟨o, I.kIn p o hk, hc⟩, fun a e => ?_⟩
      cases e
      exact ⟨o, I.kIn _ o hk, hd⟩
    · have z : ∃ o, s.heap.get? p = some o ∧ o.ExactDict := by
        rcases hk with ⟨kvs, hk⟩ | ⟨kvs, hk⟩
        · obtain ⟨_, _, _, _, o, _, _, e, ex, _⟩ := I.hok p _ hk
          exact ⟨o, e, ex⟩
        · obtain ⟨_, _, _, _, o, _, _, e, ex, _⟩ := I.hok p _ hk
          exact ⟨o, e, ex⟩
      obtain ⟨o, e, ex⟩ := z
      refine ⟨⟨o, e, ex.1⟩, fun a e2 => ?_⟩
      cases e2
      exact ⟨o, e, ex.2.1⟩
    · obtain ⟨o, _, _, _, e, ex, _⟩ := I.hok p _ hk
      refine ⟨⟨o, e, ex.1⟩, fun a e2 => ?_⟩
      cases e2
      exact ⟨o, e, ex.2.1⟩
  | _ => exact False.elim ty
noncomputable def tBM0 (K : PySem.W.Frag) (T : String) (r : V → List V → Hp → VK → Prop) (to : TE) : TE := fun σ H Q => to σ H fun x H1 => tyV K T x H1 ∧ r x [] H1 Q
noncomputable def tBM (K : PySem.W.Frag) (T : String) (r : V → List V → Hp → VK → Prop) (to : TE) (t : TA) : TE := fun σ H Q => to σ H fun x H1 => tyV K T x H1 ∧ t σ H1 fun xs H2 => r x xs H2 Q
variable {o e : Expr} {es : List Expr} {to : TE} {t : TA} {name : Str} {apos cpos : Pos} {T id : String} {r : V → List V → Hp → VK → Prop}
theorem pe_bm0 (pa : PlainAttrs T) (slot : Slot T name id) (hty : typeOf (.builtin id) = pure (.type "method_descriptor")) (hm : MtR X id r) (ho : PE X o to)
    (hbase : attributeBase o name X.env (eval o X.env) = eval o X.env := by rfl) (hline : (apos.endLine == cpos.line) = true := by rfl) : PE X (.Call (.Attribute o name apos) [] [] cpos) (tBM0 X.K T r to) := by
  intro pins s σ H Q I h
  refine wpAny_Call_method0_late hbase hline (thn (ho pins s σ H _ I h) fun v s1 ⟨x, H1, I1, r1, ty, q1⟩ => ?_)
  obtain ⟨h1, h2⟩ := tyV_is I1 r1 ty
  exact ⟨T, id, pa, slot, hty, h1, h2, Calls.callWith_builtin rfl (PySem.evalArgs_none (hm pins s1 σ H1 x [] v [] Q I1 r1 .nil q1))⟩
theorem pe_bm (pa : PlainAttrs T) (slot : Slot T name id) (hty : typeOf (.builtin id) = pure (.type "method_descriptor")) (hm : MtR X id r) (ho : PE X o to) (ha : PA X (e :: es) t)
    (hbase : attributeBase o name X.env (eval o X.env) = eval o X.env := by rfl)
    (hfew : ((backTo cpos (starEach (e :: es) X.env)).all (fun x => !x.1) && (backToKw cpos (keywordEach [] X.env)).all (fun x => x.1.isSome)
      && decide ((e :: es).length + ([] : List Keyword).length + (if ([] : List Keyword).isEmpty then 0 else 1) < 30)) = true := by rfl)
    (hline : (apos.endLine == cpos.line) = true := by rfl) (hs : starEach (e :: es) X.env = (false, eval e X.env) :: starEach es X.env := by rfl) (hplain : (backTo cpos (starEach es X.env)).any (·.1) = false := by rfl) :
    PE X (.Call (.Attribute o name apos) (e :: es) [] cpos) (tBM X.K T r to t) := by
  intro pins s σ H Q I h
  refine wpAny_Call_method_late hbase hfew hline rfl (thn (ho pins s σ H _ I h) fun v s1 ⟨x, H1, I1, r1, ty, q1⟩ => ?_)
  obtain ⟨h1, h2⟩ := tyV_is I1 r1 ty
  refine ⟨T, id, pa, slot, hty, h1, h2, ?_⟩
  have hA := ha cpos pins s1 σ H1 _ I1 q1
  rw [hs] at hA ⊢
  refine Calls.callWith_builtin (by show (false || (backTo cpos (starEach es X.env)).any (·.1)) = false; rw [hplain] <;> rfl) (Calls.evalArgs_plain ?_)
  exact thn hA fun us s2 ⟨vs, H2, I2, r2, q2⟩ => hm pins s2 σ H2 x vs v us Q I2 r1 r2 q2
/- xs.append(e), list.index on a module's tuple .. are MtR facts of 06m -/
end
end L2
namespace L2
open PySem PySem.Spec PyProof.Rows
noncomputable def MtM (X : Cx) (id : String) (r : V → List V → Hp → VK → Prop) : Prop :=
  ∀ (pins : List (Addr × Obj)) (s : Shared) (σ : St) (H : Hp) (x : V) (xs : List V) (v : Value) (us : List Value) (Q : VK), Inv X pins σ H s → RelV x v → Vals xs us → r x xs H Q →
    wpAny (model X.prog X.w) X.A (call (.builtin id) (v :: us)) (EP X pins σ Q) X.xe s
theorem Vals.one : ∀ {x : V} {us : List Value}, Vals [x] us → ∃ u, us = [u] ∧ RelV x u
  | _, _, .cons r .nil => ⟨_, rfl, r⟩
theorem Vals.two : ∀ {x y : V} {us : List Value}, Vals [x, y] us → ∃ u v, us = [u, v] ∧ RelV x u ∧ RelV y v
  | _, _, _, .cons r (.cons q .nil) => ⟨_, _, rfl, r, q⟩
theorem Vals.zero : ∀ {us : List Value}, Vals [] us → us = []
  | _, .nil => rfl
theorem Vals.reverse {xs : List V} {us : List Value} (h : Vals xs us) : Vals xs.reverse us.reverse := by
  induction h with
  | nil => exact .nil
  | cons r t ih => rw [List.reverse_cons, List.reverse_cons]; exact Vals.append ih (.cons r .nil)
theorem Vals.rep {xs : List V} {us : List Value} (h : Vals xs us) : ∀ k : Nat, Vals (List.replicate k xs).flatten (List.replicate k us).flatten
  | 0 => .nil
  | k + 1 => by
    rw [List.replicate_succ, List.replicate_succ, List.flatten_cons, List.flatten_cons]
    exact Vals.append h (Vals.rep h k)
theorem foldl_rep (its : List Value) : ∀ (k : Nat) (acc : List Value),
    List.foldl (fun x1 x2 => x1 ++ x2) acc.toArray (List.replicate k its.toArray) = (acc ++ (List.replicate k its).flatten).toArray
  | 0, acc => by simp
  | k + 1, acc => by
    have e : acc.toArray ++ its.toArray = (acc ++ its).toArray := by simp
    have e2 : (acc ++ its) ++ (List.replicate k its).flatten = acc ++ (List.replicate (k + 1) its).flatten := by
      rw [List.replicate_succ, List.flatten_cons, List.append_assoc]
    rw [← e2, ← foldl_rep its k (acc ++ its), ← e, List.replicate_succ, List.foldl_cons]
section
variable {X : Cx} {pins : List (Addr × Obj)} {σ : St} {H : Hp} {s : Shared} {l b : Addr} {xs ys zs : List V}
theorem Inv.lset {its its' : List Value} {n : Nat} {f : Array Value → Array Value} {t' : Nat} (I : Inv X pins σ H s) (hH : H l = some (.lst xs))
    (e : s.heap.get? l = some { cls := .type "list", data := .seq its.toArray n }) (hf : f its.toArray = its'.toArray) (hv : Vals ys its') (hz : ys.length ≤ sizeLine) :
    Inv X pins σ (upd H l (.lst ys)) { s with heap := s.heap.update l (Obj.mapSeq f), toks := t' } := by
  have q := PySem.IsL.update e f
  rw [hf] at q
  refine I.write (x := l) (e := l) (by rw [hH]; exact trivial) (.inl rfl) (fun b' u hb hu => (Heap.get?_update_other s.heap (Obj.mapSeq f) (Ne.symm hb)).trans hu) ⟨_, q⟩ ?_
  exact ⟨hz, its', _, hv, q⟩
theorem Inv.lnew {its : List Value} {t' : Nat} (I : Inv X pins σ H s) (hv : Vals ys its) (hz : ys.length ≤ sizeLine) :
    Inv X pins σ (upd H s.heap.objs.size (.lst ys)) { s with heap := s.heap.push { cls := .type "list", data := .seq its.toArray }, toks := t' } :=
  I.laid (fun _ _ q => Heap.get?_push_of_some _ q) (Nat.le_refl _) ⟨hz, its, 0, hv, Heap.get?_push_size _ rfl⟩
theorem Inv.fresh (I : Inv X pins σ H s) : H s.heap.objs.size = none := I.hok.fresh (Nat.le_refl _)
theorem Inv.lstM (I : Inv X pins σ H s) (hH : H l = some (.lst xs)) : xs.length ≤ sizeLine ∧ ∃ (its : List Value) (n : Nat), Vals xs its ∧ xs.length = its.length ∧ s.heap.get? l = some { cls := .type "list", data := .seq its.toArray n } := by
  obtain ⟨z, its, n, r, e⟩ := I.hok l _ hH
  exact ⟨z, its, n, r, r.length, e⟩
theorem notLongL {n : Nat} (h : n ≤ sizeLine) : Builtin.List.listTooLong n = false := by
  unfold Builtin.List.listTooLong
  exact decide_eq_false (by omega)
end
section
variable {X : Cx}
noncomputable def rAppend : V → List V → Hp → VK → Prop := fun x vs H Q => ∃ l xs y, x = .ref l ∧ vs = [y] ∧ H l = some (.lst xs) ∧ xs.length < sizeLine ∧ Q .non (upd H l (.lst (xs ++ [y])))
theorem mt_append : MtM X "list.append" rAppend := by
  intro pins s σ H x vs v us Q I rx rv h
  obtain ⟨l, xs, y, rfl, rfl, hH, hz, q⟩ := h
  cases rx
  obtain ⟨u, rfl, ru⟩ := rv.one
  obtain ⟨z, its, n, r, hl, e⟩ := I.lstM hH
  refine call_meets F.slot_list_append ⟨_, e, rfl⟩ F.entry_list_append (F.args_list_append_2 _ _) (PySem.list_append l its.toArray n u (by rw [List.size_toArray]; omega)) ⟨e, ?_⟩
  refine ⟨.non, _, I.lset (its' := its ++ [u]) hH e (by simp) (r.append (.cons ru .nil)) ?_, rfl, q⟩
  rw [List.length_append, List.length_singleton]
  omega
noncomputable def rExtend : V → List V → Hp → VK → Prop := fun x vs H Q => ∃ l b xs zs, x = .ref l ∧ vs = [.ref b] ∧ H l = some (.lst xs) ∧ H b = some (.lst zs) ∧ xs.length + zs.length ≤ sizeLine ∧ Q .non (upd H l (.lst (xs ++ zs)))
theorem mt_extend : MtM X "list.extend" rExtend := by
  intro pins s σ H x vs v us Q I rx rv h
  obtain ⟨l, b, xs, zs, rfl, rfl, hH, hB, hz, q⟩ := h
  cases rx
  obtain ⟨u, rfl, ru⟩ := rv.one
  cases ru
  obtain ⟨z, its, n, r, hl, e⟩ := I.lstM hH
  obtain ⟨z2, its2, n2, r2, hl2, e2⟩ := I.lstM hB
  have hsz : its.toArray.size + its2.toArray.size ≤ sizeLine := by rw [List.size_toArray, List.size_toArray]; omega
  have hlong : ¬ (!its.toArray.isEmpty && Builtin.List.listTooLong (its.toArray.size + its2.toArray.size)) = true := by
    rw [notLongL hsz, Bool.and_false]
    exact Bool.false_ne_true
  refine call_meets F.slot_list_extend ⟨_, e, rfl⟩ F.entry_list_extend (F.args_list_extend_2 _ _)
    (AutoSeq1.list_extend_list_list_0 l its.toArray n b its2.toArray n2 hlong (by rw [List.size_toArray]; omega) (by omega)) ⟨e, e2, ?_⟩
  refine ⟨.non, _, I.lset (its' := its ++ its2) hH e (by simp) (r.append r2) ?_, rfl, q⟩
  rw [List.length_append]
  omega
noncomputable def rClear : V → List V → Hp → VK → Prop := fun x vs H Q => ∃ l xs, x = .ref l ∧ vs = [] ∧ H l = some (.lst xs) ∧ Q .non (upd H l (.lst []))
theorem mt_clear : MtM X "list.clear" rClear := by
  intro pins s σ H x vs v us Q I rx rv h
  obtain ⟨l, xs, rfl, rfl, hH, q⟩ := h
  cases rx
  have hus := rv.zero
  subst hus
  obtain ⟨z, its, n, r, hl, e⟩ := I.lstM hH
  refine call_meets F.slot_list_clear ⟨_, e, rfl⟩ F.entry_list_clear (F.args_list_clear_1 _) (AutoSeq1.list_clear_list_0 l its.toArray n (by rw [List.size_toArray]; omega)) ⟨e, ?_⟩
  exact ⟨.non, _, I.lset (its' := []) (ys := []) hH e rfl .nil (Nat.zero_le _), rfl, q⟩
noncomputable def rCat : R2 := fun x y H Q => ∃ l b xs zs, x = .ref l ∧ y = .ref b ∧ H l = some (.lst xs) ∧ H b = some (.lst zs) ∧ xs.length + zs.length ≤ sizeLine ∧ ∀ p, H p = none → Q (.ref p) (upd H p (.lst (xs ++ zs)))
theorem op_cat : OpR X (binaryOp .Add) rCat := by
  intro pins s σ H x y v u Q I rx ry h
  obtain ⟨l, b, xs, zs, rfl, rfl, hH, hB, hz, q⟩ := h
  cases rx
  cases ry
  obtain ⟨z, its, n, r, hl, e⟩ := I.lstM hH
  obtain ⟨z2, its2, n2, r2, hl2, e2⟩ := I.lstM hB
  refine PySem.P.add_list e e2 ?_ (by rw [List.size_toArray, List.size_toArray]; omega)
  have ea : its.toArray ++ its2.toArray = (its ++ its2).toArray := by simp
  rw [ea]
  exact ⟨.ref _, _, I.lnew (t' := s.toks) (r.append r2) (by rw [List.length_append]; omega), rfl, q _ I.fresh⟩
noncomputable def rRep : R2 := fun x y H Q => ∃ l k xs, x = .ref l ∧ y = .int k ∧ H l = some (.lst xs) ∧ -(2 ^ 63) ≤ k ∧ k < 2 ^ 63 ∧ xs.length * k.toNat ≤ sizeLine ∧
  ∀ p, H p = none → Q (.ref p) (upd H p (.lst (List.replicate k.toNat xs).flatten))
theorem len_rep {α : Type} (xs : List α) (k : Nat) : (List.replicate k xs).flatten.length = k * xs.length := by
  induction k with
  | zero => simp
  | succ k ih => rw [List.replicate_succ, List.flatten_cons, List.length_append, ih, Nat.succ_mul, Nat.add_comm]
theorem op_rep : OpR X (binaryOp .Mult) rRep := by
  intro pins s σ H x y v u Q I rx ry h
  obtain ⟨l, k, xs, rfl, rfl, hH, h1, h2, hz, q⟩ := h
  cases rx
  obtain ⟨t, rfl⟩ := ry
  obtain ⟨z, its, n, r, hl, e⟩ := I.lstM hH
  have hlen : its.toArray.size * k.toNat ≤ sizeLine := by rw [List.size_toArray, ← hl]; exact hz
  have hcap : ¬ its.toArray.size * k.toNat > (2 ^ 63 - 1) / 8 := by
    have : (sizeLine : Nat) ≤ (2 ^ 63 - 1) / 8 := by decide
    omega
  have hfit : ¬ (!Builtin.List.listFitsIndex k) = true := by
    rw [fitsIndex_both h1 h2]
    exact Bool.false_ne_true
  have hlong : ¬ Builtin.List.listTooLong (its.toArray.size * k.toNat) = true := by
    rw [notLongL hlen]
    exact Bool.false_ne_true
  have hnew : List.foldl (fun x1 x2 => x1 ++ x2) #[] (List.replicate (if its.toArray.isEmpty = true then 0 else k.toNat) its.toArray) = (List.replicate k.toNat its).flatten.toArray := by
    have f0 : ∀ m : Nat, List.foldl (fun x1 x2 => x1 ++ x2) #[] (List.replicate m its.toArray) = (List.replicate m its).flatten.toArray := fun m => by
      have := foldl_rep its m []
      rw [List.nil_append] at this
      exact this
    rw [f0]
    cases its with
    | nil => simp
    | cons a r' => rw [if_neg (by simp)]
  refine wpAny_binaryOp_repeat_ref (T := "list") (U := "int") (by decide) ⟨_, e, rfl⟩ (fun s' => typeIs_int s' k t) noFill_list_mul F.fills_int_mul F.slot_int_rmul repeat_list F.slot_int_index.lookup
    (call_meets F.slot_int_rmul (typeIs_int s k t) F.entry_int_rmul (F.args_int_rmul_2 _ _) (int___rmul___int_list k t l its.toArray n)
      ⟨e, rfl, ⟨_, e, rfl⟩, call_meets F.slot_list_mul ⟨_, e, rfl⟩ F.entry_list_mul (F.args_list_mul_2 _ _) (AutoListH.list___mul___list_int_3 l its.toArray n k t hfit hcap hlong) ⟨e, ?_⟩⟩)
  rw [hnew]
  exact ⟨.ref _, _, I.lnew (t' := s.toks) (r.rep k.toNat) (by rw [len_rep, Nat.mul_comm]; exact hz), rfl, q _ I.fresh⟩
end
section
variable {prog : Program} {w : World} {A : Around} {E : Value → Shared → Prop} {s : Shared}
set_option maxRecDepth 100000 in
end
section
variable {X : Cx}
end
end L2
namespace Att
open PySem PySem.W PySem.Calls PyProof.Rows
theorem ints_of_wellAll {P : Params} {h : Heap} : ∀ (ns : List Int) (vs : List Value), WellAll P h vs (ns.map WData.int) → IntsAre vs ns := by
  intro ns
  induction ns with
  | nil =>
    intro vs w
    rw [List.map_nil] at w
    cases w
    exact .nil
  | cons n ns ih =>
    intro vs w
    rw [List.map_cons] at w
    cases w with
    | cons a b =>
      cases a
      exact .cons _ _ (ih _ b)
theorem script_of {l : OpenLaw} {n : Nat} (hn : l.most = some n) {P : Params} {h : Heap} {args : List WData} {vals : List Value}
    (hpre : l.row.toRowW.claim.pre args = true) (hwl : WellAll P h vals args) :
    ∃ a vs ns, vals = [Value.ref a] ∧ args = [WData.list (ns.map WData.int)] ∧ h.get? a = some { cls := .type "list", data := .seq vs.toArray } ∧ IntsAre vs ns ∧ ns.length ≤ n := by
  have hsh : WShape.hasAll [] args [.list .int] = true := (pre_splitW hpre).1
  have hc : l.pre.holds [] { args := args } = true := (pre_splitW hpre).2
  obtain ⟨d, r, rfl, h1, h2⟩ := hasAllW_cons hsh
  obtain rfl := hasAllW_nil h2
  obtain ⟨xs, rfl, h3⟩ := hasW_list h1
  obtain ⟨ns, rfl⟩ := items_int h3
  have hlen : ns.length ≤ n := by
    unfold OpenLaw.pre at hc
    have h4 : (WTm.not (.lt (.lit (.int (n : Int))) (.len (.arg 0)))).holds [] { args := [.list (ns.map .int)] } = true := by
      have h4 := (holds_andW hc).1
      rw [hn] at h4
      exact h4
    have h5 := condW_of h4 (w_not (w_lt w_lit (w_len_list (w_arg rfl))))
    rw [List.length_map] at h5
    refine Nat.le_of_not_lt fun q => ?_
    have q' : (n : Int) < ((ns.length : Nat) : Int) := by omega
    first
      | (rw [decide_eq_true q'] at h5; exact absurd h5 (by decide))
      | (simp at h5; omega)
  cases hwl with
  | cons w1 w2 =>
    cases w2
    cases w1 with
    | list ho hall => exact ⟨_, _, ns, rfl, rfl, ho, ints_of_wellAll ns _ hall, hlen⟩
theorem post_true (l : OpenLaw) (args : List WData) : l.row.toRowW.claim.post args (.bool true) args = true :=
  postW_of (r := l.row.toRowW) (X := (true == true))
    (show WShape.has [] (.bool true) .bool = true by first | rfl | decide | simp [WShape.has, WShape.arms, WShape.armsAll])
    (show (WTm.eq .res (.lit (.bool true))).value [] { args := args, res := some (.bool true), after := args } = some (.bool (true == true)) from w_eq_bool (w_res rfl) w_lit) rfl
theorem attach_call {l : OpenLaw} {n : Nat} {q : Program} {loose : List Str} {XP : (Str → Option Value) → Heap → Prop} {YP : World → Heap → Prop} {d : DefRec}
    (hn : l.most = some n) (hdf : d.params.defaults = [])
    (call : ∀ (w : World) (s₀ s₁ : Shared) (mg mb : Str → Option Value) (fa : Addr) (o : Obj) (pm cd doc : Value) (a : Addr) (vs : List Value) (ns : List Int),
      Ground q loose [] XP w s₀ mg mb s₁.heap → YP w s₁.heap →
      s₁.heap.get? fa = some o → o.data = .func (docDef d.name d.params d.body d.scope pm cd doc) → s₁.heap.CodeRec cd d.name → mg d.name = some (.ref fa) →
      s₁.heap.get? a = some { cls := .type "list", data := .seq vs.toArray } → IntsAre vs ns → ns.length ≤ n → s₁.gens = #[] →
      codeAny (model l.prog w) callerA (.call (.ref fa) ⟨[.ref a], []⟩) (fun r s' => r = .ok (.ret (.bool true)) ∧ OldK s₁.heap s'.heap ∧ s'.os = s₁.os ∧ AllBare s'.gens) s₁) :
    WalkO q loose XP YP l.row.toRowW d [] (fun f vs => PySem.call f vs) := by
  intro w s₀ s₁ mg mb G Y fa o pm cd doc dV kV ho hd hcd hD hmg hg args vals as hpre hlay hrd hwl hlo
  obtain rfl : dV = .none := Dflts.none hD hdf
  obtain rfl : kV = .none := Dflts.noKw hD
  obtain ⟨a, vs, ns, rfl, rfl, hobj, hints, hlen⟩ := script_of hn hpre hwl
  refine enter_call (codeAny_mono (call w s₀ s₁ mg mb fa o pm cd doc a vs ns G Y ho (fd_plain hd) hcd hmg hobj hints hlen hg) fun r s' hq => ?_)
  obtain ⟨rfl, h2, h3, h4⟩ := hq
  exact ⟨.inl ⟨.bool true, .bool true, [], rfl, fun _ => rfl, .bool true, post_true l _, fun _ => ⟨List.Pairwise.nil, fun _ hm => (nomatch hm)⟩⟩, h2, h3, h4⟩
section
variable {prog : Program} {w : World} {A : Around} {E : Value → Shared → Prop} {s : Shared} {K : Frag}
end
end Att
namespace L2
open PySem PySem.Spec PyProof.Rows
theorem vals_ints : ∀ {vs : List Value} {ns : List Int}, IntsAre vs ns → Vals (ns.map V.int) vs
  | _, _, .nil => .nil
  | _, _, .cons n t h => .cons ⟨t, rfl⟩ (vals_ints h)
noncomputable def Only (H : Hp) : Prop := ∀ b, H b = none ∨ ∃ o xs, H b = some (.frz o (.lst xs))
theorem law_call {P : Program} {w : World} {K : PySem.W.Frag} {mg mb : Str → Option Value} {CX : CXT} {k : Nat} {fa a : Addr} {fd : FuncData} {x : Str} {sp : Sp} {s₁ : Shared} {vs : List Value} {ns : List Int}
    (KX : K.In s₁.heap) (hns : s₁.heap.Ns mainGlobals mg) (hb : s₁.heap.Ns builtinsNs mb) (hbb : ∀ x : Str, x ≠ "__name__" → mb x = bootBuiltins x) (hlim : s₁.heap.NoLimit) (hg : s₁.gens = #[])
    (ha : s₁.heap.get? a = some { cls := .type "list", data := .seq vs.toArray }) (hi : IntsAre vs ns) (hl : ns.length ≤ sizeLine) (hr : Room k callerA)
    (F : ∀ base : Heap, K.In base → base.Ns mainGlobals mg → FnOk P w K mg base CX k fa fd [x] sp) (hbind : ∀ (s : Shared) (u : Value), BindsTo s fd ⟨[u], []⟩ [(x, u)])
    (hsp : ∀ H : Hp, Only H → SqL K H a (ns.map V.int) → sp [.ref a] H (fun v _ => v = .bl true) fun _ _ _ => False)
    (hCX : ∀ H e s', CX [] H s₁ (fun _ _ _ => False) e s' → False) :
    codeAny (model P w) callerA (.call (.ref fa) ⟨[.ref a], []⟩) (fun r s' => r = .ok (.ret (.bool true)) ∧ OldK s₁.heap s'.heap ∧ s'.os = s₁.os ∧ AllBare s'.gens) s₁ := by
  have rv := vals_ints hi
  have lenV := hi.length
  -- from an abstract heap in which nothing but the script may be tracked
  have core : ∀ H : Hp, Only H → SqL K H a (ns.map V.int) → HOk P w H s₁.heap → (∀ b, H b ≠ none → b = a) → (H a ≠ none → K.lookup a = none) →
      codeAny (model P w) callerA (.call (.ref fa) ⟨[.ref a], []⟩) (fun r s' => r = .ok (.ret (.bool true)) ∧ OldK s₁.heap s'.heap ∧ s'.os = s₁.os ∧ AllBare s'.gens) s₁ := by
    intro H hO hS hok hA hK
    have base_of : ∀ {b : Addr} {o : Obj}, s₁.heap.get? b = some o → H b = none → (hidT s₁.heap H).get? b = some o := fun e n => hidT_get e n
    have noA : ∀ {b : Addr} {o : Obj} {es : Array DictEntry} {ep : Nat}, s₁.heap.get? b = some o → o.data = .dict es ep → H b = none := fun {b o es ep} e d => by
      cases q : H b with
      | none => rfl
      | some u =>
        have e' : b = a := hA b (by rw [q]; simp)
        subst e'
        rw [ha] at e; cases e
        have d' : Data.seq vs.toArray _ = Data.dict es ep := d
        cases d'
    have nsK : ∀ {b : Addr} {m : Str → Option Value}, s₁.heap.Ns b m → (hidT s₁.heap H).Ns b m := fun {b m} ⟨o, es, ep, e, d, r⟩ => ⟨o, es, ep, base_of e (noA e d), d, r⟩
    have hKb : K.In (hidT s₁.heap H) := fun b o e => base_of (KX b o e) (by
      cases q : H b with
      | none => rfl
      | some u =>
        have e' : b = a := hA b (by rw [q]; simp)
        subst e'
        rw [hK (by rw [q]; simp)] at e; cases e)
    have hM : Mod K mg (hidT s₁.heap H) := ⟨hKb, nsK hns, ⟨mb, nsK hb, hbb⟩, let ⟨mc, h1, h2⟩ := hlim; ⟨mc, nsK h1, h2⟩⟩
    have e0 : Env0 P w K mg (hidT s₁.heap H) callerA [] s₁ H := ⟨rfl, hM, fun b o e => of_hidT e, Nat.le_of_eq (hidT_size _ _), trivial, fun b hb => absurd (show b ∈ ([] : List Addr) from hb) (by simp), hok, .of_eq hg⟩
    refine codeAny_mono ((F _ hKb (nsK hns)).run callerA [] s₁ H ⟨[.ref a], []⟩ [.ref a] [.ref a] _ _ hr e0 (hbind s₁ (.ref a)) (.cons rfl .nil) (hsp H hO hS)) fun r s' h => ?_
    cases r with
    | error e => exact (hCX H e s' h).elim
    | ok fl =>
      cases fl with
      | next => exact False.elim h
      | brk => exact False.elim h
      | cont => exact False.elim h
      | ret u =>
        obtain ⟨v, H', os, bare, un, hok', r', q⟩ := h
        have q' : v = .bl true := q
        subst q'
        obtain rfl : u = Value.bool true := r'
        refine ⟨rfl, OldK.of_keep fun b o e => ?_, os, bare⟩
        cases q : H b with
        | none => exact un.keep b o e q (by intro z; exact absurd (show b ∈ ([] : List Addr) from z) (by simp)) (by simp)
        | some u =>
          rcases hO b with z | ⟨ob, xs, z⟩
          · rw [q] at z; cases z
          · have z2 := un.frzs b ob _ z
            obtain ⟨e1, _⟩ := hok b _ z
            obtain ⟨e2, _⟩ := hok' b _ z2
            rw [e] at e1; cases e1
            exact e2
  cases hk : K.lookup a with
  | some o =>
    -- the script is one of the module's own objects
    have e := KX a o hk
    rw [ha] at e
    cases e
    refine core (fun _ => none) (fun _ => .inl rfl) (.inr ⟨_, vs.toArray, _, hk, rfl, rfl, rfl, by rw [List.size_toArray, lenV]; exact hl, by simpa using rv⟩) (fun b u z => by have z' : (none : Option HO) = some u := z; cases z') (fun b z => absurd rfl z) fun z => absurd rfl z
  | none =>
    refine core (fun b => if b = a then some (.frz { cls := .type "list", data := .seq vs.toArray } (.lst (ns.map V.int))) else none) (fun b => ?_) (.inl (.inr ⟨{ cls := .type "list", data := .seq vs.toArray }, if_pos rfl⟩)) (fun b u z => ?_) (fun b z => ?_) fun _ => hk
    · by_cases hb : b = a
      · exact .inr ⟨_, _, if_pos hb⟩
      · exact .inl (if_neg hb)
    · by_cases hb : b = a
      · have z' := (if_pos hb).symm.trans z
        cases z'
        subst hb
        exact ⟨ha, by rw [List.length_map]; exact hl, vs, _, rv, ha⟩
      · have z' := (if_neg hb).symm.trans z
        cases z'
    · by_cases hb : b = a
      · exact hb
      · exact absurd (if_neg hb) z
end L2
namespace L2
open PySem PySem.Spec PyProof.Rows
theorem walk_of {l : PySem.W.OpenLaw} {n k : Nat} {q : Program} {loose : List Str} {XP : (Str → Option Value) → Heap → Prop} {YP : World → Heap → Prop} {d : DefRec} {K : Params → PySem.W.Frag} {CX : World → CXT} {sp : World → Sp} {x : Str}
    (hn : l.most = some n) (hn2 : n ≤ sizeLine) (hdf : d.params.defaults = []) (hr : Room k callerA)
    (hY : ∀ (w : World) (h : Heap), YP w h → (K w.params).In h)
    (F : ∀ (w : World) (mg : Str → Option Value) (fa : Addr) (h : Heap), (K w.params).In h → h.Ns mainGlobals mg → mg d.name = some (.ref fa) →
      ∃ fd : FuncData, (∀ (s : Shared) (u : Value), BindsTo s fd ⟨[u], []⟩ [(x, u)]) ∧
        ∀ base : Heap, (K w.params).In base → base.Ns mainGlobals mg → FnOk l.prog w (K w.params) mg base (CX w) k fa fd [x] (sp w))
    (hsp : ∀ (w : World) (H : Hp) (a : Addr) (ns : List Int), ns.length ≤ n → Only H → SqL (K w.params) H a (ns.map V.int) → sp w [.ref a] H (fun v _ => v = .bl true) fun _ _ _ => False)
    (hCX : ∀ (w : World) (H : Hp) (s : Shared) (e : Value) (s' : Shared), CX w [] H s (fun _ _ _ => False) e s' → False) :
    PySem.W.WalkO q loose XP YP l.row.toRowW d [] (fun f vs => PySem.call f vs) := by
  refine Att.attach_call hn hdf fun w s₀ s₁ mg mb fa o pm cd doc a vs ns G Y ho hd hcd hmg hobj hints hlen hg => ?_
  have KX := hY w _ Y
  obtain ⟨fd, hb, hF⟩ := F w mg fa _ KX G.T.g hmg
  exact law_call KX G.T.g G.T.b G.T.builtins G.T.nolimit hg hobj hints (Nat.le_trans hlen hn2) hr hF hb (fun H hO hS => hsp w H a ns hlen hO hS) fun H e s' => hCX w H s₁ e s'
end L2
/- THE LAST THEOREM (shape; LID, My.* are yours):
   My.Adr: a structure of the addresses that your layer names (classes, functions); My.Txt K t: a structure (Prop) of the equations over K;
   My.txt_mk : {K} {implicit addresses ..} (e1 : nsIn K mainGlobals "law" = some (some (.ref f))) (e2 : K.lookup f = some ⟨oc, od, .func (fnOf "law" "law" params body scope dV kV doc pm an cdv ct), sl⟩) (e3 : codeIn K cdv "law" = true) .. : ∃ t, My.Txt K t
set_option maxRecDepth 100000 in
set_option maxHeartbeats 0 in
(the tactic k_is has no namespace: write k_is) -/
namespace L2
open PySem PySem.Spec PyProof.Rows
noncomputable def defArgs (s : Stmt) : Arguments := match s with
  | .FunctionDef _ a _ _ _ _ _ _ _ _ => a
  | _ => { posonlyargs := [], args := [], vararg := none, kwonlyargs := [], kw_defaults := [], kwarg := none, defaults := [] }
noncomputable def defBody (s : Stmt) : List Stmt := match s with
  | .FunctionDef _ _ b _ _ _ _ _ _ _ => b
  | _ => []
noncomputable def defScope (s : Stmt) : Scope := match s with
  | .FunctionDef _ _ _ _ _ _ sc _ _ _ => sc
  | _ => { kind := .function, names := [], isGenerator := false, isCoroutine := false }
noncomputable abbrev CX0 : CXT := fun _ _ _ _ _ _ => False
noncomputable abbrev E0 : XK := fun _ _ _ => False
theorem pass0 {X : Cx} : Passes CX0 X E0 := fun _ _ _ _ _ _ _ h => h.elim
structure Fun (K : PySem.W.Frag) (x qual : Str) (st : Stmt) (f : Addr) (fd : FuncData) : Prop where
  ex : ∃ (oc : Value) (od : Option Addr) (kV doc pm : Value) (an : Option Addr) (cdv ct : Value) (osl : Array (Option Value)),
    fd = PySem.W.fnOf x qual (defArgs st) (defBody st) (defScope st) .none kV doc pm an cdv ct ∧ K.lookup f = some ⟨oc, od, .func fd, osl⟩ ∧ PySem.W.codeIn K cdv qual = true
  kp : PySem.W.keepIn K (.ref f) = true
section
variable {P : Program} {w : World} {K : PySem.W.Frag} {mg : Str → Option Value} {base : Heap}
theorem Fun.ok {x qual : Str} {st : Stmt} {f : Addr} {fd : FuncData} {N ps : List Str} {k : Nat} {sp : Sp} (F : Fun K x qual st f fd) (S : FnScope N ps (defScope st)) (len : ∀ vs H Q E, sp vs H Q E → vs.length = ps.length)
    (hbody : ∀ (cdv : Value) (A : Around) (outer : List Env) (s : Shared) (H : Hp) (vs : List V) (Q : VK) (E : XK), Room k (A.deeper (envOfC qual (defScope st) s.heap.objs.size f cdv)) → sp vs H Q E →
      ∃ t, PSs (cxOf CX0 P w K mg base N qual (defScope st) f cdv A outer s H E).nox (defBody st) t ∧ t { nx := fun _ H' => Q .non H', rt := Q } (start N vs) H) : FnOk P w K mg base CX0 (k + 1) f fd ps sp := by
  obtain ⟨oc, od, kV, doc, pm, an, cdv, ct, osl, rfl, lk, hcd⟩ := F.ex
  refine fn_of lk hcd S len fun A outer s H vs Q E hr hsp => ?_
  obtain ⟨t, h, q⟩ := hbody cdv A outer s H vs Q E hr hsp
  exact ⟨t, h.nox, q⟩
theorem Fun.binds {x qual : Str} {st : Stmt} {f : Addr} {fd : FuncData} {ps : List Str} (F : Fun K x qual st f fd)
    (h : ∀ (kV doc pm : Value) (an : Option Addr) (cdv ct : Value) (us : List Value), us.length = ps.length → bindArgs (PySem.W.fnOf x qual (defArgs st) (defBody st) (defScope st) .none kV doc pm an cdv ct) ⟨us, []⟩ = pure (ps.zip us)) : Binds K fd ps [] := by
  obtain ⟨oc, od, kV, doc, pm, an, cdv, ct, osl, rfl, lk, hcd⟩ := F.ex
  exact .all (h kV doc pm an cdv ct)
theorem fun_mk {x qual : Str} {st : Stmt} {f : Addr} {oc : Value} {od an : Option Addr} {osl : Array (Option Value)} {kV doc pm cdv ct : Value} (l : K.lookup f = some ⟨oc, od, .func (PySem.W.fnOf x qual (defArgs st) (defBody st) (defScope st) .none kV doc pm an cdv ct), osl⟩)
    (c : PySem.W.codeIn K cdv qual = true) (k : PySem.W.keepIn K (.ref f) = true) : Fun K x qual st f (PySem.W.fnOf x qual (defArgs st) (defBody st) (defScope st) .none kV doc pm an cdv ct) := ⟨⟨oc, od, kV, doc, pm, an, cdv, ct, osl, rfl, l, c⟩, k⟩
end
theorem small1000 {n : Nat} (h : n ≤ 1000) : n < sizeLine := Nat.lt_of_le_of_lt h (by decide)
section
variable {X : Cx}
end
end L2
set_option Elab.async false
set_option linter.all false
set_option maxRecDepth 100000
set_option maxHeartbeats 4000000
namespace L2
open PySem PySem.Spec PyProof.Rows
section
variable {X : Cx}
theorem call_absV : CallR X (.builtin "abs") (fun xs H Q => ∃ i : Int, xs = [.int i] ∧ Q (.int (i.natAbs : Int)) H) := by
  intro pins s σ H xs us Q I r h
  obtain ⟨i, rfl, q⟩ := h
  obtain ⟨u, rfl, rx⟩ := vals1 r
  obtain ⟨t, rfl⟩ := rx
  have e : (if i < 0 then -i else i) = (i.natAbs : Int) := by split <;> omega
  exact call_abs_int fun u tk => ⟨.int (i.natAbs : Int), H, I.tok _, ⟨u, by rw [e]⟩, q⟩
theorem call_intB : CallR X (.type "int") (fun xs H Q => ∃ b : Bool, xs = [.bl b] ∧ Q (.int (if b then 1 else 0)) H) := by
  intro pins s σ H xs us Q I r h
  obtain ⟨b, rfl, q⟩ := h
  obtain ⟨u, rfl, rx⟩ := vals1 r
  cases rx
  exact PySem.call_int_bool ⟨.int _, H, I.tok _, ⟨_, rfl⟩, q⟩
inductive Kd (K : PySem.W.Frag) (H : Hp) : V → String → Prop
  | non : Kd K H .non "NoneType"
  | bl (b) : Kd K H (.bl b) "bool"
  | int (i) : Kd K H (.int i) "int"
  | str (x) : Kd K H (.str x) "str"
  | tup {a xs} : SqT K H a xs → Kd K H (.ref a) "tuple"
  | lst {a xs} : SqL K H a xs → Kd K H (.ref a) "list"
noncomputable def isi (k T : String) : Bool := k == T || (k == "bool" && T == "int")
noncomputable def tys : List String := ["int", "bool", "tuple", "list", "str"]
theorem call_isi : CallR X (.builtin "isinstance") (fun xs H Q => ∃ x k T, xs = [x, .ty T] ∧ Kd X.K H x k ∧ T ∈ tys ∧ Q (.bl (isi k T)) H) := by
  intro pins s σ H xs us Q I r h
  obtain ⟨x, k, T, rfl, hk, hT, q⟩ := h
  obtain ⟨u, v, rfl, rx, ry⟩ := Vals.two r
  cases ry
  have f0 : ∀ b t, Q (.bl b) H → EP X pins σ Q (.bool b) { s with toks := t } := fun b t q => ⟨.bl b, H, I.tok _, rfl, q⟩
  have f1 : ∀ b, Q (.bl b) H → EP X pins σ Q (.bool b) s := fun b q => ⟨.bl b, H, I, rfl, q⟩
  simp only [tys, List.mem_cons, List.not_mem_nil, or_false] at hT
  cases hk with
  | non =>
    cases rx
    rcases hT with rfl | rfl | rfl | rfl | rfl
    · exact IsiPair.NoneType_int (f0 _ _ q)
    · exact IsiPair.NoneType_bool (f0 _ _ q)
    · exact IsiPair.NoneType_tuple (f0 _ _ q)
    · exact IsiPair.NoneType_list (f0 _ _ q)
    · exact IsiPair.NoneType_str (f0 _ _ q)
  | bl b =>
    cases rx
    rcases hT with rfl | rfl | rfl | rfl | rfl
    · exact IsiPair.bool_int (f1 _ q)
    · exact IsiPair.bool_bool (f1 _ q)
    · exact IsiPair.bool_tuple (f0 _ _ q)
    · exact IsiPair.bool_list (f0 _ _ q)
    · exact IsiPair.bool_str (f0 _ _ q)
  | int i =>
    obtain ⟨t, rfl⟩ := rx
    rcases hT with rfl | rfl | rfl | rfl | rfl
    · exact IsiPair.int_int (f1 _ q)
    · exact IsiPair.int_bool (f0 _ _ q)
    · exact IsiPair.int_tuple (f0 _ _ q)
    · exact IsiPair.int_list (f0 _ _ q)
    · exact IsiPair.int_str (f0 _ _ q)
  | str z =>
    obtain ⟨t, rfl⟩ := rx
    rcases hT with rfl | rfl | rfl | rfl | rfl
    · exact IsiPair.str_int (f0 _ _ q)
    · exact IsiPair.str_bool (f0 _ _ q)
    · exact IsiPair.str_tuple (f0 _ _ q)
    · exact IsiPair.str_list (f0 _ _ q)
    · exact IsiPair.str_str (f1 _ q)
  | tup hq =>
    cases rx
    obtain ⟨its, rv, ⟨o, ho, hc, _⟩, _⟩ := I.tuple hq
    rcases hT with rfl | rfl | rfl | rfl | rfl
    · exact IsiPair.tuple_int ho hc (f0 _ _ q)
    · exact IsiPair.tuple_bool ho hc (f0 _ _ q)
    · exact IsiPair.tuple_tuple ho hc (f1 _ q)
    · exact IsiPair.tuple_list ho hc (f0 _ _ q)
    · exact IsiPair.tuple_str ho hc (f0 _ _ q)
  | lst hq =>
    cases rx
    obtain ⟨its, rv, ⟨o, n, ho, hc, _⟩, _⟩ := I.list hq
    rcases hT with rfl | rfl | rfl | rfl | rfl
    · exact IsiPair.list_int ho hc (f0 _ _ q)
    · exact IsiPair.list_bool ho hc (f0 _ _ q)
    · exact IsiPair.list_tuple ho hc (f0 _ _ q)
    · exact IsiPair.list_list ho hc (f1 _ q)
    · exact IsiPair.list_str ho hc (f0 _ _ q)
theorem call_allB (hc : X.calm = true) : CallR X (.builtin "all") (fun xs H Q => ∃ (p : Addr) (bs : List Bool), xs = [.ref p] ∧ SqL X.K H p (bs.map V.bl) ∧ Q (.bl (bs.all id)) H) := by
  intro pins s σ H xs us Q I r h
  obtain ⟨p, bs, rfl, hq, q⟩ := h
  obtain ⟨u, rfl, rx⟩ := vals1 r
  cases rx
  obtain ⟨its, rv, pl, hz⟩ := I.list hq
  have hne : p ≠ s.heap.objs.size := by
    obtain ⟨o, n, ho, _⟩ := pl
    exact Nat.ne_of_lt (Heap.lt_size ho)
  have hl := rv.length
  rw [List.length_map] at hl
  have hA : X.A.in1.handled = none := I.ok.hd hc
  refine call_all_walk (wpAny_pyIter_list pl.isList ?_)
  refine ⟨s.heap.objs.size, _, _, _, _, _, (fun i => bs.getD i true), rfl, Walks.list hA s.heap.objs.size p hne its.toArray, ⟨⟨_, Heap.get?_push_size _ rfl, rfl, rfl⟩, pl.isList.at fun o e => Heap.get?_push_of_some _ e⟩, ?_, ?_⟩
  · intro i v s' Q' E' hv hQ'
    have hv' : its[i]? = some v := by simpa using hv
    have hi : i < its.length := (List.getElem?_eq_some_iff.mp hv').1
    have hb : (bs.map V.bl)[i]? = some (V.bl bs[i]) := by
      rw [List.getElem?_map, List.getElem?_eq_getElem (by omega)]; rfl
    obtain ⟨u, hu, ru⟩ := rv.get hb
    rw [hv'] at hu
    cases hu
    cases ru
    have e : bs.getD i true = bs[i] := by rw [List.getD_eq_getElem?_getD, List.getElem?_eq_getElem (by omega)]; rfl
    simp only [e] at hQ'
    exact wpAny_truthy_bool hQ'
  · intro h' tk hk
    have e : (List.range its.toArray.size).all (fun i => bs.getD i true) = bs.all id := by
      rw [List.size_toArray, ← hl]
      clear hl hz rv q hq pl hne
      rw [Bool.eq_iff_iff, List.all_eq_true, List.all_eq_true]
      constructor
      · intro h b hb
        obtain ⟨i, hi, rfl⟩ := List.mem_iff_getElem.mp hb
        have := h i (List.mem_range.mpr hi)
        rw [List.getD_eq_getElem?_getD, List.getElem?_eq_getElem hi] at this
        exact this
      · intro h i hi
        have hi := List.mem_range.mp hi
        rw [List.getD_eq_getElem?_getD, List.getElem?_eq_getElem hi]
        exact h _ (List.getElem_mem hi)
    rw [e]
    refine ⟨.bl _, H, ?_, rfl, q⟩
    exact I.kept fun b o e => hk b o (by simp; exact Nat.ne_of_lt (Heap.lt_size e)) (Heap.get?_push_of_some _ e)
end
end L2
set_option Elab.async false
set_option linter.all false
set_option maxRecDepth 100000
set_option maxHeartbeats 4000000
namespace L2
open PySem PySem.Spec PyProof.Rows
section
variable {X : Cx} {pins : List (Addr × Obj)} {σ : St} {H : Hp} {s : Shared} {h' : Heap}
theorem Inv.turnedLaid {t' : Nat} {ch : List Addr} {a : Addr} {o : HO} (I : Inv X pins σ H s) (k : ∀ b u, b ∉ ch → s.heap.get? b = some u → h'.get? b = some u) (hf : ∀ b ∈ ch, FpOk X pins H b) (hp : s.heap.objs.size ≤ a)
    (new : ObjOk X.prog X.w (upd H a o) h' a o) : Inv X pins σ (upd H a o) { s with heap := h', toks := t' } := by
  have hn := I.hok.fresh hp
  have nit : ∀ b u, H b = some u → b ∉ ch := fun b u e z => by rw [(hf b z).1] at e; cases e
  refine I.step (g' := s.gens) (d' := s.drawn) (ch := ch) (fun b hb => ⟨(hf b hb).2.2.2.1, (hf b hb).2.1, (hf b hb).2.2.2.2.1, (hf b hb).2.2.2.2.2⟩) (fun b u _ _ hc e _ => k b u hc e) (fun b u _ _ hc e _ => ⟨u.slots, k b u hc e⟩)
    (fun b u hc e n => by rw [upd_ne (Nat.ne_of_lt (Nat.lt_of_lt_of_le (Heap.lt_size e) hp))]; exact n) (fun b u hc e => ⟨u, k b u hc e⟩) (fun b xs e => by rw [upd_ne (ne_of_none e hn)]; exact e) (fun b u xs e => by rw [upd_ne (ne_of_none e hn)]; exact e)
    (fun b ps e => ⟨#[], by rw [upd_ne (ne_of_none e hn), e]; simp⟩) (fun m hm => ?_) (fun b u e => ?_) I.bare
  · obtain ⟨ob, es, ep, ho, r⟩ := hm
    exact ⟨ob, es, ep, k _ ob (fun z => (hf _ z).2.1 rfl) ho, r⟩
  · by_cases hb : b = a
    · subst hb; rw [upd_same] at e; cases e; exact new
    · rw [upd_ne hb] at e
      refine (I.hok b u e).stay (fun c v hc q => k c v ?_ q) (fun c q => by rw [upd_ne (ne_of_none q hn)]; exact q) fun c xs q => by rw [upd_ne (ne_of_none q hn)]; exact q
      rcases hc with z | z
      · rw [z]; exact nit b u e
      · exact nit c _ z
theorem Inv.turnedL {t' : Nat} {ch : List Addr} (I : Inv X pins σ H s) (k : ∀ b u, b ∉ ch → s.heap.get? b = some u → h'.get? b = some u) (hf : ∀ b ∈ ch, FpOk X pins H b) : Inv X pins σ H { s with heap := h', toks := t' } := by
  have nit : ∀ b u, H b = some u → b ∉ ch := fun b u e z => by rw [(hf b z).1] at e; cases e
  refine I.step (g' := s.gens) (d' := s.drawn) (ch := ch) (fun b hb => ⟨(hf b hb).2.2.2.1, (hf b hb).2.1, (hf b hb).2.2.2.2.1, (hf b hb).2.2.2.2.2⟩) (fun b u _ _ hc e _ => k b u hc e) (fun b u _ _ hc e _ => ⟨u.slots, k b u hc e⟩)
    (fun b u hc e n => n) (fun b u hc e => ⟨u, k b u hc e⟩) (fun b xs e => e) (fun b u xs e => e) (fun b ps e => ⟨#[], by rw [e]; simp⟩) (fun m hm => ?_) (fun b u e => ?_) I.bare
  · obtain ⟨ob, es, ep, ho, r⟩ := hm
    exact ⟨ob, es, ep, k _ ob (fun z => (hf _ z).2.1 rfl) ho, r⟩
  · refine (I.hok b u e).stay (fun c v hc q => k c v ?_ q) (fun c q => q) fun c xs q => q
    rcases hc with z | z
    · rw [z]; exact nit b u e
    · exact nit c _ z
end
noncomputable def Ite (K : PySem.W.Frag) (a : Addr) : It :=
  ⟨fun i H => ∃ xs x, SqL K H a xs ∧ xs[i]? = some x, fun i H x H' => ∃ p y, x = .ref p ∧ H p = none ∧ H' = upd H p (.tup [.int (i : Int), y]) ∧ ∀ xs, SqL K H a xs → xs[i]? = some y, fun i H => ∃ xs, SqL K H a xs ∧ xs.length ≤ i⟩
theorem turn_enum {P : Program} {w : World} {K : PySem.W.Frag} {elts : List Expr} {x1} {tpos : Pos} (a e it : Addr) (hne : e ≠ it) :
    Turn P w K (.Tuple elts x1 tpos) (Ite K a) [e, it] e (fun i h => (∃ old, IsEnum h e it (i : Nat) old) ∧ h.IsListIter it a i) where
  mem := by simp
  obj := fun i h st b hb => by
    obtain ⟨⟨old, he⟩, ⟨o, ho, hc, hd⟩⟩ := st
    rcases List.mem_cons.mp hb with rfl | hb
    · exact ⟨_, he, fun v z => by cases z⟩
    · rw [List.mem_singleton.mp hb]
      exact ⟨o, ho, fun v z => by rw [hd] at z; cases z⟩
  keep := fun i h h' st k => ⟨let ⟨old, he⟩ := st.1; ⟨old, k e (by simp) _ he⟩, st.2.at fun o x => k it (by simp) o x⟩
  item := by
    intro X hP hw hK hc i pins s σ H E I hf st hg
    subst hP hw hK
    obtain ⟨xs, x, hq, hx⟩ := hg
    obtain ⟨its, rv, p, hz⟩ := I.list hq
    obtain ⟨u, hu, ru⟩ := rv.get hx
    obtain ⟨⟨old, he⟩, hit⟩ := st
    refine wpAny_pyNext_enum_item he hit p.isList (x := u) (by simpa using hu) hne fun h1 ho hit1 ht hsz hk => ⟨_, rfl, ?_⟩
    refine wpAny_letOwnedTupleGo_enum ho fun h2 he2 hs2 => ?_
    have hen : e ≠ s.heap.objs.size := Nat.ne_of_lt (Heap.lt_size he)
    have kk : ∀ b o, b ∉ [e, it] → s.heap.get? b = some o → h2.get? b = some o := fun b o hb q => by
      have h1' : b ≠ e := fun z => hb (by simp [z])
      have h2' : b ≠ it := fun z => hb (by simp [z])
      exact hs2.extBut b o h1' (hk b o h1' h2' q)
    have new : ObjOk X.prog X.w (upd H s.heap.objs.size (.tup [.int (i : Int), x])) h2 s.heap.objs.size (.tup [.int (i : Int), x]) :=
      ⟨by show 2 ≤ sizeLine; decide, [.int i s.toks, u], .cons ⟨_, rfl⟩ (.cons ru .nil), ⟨_, hs2.extBut _ _ (Ne.symm hen) ht, rfl, _, rfl⟩⟩
    refine ⟨.ref s.heap.objs.size, upd H s.heap.objs.size (.tup [.int (i : Int), x]), I.turnedLaid (t' := s.toks + 1) (ch := [e, it]) kk hf (Nat.le_refl _) new, rfl,
      ⟨_, x, rfl, I.hok.fresh (Nat.le_refl _), rfl, fun ys hy => by rw [I.list_inj hy hq]; exact hx⟩, ⟨⟨_, by simpa using he2⟩, hit1.extBut hs2.extBut (Ne.symm hne)⟩, fun b hb => ?_⟩
    have hlt : b < s.heap.objs.size := by
      rcases List.mem_cons.mp hb with rfl | hb
      · exact Heap.lt_size he
      · rw [List.mem_singleton.mp hb]
        obtain ⟨o, ho', _⟩ := hit
        exact Heap.lt_size ho'
    rw [upd_ne (Nat.ne_of_lt hlt)]
    exact (hf b hb).1
  done := by
    intro X hP hw hK hc i pins s σ H E I hf st hg
    subst hP hw hK
    obtain ⟨xs, hq, hx⟩ := hg
    obtain ⟨its, rv, p, hz⟩ := I.list hq
    have hl := rv.length
    obtain ⟨⟨old, he⟩, hit⟩ := st
    refine wpAny_pyNext_enum_end (I.ok.hd hc) he hit p.isList (by simp; omega) fun h1 eb => ⟨rfl, ?_⟩
    exact I.turnedL (t' := s.toks) (ch := [e, it]) (fun b o hb q => eb b o (fun z => hb (by simp [z])) q) hf
  self := fun _ _ _ _ _ st h => let ⟨old, he⟩ := st.1; wpAny_pyIter_enum he h
section
variable {X : Cx}
noncomputable def iEnum (K : PySem.W.Frag) (ta : TA) : TI := fun σ H R => ta σ H fun vs H1 => ∃ a, vs = [.ref a] ∧ (∃ xs, SqL K H1 a xs) ∧ R (Ite K a) H1
theorem pi_enum {a : Expr} {ta : TA} {p pos tpos : Pos} {elts : List Expr} {x1} (hg : Gl X "enumerate") (hm : X.mg "enumerate" = none) (ha : PA X [a] ta) (hs : starEach [a] X.env = [(false, eval a X.env)] := by rfl) :
    PI X (.Tuple elts x1 tpos) (.Call (.Name "enumerate" p) [a] [] pos) (iEnum X.K ta) := by
  intro pins s σ H R I h
  refine Call_ (ld_blt I hg hm boot_enumerate (PyProof.Rows.callWith_type1 (thn (ha pos pins s σ H _ I h) fun us s1 ⟨vs, H1, I1, r1, q1⟩ => ?_) hs rfl))
  obtain ⟨l, rfl, ⟨xs, hq⟩, q⟩ := q1
  obtain ⟨u, rfl, ru⟩ := Vals.one r1
  cases ru
  obtain ⟨its, rv, pl, hz⟩ := I1.list hq
  refine call_enumerate_list pl.isList fun h' he hit hsz hk => ?_
  refine wpAny_pyIter_enum he ?_
  refine ⟨s1.heap.objs.size + 1, [s1.heap.objs.size + 1, s1.heap.objs.size], _, _, H1, rfl, I1.kept (t' := s1.toks) hk, turn_enum l _ _ (Nat.succ_ne_self _), ⟨⟨_, he⟩, hit⟩, fun b hb => ?_, q⟩
  have hle : s1.heap.objs.size ≤ b := by
    rcases List.mem_cons.mp hb with rfl | hb
    · exact Nat.le_succ _
    · rw [List.mem_singleton.mp hb]; exact Nat.le_refl _
  exact I1.fpOk hle (I1.hok.fresh hle)
end
end L2
set_option Elab.async false
set_option linter.all false
set_option maxRecDepth 100000
set_option maxHeartbeats 4000000
namespace L2
open PySem PySem.Spec PyProof.Rows
theorem codeAny_compLoop_go {prog : Program} {w : World} {A : Around} {R : Result → Shared → Prop} {s : Shared} {elt target iter : Expr} {scope : Scope} {pos : Pos} {it acc : Value} {env : Env} (I : Nat → Shared → Prop)
    (turn : ∀ n s, I n s → wpAny (model prog w) A (pyNext it) (fun r s₁ => match r with
      | none => R (.ok .next) s₁
      | some v => wpAny (model prog w) A (letOwnedTupleGo target it v) (fun _ s₂ => wpAny (model prog w) A (assign target env v) (fun _ s₃ => wpAny (model prog w) A (eval elt env) (fun x s₄ =>
          wpAny (model prog w) A (call (.builtin "list.append") [acc, x]) (fun _ s₅ => ∃ m, m < n ∧ I m s₅) (fun _ _ => False) s₄) (fun _ _ => False) s₃) (fun _ _ => False) s₂) (fun _ _ => False) s₁) (fun _ _ => False) s)
    (n : Nat) (h : I n s) : codeAny (model prog w) A (.compLoop (.ListComp elt [⟨target, iter, [], 0⟩] scope pos) 0 it acc env) R s := by
  refine codeAny_loop rfl I (fun n s hI => ?_) n h
  show wpAny _ A ((compTurn (.ListComp elt [⟨target, iter, [], 0⟩] scope pos) 0 it acc env).onRaise (fun x => do noteFrame x env; theTreesLotGoes x)) _ _ s
  refine wpAny_noted ?_
  rw [compTurn_list1]
  refine wpAny_bind (wpAny_standAt (wpAny_bind (wpAny_mono (turn n s hI) (fun r s₁ h₁ => ?_) fun _ _ h' => h'.elim)))
  cases r with
  | none => exact wpAny_pure h₁
  | some v =>
    exact wpAny_bind (wpAny_mono h₁ (fun _ s₂ h₂ => wpAny_bind (wpAny_mono h₂ (fun _ s₃ h₃ => wpAny_bind (wpAny_bind (wpAny_mono h₃ (fun x s₄ h₄ => wpAny_bind (wpAny_mono h₄ (fun _ s₅ h₅ => wpAny_pure (wpAny_pure ⟨rfl, h₅⟩)) fun _ _ h' => h'.elim))
      fun _ _ h' => h'.elim))) fun _ _ h' => h'.elim)) fun _ _ h' => h'.elim)
noncomputable def clGo (env : Env) : List (Str × NameKind) → List (Str × Addr) → List (Str × Addr)
  | [], cs => cs
  | (n, k) :: r, cs => clGo env r (if k == .free then (match env.cells.lookup n with | some c => (n, c) :: cs | none => cs) else cs)
noncomputable def clOf (scope : Scope) (env : Env) : List (Str × Addr) := clGo env scope.names []
theorem clGo_eq (env : Env) : ∀ (ns : List (Str × NameKind)) (cs : List (Str × Addr)), (∀ y ∈ ns, y.2 = .free → ∃ c, env.cells.lookup y.1 = some c) →
    (forIn ns cs (fun x r => do
      if x.2 == .free then
        let a ← cellOf env x.1
        pure (ForInStep.yield ((x.1, a) :: r))
      else pure (ForInStep.yield r)) : Sem (List (Str × Addr))) = pure (clGo env ns cs)
  | [], cs, _ => rfl
  | (n, k) :: r, cs, h => by
    rw [List.forIn_cons]
    by_cases hk : k = .free
    · subst hk
      obtain ⟨c, hc⟩ := h (n, .free) List.mem_cons_self rfl
      have hc' : env.cells.lookup n = some c := hc
      have e : cellOf env n = pure c := by unfold cellOf; rw [hc']
      simp only [beq_self_eq_true, if_true, e, pure_bind, clGo, hc']
      exact clGo_eq env r _ fun y hy => h y (List.mem_cons_of_mem _ hy)
    · have hb : (k == NameKind.free) = false := by simpa using hk
      simp only [hb, Bool.false_eq_true, if_false, pure_bind, clGo]
      exact clGo_eq env r _ fun y hy => h y (List.mem_cons_of_mem _ hy)
theorem closureFor_cl {scope : Scope} {env : Env} (h : ∀ y ∈ scope.names, y.2 = .free → ∃ c, env.cells.lookup y.1 = some c) : closureFor scope env = pure (clOf scope env) := by
  have e := clGo_eq env scope.names [] h
  unfold clOf
  rw [← e]
  unfold closureFor
  simp only [bind_pure]
theorem clGo_sub (env : Env) : ∀ (ns : List (Str × NameKind)) (cs : List (Str × Addr)) (x : Str) (c : Addr), (∀ x c, cs.lookup x = some c → env.cells.lookup x = some c) → (clGo env ns cs).lookup x = some c → env.cells.lookup x = some c
  | [], _, x, c, h, e => h x c e
  | (n, k) :: r, cs, x, c, h, e => by
    refine clGo_sub env r _ x c (fun y d hd => ?_) e
    by_cases hk : (k == NameKind.free) = true
    · rw [if_pos hk] at hd
      cases q : env.cells.lookup n with
      | none => rw [q] at hd; exact h y d hd
      | some a =>
        rw [q] at hd
        simp only [List.lookup_cons] at hd
        cases b : y == n with
        | true => rw [b] at hd; cases hd; rw [eq_of_beq b]; exact q
        | false => rw [b] at hd; exact h y d hd
    · rw [if_neg hk] at hd
      exact h y d hd
theorem clOf_sub {scope : Scope} {env : Env} {x : Str} {c : Addr} (e : (clOf scope env).lookup x = some c) : env.cells.lookup x = some c := clGo_sub env _ _ x c (fun _ _ h => by simp at h) e
theorem clGo_has (env : Env) : ∀ (ns : List (Str × NameKind)) (cs : List (Str × Addr)) (x : Str) (c : Addr), (cs.lookup x = some c ∨ (x, NameKind.free) ∈ ns) → env.cells.lookup x = some c → (clGo env ns cs).lookup x = some c
  | [], _, x, c, h, _ => h.elim (fun z => z) (fun z => by simp at z)
  | (n, k) :: r, cs, x, c, h, e => by
    refine clGo_has env r _ x c ?_ e
    rcases h with h | h
    · refine .inl ?_
      split
      · cases q : env.cells.lookup n with
        | none => exact h
        | some a =>
          simp only [List.lookup_cons]
          cases b : x == n with
          | true => rw [← eq_of_beq b, e] at q; exact q.symm
          | false => exact h
      · exact h
    · rcases List.mem_cons.mp h with z | z
      · injection z with z1 z2
        subst z1 z2
        refine .inl ?_
        simp only [beq_self_eq_true, if_true, e, List.lookup_cons]
      · exact .inr z
theorem clOf_has {scope : Scope} {env : Env} {x : Str} {c : Addr} (h : (x, NameKind.free) ∈ scope.names) (e : env.cells.lookup x = some c) : (clOf scope env).lookup x = some c := clGo_has env _ _ x c (.inr h) e
theorem relabel_free {env : Env} : ∀ {names : List (Str × NameKind)} {x : Str}, (∀ y ∈ names, y.2 ≠ .cell) →
    ((names.map fun (n, k) => if (k == NameKind.free && env.scope.kind == .function && env.kindOf n == some .cell) then (n, NameKind.cell) else (n, k)).lookup x = some .cell ∨
     (names.map fun (n, k) => if (k == NameKind.free && env.scope.kind == .function && env.kindOf n == some .cell) then (n, NameKind.cell) else (n, k)).lookup x = some .free) → (x, NameKind.free) ∈ names
  | [], _, _, h => by simp at h
  | (n, k) :: r, x, hc, h => by
    have ih := @relabel_free env r x fun y hy => hc y (List.mem_cons_of_mem _ hy)
    have hk : k ≠ .cell := hc (n, k) List.mem_cons_self
    simp only [List.map_cons] at h
    by_cases q : (k == NameKind.free && env.scope.kind == .function && env.kindOf n == some .cell) = true
    · rw [if_pos q] at h
      simp only [List.lookup_cons] at h
      cases b : x == n with
      | true =>
        have : k = .free := by simp only [Bool.and_eq_true] at q; exact eq_of_beq q.1.1
        subst this
        rw [eq_of_beq b]
        exact List.mem_cons_self
      | false => rw [b] at h; exact List.mem_cons_of_mem _ (ih h)
    · rw [if_neg q] at h
      simp only [List.lookup_cons] at h
      cases b : x == n with
      | true =>
        rw [b] at h
        rcases h with h | h
        · exact absurd (Option.some.inj h) hk
        · have : k = .free := Option.some.inj h
          subst this
          rw [eq_of_beq b]
          exact List.mem_cons_self
      | false => rw [b] at h; exact List.mem_cons_of_mem _ (ih h)
theorem relabel_vis {env : Env} : ∀ {names : List (Str × NameKind)} {x : Str}, names.lookup x = some .free →
    ((names.map fun (n, k) => if (k == NameKind.free && env.scope.kind == .function && env.kindOf n == some .cell) then (n, NameKind.cell) else (n, k)).lookup x = some .cell ∨
     (names.map fun (n, k) => if (k == NameKind.free && env.scope.kind == .function && env.kindOf n == some .cell) then (n, NameKind.cell) else (n, k)).lookup x = some .free)
  | [], _, h => by simp at h
  | (n, k) :: r, x, h => by
    have ih := @relabel_vis env r x
    simp only [List.map_cons]
    simp only [List.lookup_cons] at h
    by_cases q : (k == NameKind.free && env.scope.kind == .function && env.kindOf n == some .cell) = true
    · rw [if_pos q]
      simp only [List.lookup_cons]
      cases b : x == n with
      | true => exact .inl rfl
      | false => rw [b] at h; exact ih h
    · rw [if_neg q]
      simp only [List.lookup_cons]
      cases b : x == n with
      | true => rw [b] at h; exact .inr h
      | false => rw [b] at h; exact ih h
noncomputable def cxComp (X : Cx) (N' : List Str) (scope : Scope) (C : Addr) (s3 : Shared) (H3 : Hp) (fp : List Addr) : Cx :=
  { X with N := N', s₀ := s3, H₀ := H3, env := compEnvC scope (clOf scope X.env) C X.env, outer := X.stack, stack := X.stack, ex := fp, fn := fun _ => false, pn := [], xe := fun _ _ => False }
noncomputable def capS (t : Nat) (cap : List Nat) (σ : St) : St := List.replicate t none ++ cap.map fun k => (σ[k]?).join
noncomputable def compW (J : It) (D : Addr) (g : TG) (te : TE) (Q : VK) (σ : St) (H : Hp) : Prop := ∃ W : Nat → Nat → St → Hp → Prop, (∃ m, W 0 m σ H) ∧ ∀ i m σ' H', W i m σ' H' →
  (J.stop i H' ∧ Q (.ref D) H') ∨ (J.go i H' ∧ ∀ x H2, J.yld i H' x H2 → g x σ' H2 fun σ3 H3 => te σ3 H3 fun y H4 => ∃ ys, H4 D = some (.lst ys) ∧ ys.length < sizeLine ∧ ∃ m', m' < m ∧ W (i + 1) m' σ3 (upd H4 D (.lst (ys ++ [y]))))
noncomputable def tComp (t : Nat) (cap : List Nat) (wi : TI) (g : TG) (te : TE) : TE := fun σ H Q => wi σ H fun J H1 => ∀ D, H1 D = none → compW J D g te Q (capS t cap σ) (upd H1 D (.lst []))
structure CompOk (X : Cx) (N' : List Str) (scope : Scope) (t : Nat) (cap : List Nat) : Prop where
  kind : scope.kind = .function
  cell : ∀ y ∈ scope.names, y.2 ≠ .cell
  names : ∀ y ∈ scope.names, y.2 = .local → scope.names.lookup y.1 = some .local
  free : ∀ y ∈ scope.names, y.2 = .free → (X.env.kindOf y.1 = some .cell ∨ X.env.kindOf y.1 = some .free)
  len : N'.length = t + cap.length
  caps : ∀ (j k : Nat), cap[j]? = some k → ∃ x, N'[t + j]? = some x ∧ X.N[k]? = some x ∧ scope.names.lookup x = some .free
section
variable {X : Cx}
theorem comp_enter {pins : List (Addr × Obj)} {σ : St} {H3 : Hp} {s3 : Shared} {N' : List Str} {scope : Scope} {t : Nat} {cap : List Nat} {fp : List Addr} {h₁ : Heap} {tk : Nat} (S : CompOk X N' scope t cap) (I3 : Inv X pins σ H3 s3)
    (hf : ∀ b ∈ fp, FpOk X pins H3 b) (hob : ∀ b ∈ fp, ∃ o, s3.heap.get? b = some o) (hns : h₁.Ns s3.heap.objs.size fun _ => none) (k : ∀ b o, s3.heap.get? b = some o → h₁.get? b = some o) :
    Inv (cxComp X N' scope s3.heap.objs.size s3 H3 fp) [] (capS t cap σ) H3 { s3 with heap := h₁, toks := tk } := by
  have cellOld : ∀ {x : Str} {c : Addr}, (clOf scope X.env).lookup x = some c → X.env.cells.lookup x = some c := fun e => clOf_sub e
  have isCellK : ∀ {c : Addr} {v : Option Value}, s3.heap.IsCell c v → h₁.IsCell c v := fun ⟨o, e, d⟩ => ⟨o, k _ _ e, d⟩
  have memOf : ∀ {x : Str}, scope.names.lookup x = some .free → (x, NameKind.free) ∈ scope.names := fun e => PySem.mem_of_lookup e
  refine ⟨⟨I3.mod, S.kind, I3.ok.glob, I3.ok.blt, Nat.le_refl _, ?_, ?_, ?_, I3.ok.hd, I3.ok.frames, .inl rfl, ?_, I3.bs, Nat.le_trans I3.ok.bsz I3.sz, ?_, ?_, I3.stack, I3.stkFree⟩,
    rfl, I3.bare, Un.kept k, ⟨_, hns, ?_⟩, ?_, ?_, ?_, ?_, I3.hok.kept k, ?_⟩
  · intro x y c h1 h2
    exact I3.ok.inj x y c (cellOld h1) (cellOld h2)
  · intro x hx
    have hm : (x, NameKind.free) ∈ scope.names := relabel_free S.cell hx
    obtain ⟨c, hc⟩ := I3.ok.has x (S.free _ hm rfl)
    exact ⟨c, clOf_has hm hc⟩
  · intro x c h
    cases h
  · intro b hb
    obtain ⟨o, ho⟩ := hob b hb
    exact ⟨Nat.ne_of_lt (Heap.lt_size ho), fun x c e => (hf b hb).2.2.2.2.1 x c (cellOld e)⟩
  · intro b o e hb
    rcases (hf b hb).2.2.2.1 with z | z
    · exact I3.ok.noex b o e z
    · exact absurd (Nat.lt_of_lt_of_le (Nat.lt_of_lt_of_le (Heap.lt_size e) I3.ok.bsz) z) (Nat.lt_irrefl _)
  · intro b hb hz
    rcases List.mem_cons.mp (I3.stkSub b hz) with z | z
    · exact (hf b hb).2.1 z
    · exact (hf b hb).2.2.1 z
  · intro i x v e1 e2 e3
    have ht : t ≤ i := by
      rcases Nat.lt_or_ge i t with q | q
      · unfold capS at e2
        rw [List.getElem?_append_left (by simpa using q), List.getElem?_replicate] at e2
        split at e2 <;> cases e2
      · exact q
    obtain ⟨j, rfl⟩ : ∃ j, i = t + j := ⟨i - t, by omega⟩
    unfold capS at e2
    rw [List.getElem?_append_right (by simp), List.length_replicate, Nat.add_sub_cancel_left, List.getElem?_map] at e2
    cases q : cap[j]? with
    | none => rw [q] at e2; cases e2
    | some m =>
      rw [q] at e2
      have e2' : (σ[m]?).join = some v := Option.some.inj e2
      have e2'' : σ[m]? = some (some v) := by
        cases z : σ[m]? with
        | none => rw [z] at e2'; cases e2'
        | some w => rw [z] at e2'; have : w = some v := e2'; rw [this]
      obtain ⟨x', c1, c2, c3⟩ := S.caps j m q
      have ex : x' = x := by
        have e1' : N'[t + j]? = some x := e1
        rw [c1] at e1'; exact Option.some.inj e1'
      subst ex
      have hk := S.free _ (memOf c3) rfl
      obtain ⟨mm, hn, hl⟩ := I3.loc
      obtain ⟨u, r, L⟩ := hl m x' v c2 e2'' (by rcases hk with z | z; exact .inr (.inl z); exact .inr (.inr z))
      refine ⟨u, r, ?_⟩
      rcases L with ⟨z, _⟩ | ⟨_, c, hc, hcell⟩
      · rcases hk with y | y <;> (have y' : X.env.kindOf x' = _ := y; rw [z] at y'; cases y')
      · exact .inr ⟨relabel_vis c3, c, clOf_has (memOf c3) hc, isCellK hcell⟩
  · intro x c e
    obtain ⟨v, z⟩ := I3.cell x c (cellOld e)
    exact ⟨v, isCellK z⟩
  · exact I3.hok.fresh (Nat.le_refl _)
  · intro x c e
    exact I3.freeC x c (cellOld e)
  · intro p hp
    exact absurd (show p ∈ ([] : List (Addr × Obj)) from hp) (by simp)
  · show (capS t cap σ).length = N'.length
    unfold capS
    rw [S.len, List.length_append, List.length_replicate, List.length_map]
theorem pe_comp {target elt iter : Expr} {scope : Scope} {pos : Pos} {N' : List Str} {cap : List Nat} {t : Nat} {wi : TI} {g : TG} {te : TE} (hc : X.calm = true) (S : CompOk X N' scope t cap) (hi : PI X target iter wi)
    (hg : ∀ C s3 H3 fp, PG (cxComp X N' scope C s3 H3 fp) target g) (he : ∀ C s3 H3 fp, PE (cxComp X N' scope C s3 H3 fp) elt te) (hs : ∀ x, foldedSetIterable iter X.env x = pure x := by intro _; rfl) :
    PE X (.ListComp elt [⟨target, iter, [], 0⟩] scope pos) (tComp t cap wi g te) := by
  intro pins s σ H Q I h
  rw [eval_ListComp]
  refine wpAny_comprehension_free (use := none) (cl := clOf scope X.env) rfl hs (closureFor_cl fun y hy hf => I.ok.has y.1 (S.free y hy hf)) S.kind S.names (thn (hi pins s σ H _ I h) fun v s1 h1 => thn h1 fun itv s2 h2 => ?_)
  obtain ⟨it, fp, tn, J, H2, e, I2, T, st2, f2, h2⟩ := h2
  subst e
  refine wpAny_newObj_type (wpAny_newFunctionEnv S.cell (by intro y hy; simp at hy) (fun h₁ hns₁ hsb₁ => ?_) S.kind)
  dsimp only at hns₁ hsb₁ ⊢
  obtain ⟨s3, hs3⟩ : ∃ s3 : Shared, s3 = { s2 with heap := s2.heap.push { cls := .type "list", dict := none, data := .seq ([] : List Value).toArray } } := ⟨_, rfl⟩
  have hD : H2 s2.heap.objs.size = none := I2.hok.fresh (Nat.le_refl _)
  have I3 : Inv X pins σ (upd H2 s2.heap.objs.size (.lst [])) s3 := by
    rw [hs3]
    exact I2.laid (t' := s2.toks) (fun b u e => Heap.get?_push_of_some _ e) (Nat.le_refl _) ⟨Nat.zero_le _, [], 0, .nil, Heap.get?_push_size _ rfl⟩
  have hsz3 : s3.heap.objs.size = s2.heap.objs.size + 1 := by rw [hs3]; exact Heap.size_push ..
  have old3 : ∀ b o, s2.heap.get? b = some o → s3.heap.get? b = some o := fun b o e => by rw [hs3]; exact Heap.get?_push_of_some _ e
  have hC : (s2.heap.push { cls := .type "list", dict := none, data := .seq ([] : List Value).toArray }).objs.size = s3.heap.objs.size := by rw [hs3]
  have f3 : ∀ b ∈ fp, FpOk X pins (upd H2 s2.heap.objs.size (.lst [])) b := fun b hb => by
    obtain ⟨o, ho, _⟩ := T.obj _ _ st2 b hb
    refine ⟨?_, (f2 b hb).2⟩
    rw [upd_ne (Nat.ne_of_lt (Heap.lt_size ho))]
    exact (f2 b hb).1
  have ob3 : ∀ b ∈ fp, ∃ o, s3.heap.get? b = some o := fun b hb => by
    obtain ⟨o, ho, _⟩ := T.obj _ _ st2 b hb
    exact ⟨o, old3 b o ho⟩
  have k1 : ∀ b o, s3.heap.get? b = some o → h₁.get? b = some o := fun b o e => by
    refine hsb₁.extBut b o ?_ ?_
    · rw [hC]; exact Nat.ne_of_lt (Heap.lt_size e)
    · rw [hs3] at e; exact Heap.get?_push_of_some _ e
  have hns : h₁.Ns s3.heap.objs.size fun _ => none := by
    rw [← hC]; exact hns₁
  have I4 := comp_enter (tk := s2.toks + ([] : List (Str × Value)).length) S I3 f3 ob3 hns k1
  have st4 : tn 0 h₁ := T.keep _ _ _ st2 fun b hb o e => k1 b o (old3 b o e)
  obtain ⟨W, ⟨m0, w0⟩, turn⟩ := h2 _ hD
  -- the block's context
  obtain ⟨X', hX'⟩ : ∃ X' : Cx, X' = cxComp X N' scope s3.heap.objs.size s3 (upd H2 s2.heap.objs.size (.lst [])) fp := ⟨_, rfl⟩
  have hg' : PG X' target g := by rw [hX']; exact hg _ _ _ _
  have he' : PE X' elt te := by rw [hX']; exact he _ _ _ _
  have stat : ∀ {H' : Hp}, (∀ b ∈ fp, H' b = none) → ∀ b ∈ fp, FpOk X' [] H' b := fun hn b hb => by
    obtain ⟨o, ho⟩ := ob3 b hb
    rw [hX']
    refine ⟨hn b hb, Nat.ne_of_lt (Heap.lt_size ho), ?_, .inl hb, fun x c e => (f3 b hb).2.2.2.2.1 x c (clOf_sub e), fun p hp => absurd (show p ∈ ([] : List (Addr × Obj)) from hp) (by simp)⟩
    intro hz
    rcases List.mem_cons.mp (I3.stkSub b hz) with z | z
    · exact (f3 b hb).2.1 z
    · exact (f3 b hb).2.2.1 z
  have hcalm : X'.calm = true := by rw [hX']; exact hc
  have loop : codeAny (model X.prog X.w) X.A (.compLoop (.ListComp elt [⟨target, iter, [], 0⟩] scope pos) 0 (.ref it) (.ref s2.heap.objs.size) (compEnvC scope (clOf scope X.env) s3.heap.objs.size X.env))
      (compPost (model X.prog X.w) X.A X.xe none (EP X pins σ Q) (.ref s2.heap.objs.size) s3.heap.objs.size) { s3 with heap := h₁, toks := s2.toks + ([] : List (Str × Value)).length } := by
    refine codeAny_compLoop_go (fun n s' => ∃ i σ' H', Inv X' [] σ' H' s' ∧ tn i s'.heap ∧ (∀ b ∈ fp, H' b = none) ∧ W i n σ' H') ?_ m0 ⟨0, capS t cap σ, _, by rw [hX']; exact I4, st4, fun b hb => (f3 b hb).1, w0⟩
    rintro n s5 ⟨i, σ5, H5, I5, st5, fr5, w5⟩
    rcases turn i n σ5 H5 w5 with ⟨stop, qn⟩ | ⟨go, step⟩
    · have q := T.done X' (by rw [hX']; rfl) (by rw [hX']; rfl) (by rw [hX']; rfl) hcalm i [] s5 σ5 H5 (fun _ _ => False) I5 (stat fr5) st5 stop
      have eA : X'.A = X.A := by rw [hX']; rfl
      rw [eA] at q
      refine thn q fun r s6 ⟨hr, I6⟩ => ?_
      subst hr
      obtain ⟨m, hn, _⟩ := I6.loc
      have hn' : s6.heap.Ns s3.heap.objs.size m := by rw [hX'] at hn; exact hn
      refine ⟨m, hn', fun h' hs' => ?_⟩
      have un6 : Un (frs X.stack) fp (upd H2 s2.heap.objs.size (.lst [])) H5 s3.heap s6.heap := by have := I6.base; rw [hX'] at this; exact this
      have hok6 : HOk X.prog X.w H5 s6.heap := by have := I6.hok; rw [hX'] at this; exact this
      have free6 : H5 s3.heap.objs.size = none := by have := I6.free; rw [hX'] at this; exact this
      have kp : ∀ b o, b ≠ s3.heap.objs.size → s6.heap.get? b = some o → h'.get? b = some o := fun b o hb e => hs'.extBut b o hb e
      have neC : ∀ {b : Addr} {o : Obj}, s3.heap.get? b = some o → b ≠ s3.heap.objs.size := fun e => Nat.ne_of_lt (Heap.lt_size e)
      have un7 : Un (frs X.stack) fp (upd H2 s2.heap.objs.size (.lst [])) H5 s3.heap h' :=
        ⟨fun b o e n1 n2 n3 => kp b o (neC e) (un6.keep b o e n1 n2 n3), fun b o e n1 n2 n3 => by obtain ⟨sl, z⟩ := un6.slot b o e n1 n2 n3; exact ⟨sl, kp b _ (neC e) z⟩, un6.free,
          fun b o e n3 => by obtain ⟨o', z⟩ := un6.there b o e n3; exact ⟨o', kp b _ (neC e) z⟩, un6.tups, un6.frzs, un6.tbls⟩
      have hok7 : HOk X.prog X.w H5 h' := fun b ob e => by
        refine (hok6 b ob e).stay (fun c w' hc' q => kp c w' ?_ q) (fun _ q => q) fun _ _ q => q
        rintro rfl
        rcases hc' with rfl | hc'
        · rw [free6] at e; cases e
        · rw [free6] at hc'; cases hc'
      refine ⟨.ref s2.heap.objs.size, H5, I3.call' (s' := { s6 with heap := h' }) (ch := fp) ?_ un7 hok7 I6.bare (fun b hb => ⟨(f3 b hb).2.2.2.1, (f3 b hb).2.1, (f3 b hb).2.2.2.2.1, (f3 b hb).2.2.2.2.2⟩), rfl, qn⟩
      show s6.os = s3.os
      have := I6.os
      rw [hX'] at this
      exact this
    · have q := T.item X' (by rw [hX']; rfl) (by rw [hX']; rfl) (by rw [hX']; rfl) hcalm i [] s5 σ5 H5 (fun _ _ => False) I5 (stat fr5) st5 go
      have eA : X'.A = X.A := by rw [hX']; rfl
      have eP : X'.prog = X.prog := by rw [hX']; rfl
      have eW : X'.w = X.w := by rw [hX']; rfl
      have eE : X'.env = compEnvC scope (clOf scope X.env) s3.heap.objs.size X.env := by rw [hX']; rfl
      have eX : X'.xe = fun _ _ => False := by rw [hX']; rfl
      rw [eA] at q
      refine thn q fun r s6 ⟨u, hr, h6⟩ => ?_
      subst hr
      refine thn h6 fun _ s7 ⟨x, H7, I7, r7, y7, st7, fr7⟩ => ?_
      have I7' := I7.pinned (stat fr7) (T.obj _ _ st7)
      have q8 := hg' _ s7 σ5 H7 x u _ I7' r7 (step x H7 y7)
      rw [eA, eP, eW, eE, eX] at q8
      refine thn q8 fun _ s8 ⟨σ8, H8, I8, w8⟩ => ?_
      have q9 := he' _ s8 σ8 H8 _ I8 w8
      rw [eA, eP, eW, eE, eX] at q9
      refine thn q9 fun y s9 ⟨v9, H9, I9, r9, ys, hD9, hlt, m', hm, w9⟩ => ?_
      have q10 := mt_append (X := X') _ s9 σ8 H9 (.ref s2.heap.objs.size) [v9] (.ref s2.heap.objs.size) [y] (fun _ H10 => H10 = upd H9 s2.heap.objs.size (.lst (ys ++ [v9]))) I9 rfl (.cons r9 .nil) ⟨_, ys, v9, rfl, rfl, hD9, hlt, rfl⟩
      rw [eA, eP, eW, eX] at q10
      refine thn q10 fun _ s10 ⟨v10, H10, I10, r10, e10⟩ => ?_
      subst e10
      refine ⟨m', hm, i + 1, σ8, _, I10.unpinned, T.keep _ _ _ st7 fun b hb o e => (I10.pin (b, o) (List.mem_append_right _ (List.mem_append_right _ (mem_pinsAt hb e)))).1, fun b hb => ?_, w9⟩
      obtain ⟨o, e, d⟩ := T.obj _ _ st7 b hb
      exact (I10.pin (b, o) (List.mem_append_right _ (List.mem_append_right _ (mem_pinsAt hb e)))).2.1
  have es : ({ s2 with heap := h₁, toks := s2.toks + ([] : List (Str × Value)).length } : Shared) = { s3 with heap := h₁, toks := s2.toks + ([] : List (Str × Value)).length } := by rw [hs3]
  rw [es, hC]
  exact codeAny_compStart_list loop (T.self _ 0 _ _ _ st4 loop)
end
end L2
set_option Elab.async false
set_option linter.all false
set_option maxRecDepth 100000
set_option maxHeartbeats 4000000
namespace L2
open PySem PySem.Spec PyProof.Rows
section
variable {X : Cx} {pos : Pos}
noncomputable def tPar3 (i j k : Nat) (ta : TA) : TS := fun D σ H => ta σ H fun vs H1 => ∃ v w z, vs = [v, w, z] ∧ D.nx (((σ.set i (some v)).set j (some w)).set k (some z)) H1
theorem ps_par3 {i j k : Nat} {x y z : Str} {a b c : Expr} {ta : TA} {px py pz pt : Pos} {kt k2 pt2} (hc : X.calm = true) (hN : X.N.Nodup) (hi : X.N[i]? = some x) (hj : X.N[j]? = some y) (hk : X.N[k]? = some z) (hij : i ≠ j) (hik : i ≠ k) (hjk : j ≠ k)
    (hx : X.env.scope.names.lookup x = some .local) (hy : X.env.scope.names.lookup y = some .local) (hz : X.env.scope.names.lookup z = some .local) (ha : PA X [a, b, c] ta)
    (hw : swappedStores [.Tuple [.Name x px, .Name y py, .Name z pz] kt pt] (.Tuple [a, b, c] k2 pt2) X.env = pure (some [x, y, z]))
    (hs : swapsWithSole [.Tuple [.Name x px, .Name y py, .Name z pz] kt pt] (.Tuple [a, b, c] k2 pt2) pos.line X.env = pure false := by rfl) :
    PS X (.Assign [.Tuple [.Name x px, .Name y py, .Name z pz] kt pt] (.Tuple [a, b, c] k2 pt2) pos) (tPar3 i j k ta) := by
  intro pins s σ H D I h
  rw [exec_Assign_arm]
  refine wpAny_bind (wpAny_standAt ?_)
  rw [hs]
  refine wpAny_bind (wpAny_pure ?_)
  rw [if_neg (by decide)]
  refine wpAny_bind (Tuple_ (thn (ha _ pins s σ H _ I h) fun us s1 ⟨vs, H1, I1, r1, q1⟩ => ?_))
  obtain ⟨v, w, zz, e1, q1⟩ := q1
  subst e1
  obtain ⟨u1, u2, u3, rfl, rv, rw', rz⟩ : ∃ u1 u2 u3, us = [u1, u2, u3] ∧ RelV v u1 ∧ RelV w u2 ∧ RelV zz u3 := by
    cases r1 with
    | cons p q =>
      cases q with
      | cons p' q' =>
        cases q' with
        | cons p'' q'' =>
          cases q''
          exact ⟨_, _, _, rfl, p, p', p''⟩
  refine wpAny_newObj_type ?_ (by show 3 ≤ sizeLine; decide)
  have I2 : Inv X pins σ H1 { s1 with heap := s1.heap.push { cls := .type "tuple", data := .seq [u1, u2, u3].toArray } } := I1.kept (t' := s1.toks) fun b o e => Heap.get?_push_of_some _ e
  rw [hw]
  refine wpAny_bind (wpAny_pure ?_)
  show wpAny (model X.prog X.w) X.A (do rule "assign.swapped-stores"; let items ← unpackItems (.ref s1.heap.objs.size) 3 none; assignInOrder [fun v => bindName X.env z v, fun v => bindName X.env y v, fun v => bindName X.env x v] items.reverse; pure Flow.next) _ _ _
  refine wpAny_bind (wpAny_rule (wpAny_bind (unpackItems_tuple (items := #[u1, u2, u3]) (I.ok.hd hc) (IsTup.new s1.heap _) fun h' hx' => ?_)))
  have I3 := I2.kept (h' := h') (t' := s1.toks) fun b o e => hx' b o (Nat.ne_of_lt (Heap.lt_size e)) e
  show wpAny _ _ (assignInOrder [fun v => bindName X.env z v, fun v => bindName X.env y v, fun v => bindName X.env x v] [u3, u2, u1] >>= fun _ => pure Flow.next) _ _ _
  refine wpAny_bind (assignInOrder_cons (wpAny_bindName (store_ok I3 hN hk (.inl hz) rz (fun s2 I4 => ?_) (.inr hz))))
  refine assignInOrder_cons (wpAny_bindName (store_ok I4 hN hj (.inl hy) rw' (fun s3 I5 => ?_) (.inr hy)))
  refine assignInOrder_cons (wpAny_bindName (store_ok I5 hN hi (.inl hx) rv (fun s4 I6 => assignInOrder_nil (wpAny_pure ?_)) (.inr hx)))
  rw [List.set_comm _ _ (Ne.symm hij), List.set_comm _ _ (Ne.symm hik), List.set_comm _ _ (Ne.symm hjk)] at I6
  exact ⟨_, H1, I6, q1⟩
structure Fn (P : Program) (w : World) (K : PySem.W.Frag) (mg : Str → Option Value) (base : Heap) (k : Nat) (x : Str) (ps : List Str) (sp : Sp) : Prop where
  ex : ∃ f fd, FnOk P w K mg base CX0 k f fd ps sp ∧ mg x = some (.ref f) ∧ PySem.W.keepIn K (.ref f) = true ∧ Binds K fd ps []
theorem pe_fn {k j : Nat} {x : Str} {ps : List Str} {sp : Sp} {e : Expr} {es : List Expr} {t : TA} {p : Pos} (F : Fn X.prog X.w X.K X.mg X.base k x ps sp) (hr : Room j X.A) (hk : k ≤ j) (hg : Gl X x) (ha : PA X (e :: es) t) (hdb : (x == ("__debug__" : Str)) = false := by decide)
    (he : starEach (e :: es) X.env = (false, eval e X.env) :: starEach es X.env := by rfl) (hpl : (backTo pos (starEach es X.env)).any (·.1) = false := by rfl) : PE X (.Call (.Name x p) (e :: es) [] pos) (tCall sp [] E0 t) := by
  obtain ⟨f, fd, F, hm, hkp, hb⟩ := F.ex
  exact pe_call F (hr.mono hk) hg hm hkp hb .nil pass0 ha hdb he hpl
end
end L2
set_option Elab.async false
set_option linter.all false
set_option maxRecDepth 100000
set_option maxHeartbeats 4000000
namespace L2
open PySem PySem.Spec PyProof.Rows
noncomputable def isStar : Expr → Bool
  | .Starred _ _ => true
  | _ => false
theorem star_ok {e : Expr} {es : List Expr} {env : Env} (h : isStar e = false) : starEach (e :: es) env = (false, eval e env) :: starEach es env := by
  cases e <;> first | rfl | (simp [isStar] at h)
noncomputable def noStar : List Expr → Bool
  | [] => true
  | e :: es => !isStar e && noStar es
theorem star_any {pos : Pos} {env : Env} : ∀ {es : List Expr}, noStar es = true → (backTo pos (starEach es env)).any (·.1) = false
  | [], _ => rfl
  | e :: es, h => by
    have h1 : isStar e = false := by simp only [noStar, Bool.and_eq_true, Bool.not_eq_true'] at h; exact h.1
    have h2 : noStar es = true := by simp only [noStar, Bool.and_eq_true] at h; exact h.2
    have ih := star_any (pos := pos) (env := env) h2
    rw [star_ok h1]
    simp only [backTo, List.map_cons, List.any_cons, Bool.false_or] at ih ⊢
    exact ih
section
variable {X : Cx} {pos : Pos} {e : Expr} {es : List Expr} {te : TE} {t : TA}
theorem pc (ha : PE X e te) (hr : PA X es t) (hs : isStar e = false := by rfl) : PA X (e :: es) (tCons te t) := pa_cons ha hr (star_ok hs)
theorem pe_fnS {k j : Nat} {x : Str} {ps : List Str} {sp : Sp} {p : Pos} (F : Fn X.prog X.w X.K X.mg X.base k x ps sp) (hr : Room j X.A) (hk : k ≤ j) (hg : Gl X x) (ha : PA X (e :: es) t) (hdb : (x == ("__debug__" : Str)) = false := by decide)
    (hs : noStar (e :: es) = true := by rfl) : PE X (.Call (.Name x p) (e :: es) [] pos) (tCall sp [] E0 t) :=
  pe_fn F hr hk hg ha hdb (star_ok (by simp only [noStar, Bool.and_eq_true, Bool.not_eq_true'] at hs; exact hs.1)) (star_any (by simp only [noStar, Bool.and_eq_true] at hs; exact hs.2))
theorem pe_callBS {x : Str} {p : Pos} {id : String} {r : List V → Hp → VK → Prop} (hc : CallR X (.builtin id) r) (hg : Gl X x) (hm : X.mg x = none) (hv : bootBuiltins x = some (.builtin id)) (ha : PA X (e :: es) t) (hn : x ≠ "__name__" := by decide) (hdb : (x == ("__debug__" : Str)) = false := by decide)
    (hs : noStar (e :: es) = true := by rfl) : PE X (.Call (.Name x p) (e :: es) [] pos) (tCB r t) :=
  pe_callB hc hg hm hv ha hn hdb (star_ok (by simp only [noStar, Bool.and_eq_true, Bool.not_eq_true'] at hs; exact hs.1)) (star_any (by simp only [noStar, Bool.and_eq_true] at hs; exact hs.2))
theorem pe_callTyS {x : Str} {p : Pos} {T : String} {r : List V → Hp → VK → Prop} (hc : CallR X (.type T) r) (hg : Gl X x) (hm : X.mg x = none) (hv : bootBuiltins x = some (.type T)) (ha : PA X (e :: es) t) (hn : x ≠ "__name__" := by decide) (hdb : (x == ("__debug__" : Str)) = false := by decide)
    (hs : noStar (e :: es) = true := by rfl) : PE X (.Call (.Name x p) (e :: es) [] pos) (tCB r t) :=
  pe_callTy hc hg hm hv ha hn hdb (star_ok (by simp only [noStar, Bool.and_eq_true, Bool.not_eq_true'] at hs; exact hs.1)) (star_any (by simp only [noStar, Bool.and_eq_true] at hs; exact hs.2))
end
end L2
set_option Elab.async false
set_option linter.all false
set_option maxRecDepth 100000
set_option maxHeartbeats 4000000
namespace L2
open PySem PySem.Spec PyProof.Rows
structure QE (X : Cx) (e : Expr) (t : TE) : Prop where
  h : PE X e t
structure QT (X : Cx) (e : Expr) (t : TT) : Prop where
  h : PT X e t
structure QW (X : Cx) (e : Expr) (t : TT) : Prop where
  h : PW X e t
structure QA (X : Cx) (es : List Expr) (t : TA) : Prop where
  h : PA X es t
structure QS (X : Cx) (st : Stmt) (t : TS) : Prop where
  h : PS X st t
structure QB (X : Cx) (st : List Stmt) (t : TS) : Prop where
  h : PSs X st t
structure QG (X : Cx) (e : Expr) (t : TG) : Prop where
  h : PG X e t
structure QGs (X : Cx) (es : List Expr) (t : TGs) : Prop where
  h : PGs X es t
structure QI (X : Cx) (tg e : Expr) (t : TI) : Prop where
  h : PI X tg e t
structure QO (X : Cx) (e : Option Expr) (t : TO) : Prop where
  h : PO X e t
noncomputable def compChk (sc scope : Scope) (N N' : List Str) (t : Nat) (cap : List Nat) : Bool :=
  decide (scope.kind = .function) && scope.names.all (fun y => decide (y.2 ≠ .cell)) && scope.names.all (fun y => decide (y.2 = .local → scope.names.lookup y.1 = some .local)) &&
  scope.names.all (fun y => decide (y.2 = .free → (sc.names.lookup y.1 = some .cell ∨ sc.names.lookup y.1 = some .free))) && decide (N'.length = t + cap.length) &&
  (List.range cap.length).all (fun j => match cap[j]?, N'[t + j]? with | some k, some x => decide (N[k]? = some x ∧ scope.names.lookup x = some .free) | _, _ => false)
theorem CompOk.of {X : Cx} {N' : List Str} {scope : Scope} {t : Nat} {cap : List Nat} (h : compChk X.env.scope scope X.N N' t cap = true) : CompOk X N' scope t cap := by
  simp only [compChk, Bool.and_eq_true, List.all_eq_true, decide_eq_true_eq] at h
  obtain ⟨⟨⟨⟨⟨h1, h2⟩, h3⟩, h4⟩, h5⟩, h6⟩ := h
  refine ⟨h1, h2, h3, h4, h5, fun j k e => ?_⟩
  have hj : j < cap.length := (List.getElem?_eq_some_iff.mp e).1
  have h := h6 j (List.mem_range.mpr hj)
  rw [e] at h
  cases q : N'[t + j]? with
  | none => rw [q] at h; cases h
  | some x =>
    rw [q] at h
    have h' := of_decide_eq_true h
    exact ⟨x, rfl, h'.1, h'.2⟩
section
variable {X : Cx} {pos : Pos} {a b c e l o i value : Expr} {es : List Expr} {ta tb te to ti tl : TE} {tc tA tB' : TT} {t u tbd : TS} {tr : TA} {g : TG} {gs : TGs} {wi : TI} {st : Stmt} {sts body b1 b2 : List Stmt} {rest : List Expr}
theorem qb_nil : QB X [] tNext := ⟨pss_nil⟩
theorem qb_cons (h1 : QS X st t) (h2 : QB X sts u) : QB X (st :: sts) (tSeq t u) := ⟨pss_cons h1.h h2.h⟩
theorem qb_one (h1 : QS X st t) : QB X [st] t := ⟨pss_one h1.h⟩
theorem qs_ret (h : QE X e te) : QS X (.Return (some e) pos) (tRet te) := ⟨ps_ret h.h⟩
theorem qs_if (hc : QT X c tc) (ha : QB X b1 t) (hb : QB X b2 u) : QS X (.If c b1 b2 pos) (tIfS tc t u) := ⟨ps_if hc.h ha.h hb.h⟩
theorem qs_while (hp : PassesOwn (model X.prog X.w) X.A X.env X.xe) (hc : QT X c tc) (hb : QB X body tbd) : QS X (.While c body [] pos) (tWhile tc tbd) := ⟨ps_while hp hc.h hb.h⟩
theorem qs_for {tg iter : Expr} (hp : PassesOwn (model X.prog X.w) X.A X.env X.xe) (hc : X.calm = true) (hi : QI X tg iter wi) (hg : QG X tg g) (hb : QB X body tbd) (hs : ∀ x, foldedSetIterable iter X.env x = pure x := by intro _; rfl) :
    QS X (.For tg iter body [] pos) (tFor wi g tbd) := ⟨ps_for hp hc hi.h hg.h hb.h hs⟩
theorem qs_expr (he : QE X e te) (hs : swapsWith e none pos.line X.env = pure false := by rfl) : QS X (.Expr e pos) (tDrop te) := ⟨ps_expr he.h hs⟩
theorem qs_set {i : Nat} {x : Str} {pos' : Pos} (hN : X.N.Nodup) (hi : X.N[i]? = some x) (hx : Loc X.env.scope x) (he : QE X e te) (hs : swapsWith e (some (.Name x pos')) pos.line X.env = pure false := by rfl)
    (hf : X.fn x = true ∨ X.env.scope.names.lookup x = some .local := by first | exact .inl rfl | exact .inr rfl | assumption) : QS X (.Assign [.Name x pos'] e pos) (tAsg te (gName i)) := ⟨ps_set hN hi hx he.h hs hf⟩
theorem qs_asg {tg : Expr} (he : QE X e te) (hg : QG X tg g) (hs : swapsWithSole [tg] e pos.line X.env = pure false := by rfl) (hw : swappedStores [tg] e X.env = pure none := by rfl)
    (h1 : (assignEach [tg] X.env).map (·.2) = [assign tg X.env] := by rfl) : QS X (.Assign [tg] e pos) (tAsg te g) := ⟨ps_asg he.h hg.h hs hw h1⟩
theorem qs_par {i j : Nat} {x y : Str} {px py pt : Pos} {kt k2 pt2} (hc : X.calm = true) (hN : X.N.Nodup) (hi : X.N[i]? = some x) (hj : X.N[j]? = some y) (hij : i ≠ j)
    (hx : X.env.scope.names.lookup x = some .local) (hy : X.env.scope.names.lookup y = some .local) (ha : QA X [a, b] tr)
    (hw : swappedStores [.Tuple [.Name x px, .Name y py] kt pt] (.Tuple [a, b] k2 pt2) X.env = pure (some [x, y]))
    (hs : swapsWithSole [.Tuple [.Name x px, .Name y py] kt pt] (.Tuple [a, b] k2 pt2) pos.line X.env = pure false := by rfl) :
    QS X (.Assign [.Tuple [.Name x px, .Name y py] kt pt] (.Tuple [a, b] k2 pt2) pos) (tPar i j tr) := ⟨ps_par hc hN hi hj hij hx hy ha.h hw hs⟩
theorem qs_par3 {i j k : Nat} {x y z : Str} {px py pz pt : Pos} {kt k2 pt2} (hc : X.calm = true) (hN : X.N.Nodup) (hi : X.N[i]? = some x) (hj : X.N[j]? = some y) (hk : X.N[k]? = some z) (hij : i ≠ j) (hik : i ≠ k) (hjk : j ≠ k)
    (hx : X.env.scope.names.lookup x = some .local) (hy : X.env.scope.names.lookup y = some .local) (hz : X.env.scope.names.lookup z = some .local) (ha : QA X [a, b, c] tr)
    (hw : swappedStores [.Tuple [.Name x px, .Name y py, .Name z pz] kt pt] (.Tuple [a, b, c] k2 pt2) X.env = pure (some [x, y, z]))
    (hs : swapsWithSole [.Tuple [.Name x px, .Name y py, .Name z pz] kt pt] (.Tuple [a, b, c] k2 pt2) pos.line X.env = pure false := by rfl) :
    QS X (.Assign [.Tuple [.Name x px, .Name y py, .Name z pz] kt pt] (.Tuple [a, b, c] k2 pt2) pos) (tPar3 i j k tr) := ⟨ps_par3 hc hN hi hj hk hij hik hjk hx hy hz ha.h hw hs⟩
theorem qg_name {i : Nat} {x : Str} (hN : X.N.Nodup) (hi : X.N[i]? = some x) (hx : Loc X.env.scope x) (hf : X.fn x = true ∨ X.env.scope.names.lookup x = some .local := by first | exact .inl rfl | exact .inr rfl | assumption) : QG X (.Name x pos) (gName i) := ⟨pg_name hN hi hx hf⟩
theorem qgs_nil : QGs X [] gNil := ⟨pgs_nil⟩
theorem qgs_cons (h1 : QG X e g) (h2 : QGs X es gs) (hs : (assignEach (e :: es) X.env).map (·.2) = assign e X.env :: (assignEach es X.env).map (·.2) := by rfl) : QGs X (e :: es) (gCons g gs) := ⟨pgs_cons h1.h h2.h hs⟩
theorem qg_tup {k n : Nat} (hc : X.calm = true) (h : QGs X es gs) (hn : (assignEach es X.env).length = n := by rfl) (hst : (assignEach es X.env).findIdx? (·.1) = none := by rfl) : QG X (.Tuple es k pos) (gTup X.K n gs) := ⟨pg_tup hc h.h hn hst⟩
theorem qg_sub {ts : TSet} (ho : QE X o to) (hi : QE X i ti) (hs : PSet X ts)
    (ha : ∀ v, assign (.Subscript o i pos) X.env v = (do
      let ov ← holding [v] (eval o X.env)
      let iv ← holding [v, ov] (eval i X.env)
      standAt pos
      holding [v, ov, iv] (setItem ov iv v)
      release [v, ov, iv] []) := by intro _; rfl) : QG X (.Subscript o i pos) (gSub to ti ts) := ⟨pg_sub ho.h hi.h hs ha⟩
theorem qi_range1 {tg : Expr} {p : Pos} (hg : Gl X "range") (hm : X.mg "range" = none) (ha : QA X [a] tr) (hs : isStar a = false := by rfl) : QI X tg (.Call (.Name "range" p) [a] [] pos) (iRng1 tr) := ⟨pi_range1 hg hm ha.h (star_ok hs)⟩
theorem qi_range2 {tg : Expr} {p : Pos} (hg : Gl X "range") (hm : X.mg "range" = none) (ha : QA X [a, b] tr) (hs : isStar a = false := by rfl) (hs2 : isStar b = false := by rfl) : QI X tg (.Call (.Name "range" p) [a, b] [] pos) (iRng2 tr) :=
  ⟨pi_range2 hg hm ha.h (by rw [star_ok hs, star_ok hs2]; rfl) (by rw [star_ok hs2]; rfl)⟩
theorem qi_enum {p tpos : Pos} {elts : List Expr} {x1} (hg : Gl X "enumerate") (hm : X.mg "enumerate" = none) (ha : QA X [a] tr) (hs : isStar a = false := by rfl) : QI X (.Tuple elts x1 tpos) (.Call (.Name "enumerate" p) [a] [] pos) (iEnum X.K tr) := ⟨pi_enum hg hm ha.h (star_ok hs)⟩
theorem qi_list {tg : Expr} (hl : QE X l tl) : QI X tg l (iList X.K tl) := ⟨pi_list hl.h⟩
theorem qi_tup {tg : Expr} (hl : QE X l tl) : QI X tg l (iTup X.K tl) := ⟨pi_tup hl.h⟩
theorem qa_nil : QA X [] tNil := ⟨pa_nil⟩
theorem qc (ha : QE X e te) (hr : QA X es tr) (hs : isStar e = false := by rfl) : QA X (e :: es) (tCons te tr) := ⟨pc ha.h hr.h hs⟩
theorem qe_int {i j pos} : QE X (.Constant (.int i) j pos) (tC (.int i)) := ⟨pe_int⟩
theorem qe_bl {b j pos} : QE X (.Constant (.bool b) j pos) (tC (.bl b)) := ⟨pe_bl⟩
theorem qe_non {j pos} : QE X (.Constant .none j pos) (tC .non) := ⟨pe_non⟩
theorem qe_bltn {x : Str} {v : V} {u : Value} (hg : Gl X x) (hm : X.mg x = none) (hv : bootBuiltins x = some u) (r : RelV v u) (hn : x ≠ "__name__" := by decide) (hd : (x == ("__debug__" : Str)) = false := by decide) : QE X (.Name x pos) (tC v) := ⟨pe_bltn hg hm hv r hn hd⟩
theorem qv (i : Nat) {x : Str} (hN : X.N[i]? = some x := by rfl) (hv : Vis X.env.scope x := by first | exact Or.inl rfl | exact Or.inr (Or.inl rfl) | exact Or.inr (Or.inr rfl)) (hd : (x == ("__debug__" : Str)) = false := by decide)
    (hcd : (x == ("__classdict__" : Str)) = false := by decide) : QE X (.Name x pos) (tVar i) := ⟨pe_var hN hv hd hcd⟩
theorem qe_op {op : Operator} {r : R2} (ho : OpR X (binaryOp op) r) (ha : QE X a ta) (hb : QE X b tb) : QE X (.BinOp a op b pos) (tOp r ta tb) := ⟨pe_op ho ha.h hb.h⟩
theorem qe_un {op : UnaryOp} {r : V → Hp → VK → Prop} (ho : UnR X (unaryOp op) r) (ha : QE X a ta) : QE X (.UnaryOp op a pos) (tUn r ta) := ⟨pe_un ho ha.h⟩
theorem qe_not (ha : QE X a ta) : QE X (.UnaryOp .Not a pos) (tNotV ta) := ⟨pe_not ha.h⟩
theorem qe_cmpR {op : CmpOp} {r : R2} (ho : OpR X (compareOp op) r) (ha : QE X a ta) (hb : QE X b tb) (hm : behindInMarks op b = false) : QE X (.Compare a [op] [b] pos) (tOp r ta tb) := ⟨pe_cmpR ho ha.h hb.h hm⟩
theorem qe_and (ha : QE X a ta) (hb : QE X (.BoolOp .And (b :: rest) pos) tb) : QE X (.BoolOp .And (a :: b :: rest) pos) (tAndV ta tb) := ⟨pe_and ha.h hb.h⟩
theorem qe_or (ha : QE X a ta) (hb : QE X (.BoolOp .Or (b :: rest) pos) tb) : QE X (.BoolOp .Or (a :: b :: rest) pos) (tOrV ta tb) := ⟨pe_or ha.h hb.h⟩
theorem qe_one {op} (h : QE X a ta) : QE X (.BoolOp op [a] pos) ta := ⟨pe_one h.h⟩
theorem qe_ifExp (hc : QT X c tA) (ha : QE X a ta) (hb : QE X b tb) : QE X (.IfExp c a b pos) (tIf tA ta tb) := ⟨pe_ifExp hc.h ha.h hb.h⟩
theorem qe_tup {x1} (h : QA X es tr) : QE X (.Tuple es x1 pos) (tTup tr) := ⟨pe_tup h.h⟩
theorem qe_lst (h : QA X es tr) : QE X (.List es pos) (tLst tr) := ⟨pe_lst h.h⟩
theorem qe_ix {r : R2} (hr : IxR X r) (ha : QE X a ta) (hb : QE X b tb) (hs : PlainIx b) : QE X (.Subscript a b pos) (tOp r ta tb) := ⟨pe_ix hr ha.h hb.h hs⟩
theorem qo_none : QO X none tNoPart := ⟨po_none⟩
theorem qo_some (h : QE X e te) : QO X (some e) (tPart te) := ⟨po_some h.h⟩
theorem qe_slice {r : V → Option Int → Option Int → Hp → VK → Prop} {lo hi : Option Expr} {tlo thi : TO} {p2 : Pos} (hr : SlR X r) (he : QE X e te) (hl : QO X lo tlo) (hu : QO X hi thi) : QE X (.Subscript e (.Slice lo hi none p2) pos) (tSl r te tlo thi) := ⟨pe_slice hr he.h hl.h hu.h⟩
theorem qe_fnS {k j : Nat} {x : Str} {ps : List Str} {sp : Sp} {p : Pos} (F : Fn X.prog X.w X.K X.mg X.base k x ps sp) (hr : Room j X.A) (hk : k ≤ j) (hg : Gl X x) (ha : QA X (e :: es) tr) (hdb : (x == ("__debug__" : Str)) = false := by decide)
    (hs : noStar (e :: es) = true := by rfl) : QE X (.Call (.Name x p) (e :: es) [] pos) (tCall sp [] E0 tr) := ⟨pe_fnS F hr hk hg ha.h hdb hs⟩
theorem qe_callBS {x : Str} {p : Pos} {id : String} {r : List V → Hp → VK → Prop} (hc : CallR X (.builtin id) r) (hg : Gl X x) (hm : X.mg x = none) (hv : bootBuiltins x = some (.builtin id)) (ha : QA X (e :: es) tr) (hn : x ≠ "__name__" := by decide) (hdb : (x == ("__debug__" : Str)) = false := by decide)
    (hs : noStar (e :: es) = true := by rfl) : QE X (.Call (.Name x p) (e :: es) [] pos) (tCB r tr) := ⟨pe_callBS hc hg hm hv ha.h hn hdb hs⟩
theorem qe_callTyS {x : Str} {p : Pos} {T : String} {r : List V → Hp → VK → Prop} (hc : CallR X (.type T) r) (hg : Gl X x) (hm : X.mg x = none) (hv : bootBuiltins x = some (.type T)) (ha : QA X (e :: es) tr) (hn : x ≠ "__name__" := by decide) (hdb : (x == ("__debug__" : Str)) = false := by decide)
    (hs : noStar (e :: es) = true := by rfl) : QE X (.Call (.Name x p) (e :: es) [] pos) (tCB r tr) := ⟨pe_callTyS hc hg hm hv ha.h hn hdb hs⟩
theorem qe_comp {target elt iter : Expr} {scope : Scope} {N' : List Str} {cap : List Nat} {t : Nat} (hc : X.calm = true) (S : CompOk X N' scope t cap) (hi : QI X target iter wi)
    (hg : ∀ C s3 H3 fp, QG (cxComp X N' scope C s3 H3 fp) target g) (he : ∀ C s3 H3 fp, QE (cxComp X N' scope C s3 H3 fp) elt te) (hs : ∀ x, foldedSetIterable iter X.env x = pure x := by intro _; rfl) :
    QE X (.ListComp elt [⟨target, iter, [], 0⟩] scope pos) (tComp t cap wi g te) := ⟨pe_comp hc S hi.h (fun C s3 H3 fp => (hg C s3 H3 fp).h) (fun C s3 H3 fp => (he C s3 H3 fp).h) hs⟩
theorem qt_cmpR {op : CmpOp} {r : R2} (ho : OpR X (compareOp op) r) (ha : QE X a ta) (hb : QE X b tb) (hm : behindInMarks op b = false) : QT X (.Compare a [op] [b] pos) (tTest (tOp r ta tb)) := ⟨pt_cmpR ho ha.h hb.h hm⟩
theorem qt_not (ha : QT X a tA) : QT X (.UnaryOp .Not a pos) (tNot tA) := ⟨pt_not ha.h⟩
theorem qt_val (h : QE X e te) (he : ∀ whole, isTrue e X.env whole = (do let v ← whole; standAt e.pos; holding [v] (truthy v)) := by intro _; rfl) : QT X e (tB te) := ⟨pt_val h.h he⟩
theorem qw_and1 (ha : QT X a tA) : QW X (.BoolOp .And [a] pos) tA := ⟨pw_and1 ha.h⟩
theorem qw_or1 (ha : QT X a tA) : QW X (.BoolOp .Or [a] pos) tA := ⟨pw_or1 ha.h⟩
theorem qw_and (ha : QT X a tA) (hb : QW X (.BoolOp .And (b :: rest) pos) tB') : QW X (.BoolOp .And (a :: b :: rest) pos) (tAnd tA tB') := ⟨pw_and ha.h hb.h⟩
theorem qw_or (ha : QT X a tA) (hb : QW X (.BoolOp .Or (b :: rest) pos) tB') : QW X (.BoolOp .Or (a :: b :: rest) pos) (tOr tA tB') := ⟨pw_or ha.h hb.h⟩
theorem qt_w (h : QW X e tA) : QT X e tA := ⟨h.h.pt⟩
end
section
variable {P : Program} {w : World} {K : PySem.W.Frag} {mg : Str → Option Value} {base : Heap}
theorem Fun.okQ {x qual : Str} {st : Stmt} {f : Addr} {fd : FuncData} {N ps : List Str} {k : Nat} {sp : Sp} (F : Fun K x qual st f fd) (S : FnScope N ps (defScope st)) (len : ∀ vs H Q E, sp vs H Q E → vs.length = ps.length)
    (hbody : ∀ (cdv : Value) (A : Around) (outer : List Env) (s : Shared) (H : Hp) (vs : List V) (Q : VK) (E : XK), Room k (A.deeper (envOfC qual (defScope st) s.heap.objs.size f cdv)) → sp vs H Q E →
      ∃ t, QB (cxOf CX0 P w K mg base N qual (defScope st) f cdv A outer s H E).nox (defBody st) t ∧ t { nx := fun _ H' => Q .non H', rt := Q } (start N vs) H) : FnOk P w K mg base CX0 (k + 1) f fd ps sp :=
  F.ok S len fun cdv A outer s H vs Q E hr h => let ⟨t, h1, h2⟩ := hbody cdv A outer s H vs Q E hr h; ⟨t, h1.h, h2⟩
end
end L2
set_option Elab.async false
set_option linter.all false
set_option maxRecDepth 100000
set_option maxHeartbeats 4000000
namespace L2
open PySem PySem.Spec PyProof.Rows
section
variable {prog : Program} {w : World} {A : Around} {E : Value → Shared → Prop} {s : Shared}
theorem tupNext_item {it t : Addr} {k : Nat} {items : Array Value} {x : Value} {Q : Value → Shared → Prop} (gi : s.heap.IsTupleIter it t k) (gt : s.heap.IsTuple t items) (gx : items[k]? = some x)
    (gq : ∀ h', h'.IsTupleIter it t (k + 1) → Heap.SameBut it s.heap h' → Q x { s with heap := h' }) : wpAny (model prog w) A (Builtin.SmallTypes.nextOf (.ref it)) Q E s := by
  obtain ⟨ob, eo, ec, ed⟩ := id gi
  obtain ⟨ot, et, _, nt, edt⟩ := gt
  unfold Builtin.SmallTypes.nextOf
  refine wpAny_bind (wpAny_callSpecial?_slot (name := Str.ofString "__next__") gi.typeIs F.slot_tuple_iterator_next (wpAny_call_entry F.slot_tuple_iterator_next gi.typeIs F.entry_tuple_iterator_next ?_ (F.args_tuple_iterator_next_1 _)))
  show wpAny _ _ (field (.ref it) 0 >>= _) _ _ _
  refine wpAny_bind (wpAny_field eo ed (x := .ref t) rfl ?_)
  show wpAny _ _ (if (Value.ref t == Value.none) = true then _ else _) _ _ _
  rw [if_neg (fun hq : (Value.ref t == Value.none) = true => Bool.false_ne_true hq)]
  show wpAny _ _ (field (.ref it) 1 >>= _) _ _ _
  refine wpAny_bind (wpAny_field eo ed (x := .int k 0) rfl ?_)
  show wpAny _ _ (seqItems? (.ref t) >>= _) _ _ _
  refine wpAny_bind (wpAny_seqItems et edt ?_)
  simp only [Int.toNat_natCast, gx]
  refine wpAny_bind (wpAny_setField eo ed (by simp) (wpAny_pure ⟨x, rfl, wpAny_pure (gq _ ?_ (Heap.SameBut.update ..))⟩))
  exact ⟨_, Heap.get?_update_self _ eo (Obj.isFreed_of_fields (Obj.data_mapFields ed _)), (Obj.cls_mapFields ..).trans ec, by rw [Obj.data_mapFields ed]; simp [rawInt]⟩
theorem tupNext_end {it t : Addr} {k : Nat} {items : Array Value} {Q : Value → Shared → Prop} (gh : A.handled = none) (gi : s.heap.IsTupleIter it t k) (gt : s.heap.IsTuple t items) (gx : items[k]? = none)
    (ge : ∀ h' e, Heap.ExtBut it s.heap h' → (∃ o, h'.get? e = some o ∧ o.cls = .type "StopIteration") → E (.ref e) { s with heap := h' }) : wpAny (model prog w) A (Builtin.SmallTypes.nextOf (.ref it)) Q E s := by
  obtain ⟨ob, eo, ec, ed⟩ := id gi
  obtain ⟨ot, et, _, nt, edt⟩ := gt
  unfold Builtin.SmallTypes.nextOf
  refine wpAny_bind (wpAny_callSpecial?_slot (name := Str.ofString "__next__") gi.typeIs F.slot_tuple_iterator_next (wpAny_call_entry F.slot_tuple_iterator_next gi.typeIs F.entry_tuple_iterator_next ?_ (F.args_tuple_iterator_next_1 _)))
  show wpAny _ _ (field (.ref it) 0 >>= _) _ _ _
  refine wpAny_bind (wpAny_field eo ed (x := .ref t) rfl ?_)
  show wpAny _ _ (if (Value.ref t == Value.none) = true then _ else _) _ _ _
  rw [if_neg (fun hq : (Value.ref t == Value.none) = true => Bool.false_ne_true hq)]
  show wpAny _ _ (field (.ref it) 1 >>= _) _ _ _
  refine wpAny_bind (wpAny_field eo ed (x := .int k 0) rfl ?_)
  show wpAny _ _ (seqItems? (.ref t) >>= _) _ _ _
  refine wpAny_bind (wpAny_seqItems et edt ?_)
  simp only [Int.toNat_natCast, gx]
  refine wpAny_bind (wpAny_rule (wpAny_bind (wpAny_setField eo ed (by simp) ?_)))
  show wpAny _ _ (newExc (.type "StopIteration") [] >>= _) _ _ _
  refine wpAny_bind ?_
  simp only [newExc, newTuple]
  refine wpAny_bind (wpAny_newObj_type ?_ (by size_fits))
  refine wpAny_bind (m := firstArgMember _ _) (wpAny_of_eq (a := Value.none) (by first | rfl | (simp only [firstArgMember]; rfl)) (wpAny_newObj_type ?_ (by size_fits)))
  simp only [raiseNew]
  refine wpAny_bind (wpAny_handled ?_)
  first | rw [show A.in1.handled = none from gh] | rw [gh]
  refine wpAny_bind (wpAny_pure (wpAny_throw ?_))
  exact ge _ _ (((Heap.SameBut.update ..).extBut.push _).push _) ⟨_, Heap.get?_push_size _ rfl, rfl⟩
theorem draws_tup (gh : A.handled = none) (it t : Addr) (hne : t ≠ it) (items : Array Value) :
    Draws prog w A it [it, t] items.size (fun i v => items[i]? = some v) (fun i h => h.IsTupleIter it t i ∧ h.IsTuple t items) where
  live := fun _ _ st => let ⟨o, ho, _⟩ := st.1; ⟨o, ho⟩
  frame := fun _ _ _ st hk => ⟨st.1.at fun o e => hk it (by simp) o e, st.2.at fun o e => hk t (by simp) o e⟩
  item := fun i s Q E hi st hQ => tupNext_item st.1 st.2 (x := items[i]) (by simp [hi]) fun h' hit' hs' => hQ _ h' s.toks (by simp [hi]) ⟨hit', st.2.extBut hs'.extBut hne⟩ hs'
  done := fun s Q E st hE => tupNext_end gh st.1 st.2 (by simp) hE
end
end L2
namespace L2
open PySem PySem.Spec PyProof.Rows
noncomputable def IterK (κ : Bool) (h : Heap) (it a : Addr) (i : Nat) : Prop := match κ with | true => h.IsTupleIter it a i | false => h.IsListIter it a i
noncomputable def SeqK (κ : Bool) (h : Heap) (a : Addr) (items : Array Value) : Prop := match κ with | true => h.IsTuple a items | false => h.IsList a items
theorem IterK.at {κ : Bool} {h h' : Heap} {it a : Addr} {i : Nat} (x : IterK κ h it a i) (e : ∀ o, h.get? it = some o → h'.get? it = some o) : IterK κ h' it a i := by
  cases κ
  · exact Heap.IsListIter.at x e
  · exact Heap.IsTupleIter.at x e
theorem IterK.obj {κ : Bool} {h : Heap} {it a : Addr} {i : Nat} (x : IterK κ h it a i) : ∃ o, h.get? it = some o ∧ ∀ v, o.data ≠ .cell v := by
  cases κ
  · obtain ⟨o, e, c, d⟩ := x; exact ⟨o, e, fun v z => by rw [d] at z; cases z⟩
  · obtain ⟨o, e, c, d⟩ := x; exact ⟨o, e, fun v z => by rw [d] at z; cases z⟩
theorem drawsK {prog : Program} {w : World} {A : Around} (κ : Bool) (hh : A.handled = none) (it a : Addr) (hne : a ≠ it) (items : Array Value) :
    Draws prog w A it [it, a] items.size (fun i v => items[i]? = some v) (fun i h => IterK κ h it a i ∧ SeqK κ h a items) := by
  cases κ
  · exact Draws.list hh it a hne items
  · exact draws_tup hh it a hne items
end L2
namespace L2
open PySem PySem.Spec PyProof.Rows
noncomputable abbrev zq1 (h : Heap) (a : Addr) : Heap := h.push { cls := .type "tuple_iterator", data := .fields #[.ref a, .int 0 0] }
noncomputable abbrev zq2 (h : Heap) (a b : Addr) : Heap := (zq1 h a).push { cls := .type "tuple_iterator", data := .fields #[.ref b, .int 0 0] }
noncomputable abbrev zq3 (h : Heap) (a b : Addr) : Heap := (zq2 h a b).push { cls := .type "tuple", data := .seq #[.ref h.objs.size, .ref (zq1 h a).objs.size] }
noncomputable abbrev zq4 (h : Heap) (a b : Addr) : Heap := (zq3 h a b).push { cls := .type "tuple", data := .seq #[.none, .none] }
noncomputable abbrev zq5 (h : Heap) (a b : Addr) : Heap := (zq4 h a b).push { cls := .type "zip", data := .fields #[.none, .bool false, .bool false, .ref (zq2 h a b).objs.size, .ref (zq3 h a b).objs.size] }
theorem zipT_new (a b : Addr) (xs ys : Array Value) :
    Meets (Builtin.«zip.__new__» ⟨[.type "zip", .ref a, .ref b], []⟩) (fun _ R s => s.heap.IsTuple a xs ∧ s.heap.IsTuple b ys ∧ R (.ok (.ret (.ref (zq4 s.heap a b).objs.size))) { s with heap := zq5 s.heap a b }) :=
  .of_wp fun prog w A R s h => by
    obtain ⟨hp, g, d, tk, os⟩ := s; obtain ⟨ga, gb, h⟩ := h
    have hsub := sub_zip
    have gA : Heap.IsTuple (Shared.heap ⟨hp, g, d, tk, os⟩) a xs := ga
    have gB : Heap.IsTuple (Shared.heap ⟨hp.push { cls := .type "tuple_iterator", data := .fields #[.ref a, .int 0 0] }, g, d, tk, os⟩) b ys := Heap.IsTuple.push gb _
    wp_walk using wpAny_pyIter_tuple gA, wpAny_pyIter_tuple gB
    exact ⟨_, rfl, h⟩
theorem call_zipT {prog : Program} {w : World} {A : Around} {E : Value → Shared → Prop} {s : Shared} {a b : Addr} {xs ys : Array Value} {Q : Value → Shared → Prop} (ga : s.heap.IsTuple a xs) (gb : s.heap.IsTuple b ys)
    (g : ∀ h', IsZip h' (s.heap.objs.size + 4) (s.heap.objs.size + 2) (s.heap.objs.size + 3) .none → IsPair h' (s.heap.objs.size + 2) (.ref s.heap.objs.size) (.ref (s.heap.objs.size + 1)) → IsPair h' (s.heap.objs.size + 3) .none .none →
      h'.IsTupleIter s.heap.objs.size a 0 → h'.IsTupleIter (s.heap.objs.size + 1) b 0 → (∀ c o, s.heap.get? c = some o → h'.get? c = some o) → Q (.ref (s.heap.objs.size + 4)) { s with heap := h' }) :
    wpAny (model prog w) A (call (.type "zip") [.ref a, .ref b]) Q E s := by
  refine callType_new F.called_zip (by decide) (F.typeCall_zip_2 _ _) (F.newCall_zip_2 _ _) (fun obj => F.args_object_init_3 obj _ _) F.entry_zip_new (zipT_new a b xs ys) ⟨ga, gb, ?_⟩
  have y1 : (zq1 s.heap a).objs.size = s.heap.objs.size + 1 := Heap.size_push ..
  have y2 : (zq2 s.heap a b).objs.size = s.heap.objs.size + 2 := by rw [Heap.size_push, y1]
  have y3 : (zq3 s.heap a b).objs.size = s.heap.objs.size + 3 := by rw [Heap.size_push, y2]
  have y4 : (zq4 s.heap a b).objs.size = s.heap.objs.size + 4 := by rw [Heap.size_push, y3]
  have p4 : ∀ {c : Addr} {o : Obj}, (zq4 s.heap a b).get? c = some o → (zq5 s.heap a b).get? c = some o := fun e => Heap.get?_push_of_some _ e
  have p3 : ∀ {c : Addr} {o : Obj}, (zq3 s.heap a b).get? c = some o → (zq5 s.heap a b).get? c = some o := fun e => p4 (Heap.get?_push_of_some _ e)
  have p2 : ∀ {c : Addr} {o : Obj}, (zq2 s.heap a b).get? c = some o → (zq5 s.heap a b).get? c = some o := fun e => p3 (Heap.get?_push_of_some _ e)
  have p1 : ∀ {c : Addr} {o : Obj}, (zq1 s.heap a).get? c = some o → (zq5 s.heap a b).get? c = some o := fun e => p2 (Heap.get?_push_of_some _ e)
  have p0 : ∀ {c : Addr} {o : Obj}, s.heap.get? c = some o → (zq5 s.heap a b).get? c = some o := fun e => p1 (Heap.get?_push_of_some _ e)
  have x5 : (zq5 s.heap a b).get? (zq4 s.heap a b).objs.size = some _ := Heap.get?_push_size _ rfl
  have x4 : (zq5 s.heap a b).get? (zq3 s.heap a b).objs.size = some _ := p4 (Heap.get?_push_size _ rfl)
  have x3 : (zq5 s.heap a b).get? (zq2 s.heap a b).objs.size = some _ := p3 (Heap.get?_push_size _ rfl)
  have x2 : (zq5 s.heap a b).get? (zq1 s.heap a).objs.size = some _ := p2 (Heap.get?_push_size _ rfl)
  have x1 : (zq5 s.heap a b).get? s.heap.objs.size = some _ := p1 (Heap.get?_push_size _ rfl)
  show _ ∧ _
  rw [y2, y3, y4] at x5
  rw [y1, y2] at x3
  rw [y3] at x4
  rw [y1] at x2
  rw [y4]
  exact ⟨⟨_, x5, rfl⟩, g _ x5 x3 x4 ⟨_, x1, rfl, rfl⟩ ⟨_, x2, rfl, rfl⟩ fun c o e => p0 e⟩
theorem nd5 (n : Nat) : [n + 4, n + 2, n + 3, n, n + 1].Nodup := by
  simp only [List.nodup_cons, List.mem_cons, List.not_mem_nil, or_false, not_or, List.nodup_nil, and_true, not_false_eq_true]
  omega
theorem ge5 {n c : Nat} (h : c ∈ [n + 4, n + 2, n + 3, n, n + 1]) : n ≤ c := by
  simp only [List.mem_cons, List.not_mem_nil, or_false] at h
  omega
section
variable {X : Cx}
end
end L2
set_option Elab.async false
set_option linter.all false
set_option maxRecDepth 100000
set_option maxHeartbeats 4000000
namespace L2
open PySem PySem.Spec PyProof.Rows
section
variable {X : Cx} {pos : Pos} {a b e : Expr} {ta tb te : TE} {tc : TT}
noncomputable def tAssert (c : TT) : TS := fun D σ H => c σ H fun b H1 => b = true ∧ D.nx σ H1
theorem qs_assert {c : Expr} {m : Option Expr} (hc : QT X c tc) : QS X (.Assert c m pos) (tAssert tc) := ⟨by
  intro pins s σ H D I h
  exact wpAny_Assert_holds (thn (hc.h pins s σ H _ I h) fun b s1 ⟨H1, I1, q1⟩ => ⟨q1.1, σ, H1, I1, q1.2⟩)⟩
noncomputable def tIsi2 (K : PySem.W.Frag) (te : TE) (T1 T2 : String) : TE := fun σ H Q => te σ H fun x H1 => ∃ k, Kd K H1 x k ∧ T1 ∈ tys ∧ T2 ∈ tys ∧ ∀ p, H1 p = none → Q (.bl (isi k T1 || isi k T2)) (upd H1 p (.tup [.ty T1, .ty T2]))
theorem answers_of {H : Hp} {pins : List (Addr × Obj)} {σ : St} {s : Shared} {x : V} {u : Value} {k T : String} (I : Inv X pins σ H s) (r : RelV x u) (hk : Kd X.K H x k) (hT : T ∈ tys) : s.TypeIs u k ∧ Answers (fun s => s.TypeIs u k) u (.type T) (isi k T) := by
  simp only [tys, List.mem_cons, List.not_mem_nil, or_false] at hT
  cases hk with
  | non =>
    cases r
    refine ⟨rfl, ?_⟩
    rcases hT with rfl | rfl | rfl | rfl | rfl
    · exact Answers.of_false_none (by decide +kernel) F.isi_meta_int F.sub_NoneType_int
    · exact Answers.of_false_none (by decide +kernel) F.isi_meta_bool F.sub_NoneType_bool
    · exact Answers.of_false_none (by decide +kernel) F.isi_meta_tuple F.sub_NoneType_tuple
    · exact Answers.of_false_none (by decide +kernel) F.isi_meta_list F.sub_NoneType_list
    · exact Answers.of_false_none (by decide +kernel) F.isi_meta_str F.sub_NoneType_str
  | bl b =>
    cases r
    refine ⟨rfl, ?_⟩
    rcases hT with rfl | rfl | rfl | rfl | rfl
    · exact Answers.of_true F.isi_meta_int F.sub_bool_int
    · exact Answers.of_true F.isi_meta_bool F.sub_bool_bool
    · exact Answers.of_false_bool (by decide +kernel) F.isi_meta_tuple F.sub_bool_tuple
    · exact Answers.of_false_bool (by decide +kernel) F.isi_meta_list F.sub_bool_list
    · exact Answers.of_false_bool (by decide +kernel) F.isi_meta_str F.sub_bool_str
  | int i =>
    obtain ⟨t, rfl⟩ := r
    refine ⟨rfl, ?_⟩
    rcases hT with rfl | rfl | rfl | rfl | rfl
    · exact Answers.of_true F.isi_meta_int F.sub_int_int
    · exact Answers.of_false_int (by decide +kernel) F.isi_meta_bool F.sub_int_bool
    · exact Answers.of_false_int (by decide +kernel) F.isi_meta_tuple F.sub_int_tuple
    · exact Answers.of_false_int (by decide +kernel) F.isi_meta_list F.sub_int_list
    · exact Answers.of_false_int (by decide +kernel) F.isi_meta_str F.sub_int_str
  | str z =>
    obtain ⟨t, rfl⟩ := r
    refine ⟨rfl, ?_⟩
    rcases hT with rfl | rfl | rfl | rfl | rfl
    · exact Answers.of_false_str (by decide +kernel) F.isi_meta_int F.sub_str_int
    · exact Answers.of_false_str (by decide +kernel) F.isi_meta_bool F.sub_str_bool
    · exact Answers.of_false_str (by decide +kernel) F.isi_meta_tuple F.sub_str_tuple
    · exact Answers.of_false_str (by decide +kernel) F.isi_meta_list F.sub_str_list
    · exact Answers.of_true F.isi_meta_str F.sub_str_str
  | tup hq =>
    cases r
    obtain ⟨its, rv, ⟨o, ho, hc, _⟩, _⟩ := I.tuple hq
    refine ⟨⟨o, ho, hc⟩, ?_⟩
    rcases hT with rfl | rfl | rfl | rfl | rfl
    · exact Answers.of_false_tuple (by decide +kernel) F.isi_meta_int F.sub_tuple_int
    · exact Answers.of_false_tuple (by decide +kernel) F.isi_meta_bool F.sub_tuple_bool
    · exact Answers.of_true F.isi_meta_tuple F.sub_tuple_tuple
    · exact Answers.of_false_tuple (by decide +kernel) F.isi_meta_list F.sub_tuple_list
    · exact Answers.of_false_tuple (by decide +kernel) F.isi_meta_str F.sub_tuple_str
  | lst hq =>
    cases r
    obtain ⟨its, rv, ⟨o, n, ho, hc, _⟩, _⟩ := I.list hq
    refine ⟨⟨o, ho, hc⟩, ?_⟩
    rcases hT with rfl | rfl | rfl | rfl | rfl
    · exact Answers.of_false_list (by decide +kernel) F.isi_meta_int F.sub_list_int
    · exact Answers.of_false_list (by decide +kernel) F.isi_meta_bool F.sub_list_bool
    · exact Answers.of_false_list (by decide +kernel) F.isi_meta_tuple F.sub_list_tuple
    · exact Answers.of_true F.isi_meta_list F.sub_list_list
    · exact Answers.of_false_list (by decide +kernel) F.isi_meta_str F.sub_list_str
theorem qe_isi2 {x1 x2 : Str} {T1 T2 : String} {p p1 p2 p3 : Pos} {k : Nat} (hg : Gl X "isinstance") (hm : X.mg "isinstance" = none) (he : QE X e te) (h1 : Gl X x1) (m1 : X.mg x1 = none) (b1 : bootBuiltins x1 = some (.type T1)) (h2 : Gl X x2) (m2 : X.mg x2 = none) (b2 : bootBuiltins x2 = some (.type T2))
    (hs : isStar e = false := by rfl) (n1 : x1 ≠ "__name__" := by decide) (d1 : (x1 == ("__debug__" : Str)) = false := by decide) (n2 : x2 ≠ "__name__" := by decide) (d2 : (x2 == ("__debug__" : Str)) = false := by decide) :
    QE X (.Call (.Name "isinstance" p) [e, .Tuple [.Name x1 p1, .Name x2 p2] k p3] [] pos) (tIsi2 X.K te T1 T2) := ⟨by
  intro pins s σ H Q I h
  refine wpAny_Call_Name_kw (ld_blt I hg hm boot_isinstance ?_)
  refine PyProof.Rows.callWith_builtin1 ?_ (star_ok hs) (star_any rfl)
  rw [star_ok hs]
  show wpAny _ _ (spliced ((false, eval e X.env) :: backTo pos (starEach [.Tuple [.Name x1 p1, .Name x2 p2] k p3] X.env))) _ _ s
  refine Calls.spliced_cons (thn (he.h pins s σ H _ I h) fun u s1 ⟨x, H1, I1, r1, kk, hk, t1, t2, q⟩ => ?_)
  rw [star_ok (e := .Tuple [.Name x1 p1, .Name x2 p2] k p3) rfl]
  show wpAny _ _ (spliced ((false, eval (.Tuple [.Name x1 p1, .Name x2 p2] k p3) X.env) :: backTo pos (starEach [] X.env))) _ _ s1
  have both : PA X [.Name x1 p1, .Name x2 p2] (tCons (tC (.ty T1)) (tCons (tC (.ty T2)) tNil)) := pc (pe_bltn (v := .ty T1) h1 m1 b1 rfl n1 d1) (pc (pe_bltn (v := .ty T2) h2 m2 b2 rfl n2 d2) pa_nil)
  refine Calls.spliced_cons (wpAny_Tuple_spliced (thn (both p3 pins s1 σ H1 (fun vs H2 => vs = [.ty T1, .ty T2] ∧ H2 = H1) I1 ⟨rfl, rfl⟩) fun us s2 ⟨vs, H2, I2, r2, ev, eh⟩ => ?_))
  subst ev eh
  obtain ⟨v1, v2, rfl, w1, w2⟩ := Vals.two r2
  cases w1
  cases w2
  refine ⟨by show 2 ≤ sizeLine; decide, ?_⟩
  refine Calls.spliced_nil ?_
  have hf : H2 s2.heap.objs.size = none := I2.hok.fresh (Nat.le_refl _)
  have I3 : Inv X pins σ (upd H2 s2.heap.objs.size (.tup [.ty T1, .ty T2])) { s2 with heap := s2.heap.push { cls := .type "tuple", data := .seq [Value.type T1, Value.type T2].toArray } } :=
    I2.laid (t' := s2.toks) (fun b u e => Heap.get?_push_of_some _ e) (Nat.le_refl _) ⟨by show 2 ≤ sizeLine; decide, [.type T1, .type T2], .cons rfl (.cons rfl .nil), ⟨_, Heap.get?_push_size _ rfl, rfl, _, rfl⟩⟩
  have hk3 : Kd X.K (upd H2 s2.heap.objs.size (.tup [.ty T1, .ty T2])) x kk := by
    have up : ∀ b o, H2 b = some o → upd H2 s2.heap.objs.size (.tup [.ty T1, .ty T2]) b = some o := fun b o e => by rw [upd_ne (ne_of_none e hf)]; exact e
    cases hk with
    | non => exact .non
    | bl b => exact .bl b
    | int i => exact .int i
    | str z => exact .str z
    | tup hq =>
      rcases hq with (hq | ⟨o, hq⟩) | hq
      · exact .tup (.inl (.inl (up _ _ hq)))
      · exact .tup (.inl (.inr ⟨o, up _ _ hq⟩))
      · exact .tup (.inr hq)
    | lst hq =>
      rcases hq with (hq | ⟨o, hq⟩) | hq
      · exact .lst (.inl (.inl (up _ _ hq)))
      · exact .lst (.inl (.inr ⟨o, up _ _ hq⟩))
      · exact .lst (.inr hq)
  obtain ⟨g0, g1⟩ := answers_of I3 r1 hk3 t1
  obtain ⟨_, g2⟩ := answers_of I3 r1 hk3 t2
  refine IsiPair.tupleOf (cs := [.type T1, .type T2]) (vs := [isi kk T1, isi kk T2]) ⟨g1, g2, trivial⟩ g0 (Heap.get?_push_size _ rfl) fun tk => ?_
  refine ⟨.bl (isi kk T1 || isi kk T2), _, I3.tok _, ?_, q _ hf⟩
  show Value.bool ([isi kk T1, isi kk T2].any id) = Value.bool (isi kk T1 || isi kk T2)
  simp⟩
end
section
variable {X : Cx} {K : PySem.W.Frag} {pos : Pos}
noncomputable def CMulB (i j : Int) : Prop := i.natAbs < 2 ^ 8000 ∧ j.natAbs < 2 ^ 8000
theorem bits_le {a : Int} (h : a.natAbs < 2 ^ 8000) : Builtin.Int.intBits a ≤ 8001 := by
  unfold Builtin.Int.intBits
  split
  · omega
  · rename_i h0
    have hne : a.natAbs ≠ 0 := by
      intro z
      apply h0
      first | exact Int.natAbs_eq_zero.mp z | simp [Int.natAbs_eq_zero.mp z] | omega
    have := (Nat.log2_lt hne).mpr h
    omega
theorem CMulB.ok {i j : Int} (h : CMulB i j) : IntMulOk i j := by
  have h1 := bits_le h.1
  have h2 := bits_le h.2
  unfold IntMulOk
  have : Builtin.Int.intTooBig (Builtin.Int.intBits i + Builtin.Int.intBits j) = false := by
    unfold Builtin.Int.intTooBig
    simp only [decide_eq_false_iff_not]
    have : (16002 : Int) ≤ bitsLine := by decide
    omega
  rw [this]
  simp
theorem op_mulB : OpR X (binaryOp .Mult) (rI CMulB fun i j => .int (i * j)) := opI fun _ _ _ _ _ _ _ hc q => mul_int q hc.ok
end
section
variable {X : Cx}
noncomputable def CDivZ (i j : Int) : Prop := j ≠ 0 ∧ j.natAbs < 2 ^ 8000
theorem op_fdivZ : OpR X (binaryOp .FloorDiv) (rI CDivZ fun i j => .int (i.fdiv j)) := opI fun i j _ _ _ _ _ hc q => by
  obtain ⟨h0, h1⟩ := hc
  have hl : j.natAbs.log2 < 9000 := by
    have := (Nat.log2_lt (show j.natAbs ≠ 0 by omega)).mpr h1
    omega
  exact floordiv_int h0 q (.inl (PyProof.noPylong_of_log2 hl))
end
end L2
set_option Elab.async false
set_option linter.all false
set_option maxRecDepth 100000
set_option maxHeartbeats 4000000
namespace L2
open PySem PySem.Spec PyProof.Rows
section
variable {X : Cx} {pos : Pos} {o e : Expr} {to : TE} {tr : TA}
theorem qe_append {ap : Pos} (ho : QE X o to) (ha : QA X [e] tr) (hbase : attributeBase o "append" X.env (eval o X.env) = eval o X.env := by rfl) (hline : (ap.endLine == pos.line) = true := by rfl) (hs : isStar e = false := by rfl) :
    QE X (.Call (.Attribute o "append" ap) [e] [] pos) (tBM X.K "list" rAppend to tr) :=
  ⟨pe_bm PySem.F.plainAttrs_list PySem.F.slot_list_append PySem.F.type_list_append mt_append ho.h ha.h hbase (by rw [star_ok hs]; rfl) hline (star_ok hs) (star_any rfl)⟩
end
section
variable {X : Cx}
theorem call_divmodB : CallR X (.builtin "divmod") (fun xs H Q => ∃ a b : Int, xs = [.int a, .int b] ∧ 0 < b ∧ b < 2 ^ 200 ∧ ∀ p, H p = none → Q (.ref p) (upd H p (.tup [.int (a / b), .int (a % b)]))) := by
  intro pins s σ H xs us Q I r h
  obtain ⟨a, b, rfl, h0, h1, q⟩ := h
  obtain ⟨u, v, rfl, rx, ry⟩ := Vals.two r
  obtain ⟨t, rfl⟩ := rx
  obtain ⟨t', rfl⟩ := ry
  have e1 : a.fdiv b = a / b := Int.fdiv_eq_ediv_of_nonneg _ (by omega)
  have e2 : a.fmod b = a % b := Int.fmod_eq_emod_of_nonneg _ (by omega)
  have hl : b.natAbs.log2 < 9000 := by
    have hb : b.natAbs < 2 ^ 200 := by omega
    have := (Nat.log2_lt (show b.natAbs ≠ 0 by omega)).mpr hb
    omega
  refine divmod_int (by omega) ?_ (.inl (PyProof.noPylong_of_log2 hl))
  refine ⟨.ref s.heap.objs.size, _, I.laid (o := .tup [.int (a / b), .int (a % b)]) (t' := s.toks + 1 + 1) (fun b u e => Heap.get?_push_of_some _ e) (Nat.le_refl _) ?_, rfl, q _ (I.hok.fresh (Nat.le_refl _))⟩
  refine ⟨by show 2 ≤ sizeLine; decide, [.int (a.fdiv b) s.toks, .int (a.fmod b) (s.toks + 1)], .cons ⟨_, by rw [e1]⟩ (.cons ⟨_, by rw [e2]⟩ .nil), ⟨_, Heap.get?_push_size _ rfl, rfl, _, rfl⟩⟩
end
end L2
set_option Elab.async false
set_option linter.all false
set_option maxRecDepth 100000
set_option maxHeartbeats 4000000
namespace L2
open PySem PySem.Spec PyProof.Rows
section
variable {X : Cx} {pos : Pos} {o e : Expr} {to : TE} {tr : TA}
end
end L2
set_option Elab.async false
set_option linter.all false
namespace L2
open PySem PySem.Spec PyProof.Rows
section
variable {κ : Type} [DecidableEq κ]
end
section
variable {P : Program} {w : World} {H : Hp} {h : Heap} {a : Addr}
end
section
variable {X : Cx} {pins : List (Addr × Obj)} {σ : St} {H : Hp} {s : Shared} {a : Addr} {y v : V} {u r : Value} {o : Option V} {A : Around} {E : Value → Shared → Prop}
end
section
variable {X : Cx} {pins : List (Addr × Obj)} {σ : St} {H : Hp} {s : Shared} {a : Addr} {kvs : List (Key × V)} {k : Key} {u : Value} {A : Around} {E : Value → Shared → Prop}
end
section
variable {X : Cx} {o i e value : Expr} {pos pos' tpos : Pos} {td ty tv : TE}
end
section
variable {X : Cx} {pos : Pos}
end
end L2
set_option Elab.async false
set_option linter.all false
set_option maxRecDepth 100000
set_option maxHeartbeats 4000000
namespace L2
open PySem PySem.Spec PyProof.Rows
inductive T where
  | non | bl (b : Bool) | int (i : Int) | str (x : Str) | tup (xs : List T) | lst (xs : List T)
inductive U where
  | p (t : T) | o (k : Bool) (xs : List T)
noncomputable abbrev En := List (Option U)
inductive R where
  | p (t : T) | s (i : Nat)
noncomputable def KT (K : PySem.W.Frag) (a : Addr) (xs : List V) : Prop := ∃ (o : Obj) (its : Array Value) (n : Nat), K.lookup a = some o ∧ o.cls = .type "tuple" ∧ o.data = .seq its n ∧ its.size ≤ sizeLine ∧ Vals xs its.toList
noncomputable def KL (K : PySem.W.Frag) (a : Addr) (xs : List V) : Prop := ∃ (o : Obj) (its : Array Value) (n : Nat), K.lookup a = some o ∧ o.cls = .type "list" ∧ o.dict = none ∧ o.data = .seq its n ∧ its.size ≤ sizeLine ∧ Vals xs its.toList
mutual
noncomputable def Rp (K : PySem.W.Frag) (H : Hp) (O : Addr → Prop) : T → V → Prop
  | .non, v => v = .non
  | .bl b, v => v = .bl b
  | .int i, v => v = .int i
  | .str x, v => v = .str x
  | .tup xs, v => ∃ a vs, v = .ref a ∧ ((¬ O a ∧ Rd H a (.tup vs)) ∨ KT K a vs) ∧ Rps K H O xs vs
  | .lst xs, v => ∃ a vs, v = .ref a ∧ ((¬ O a ∧ Rd H a (.lst vs)) ∨ KL K a vs) ∧ Rps K H O xs vs
noncomputable def Rps (K : PySem.W.Frag) (H : Hp) (O : Addr → Prop) : List T → List V → Prop
  | [], vs => vs = []
  | x :: xs, vs => ∃ v r, vs = v :: r ∧ Rp K H O x v ∧ Rps K H O xs r
end
structure Kp (O O' : Addr → Prop) (H H' : Hp) : Prop where
  keep : ∀ b o, H b = some o → ¬ O b → H' b = some o
  new : ∀ b, O' b → O b ∨ H b = none
theorem Rd.step {H H' : Hp} {a : Addr} {u : HO} {O O' : Addr → Prop} (k : Kp O O' H H') (h : ¬ O a ∧ Rd H a u) : ¬ O' a ∧ Rd H' a u := by
  obtain ⟨n, h⟩ := h
  rcases h with h | ⟨o, h⟩
  · refine ⟨fun z => ?_, .inl (k.keep _ _ h n)⟩
    rcases k.new a z with z | z
    · exact n z
    · rw [h] at z; cases z
  · refine ⟨fun z => ?_, .inr ⟨o, k.keep _ _ h n⟩⟩
    rcases k.new a z with z | z
    · exact n z
    · rw [h] at z; cases z
section
variable {K : PySem.W.Frag} {H H' : Hp} {O O' : Addr → Prop}
mutual
theorem Rp.step (k : Kp O O' H H') : ∀ {t : T} {v : V}, Rp K H O t v → Rp K H' O' t v
  | .non, _, h => h
  | .bl _, _, h => h
  | .int _, _, h => h
  | .str _, _, h => h
  | .tup xs, v, h => by
    obtain ⟨a, vs, e, h1, h2⟩ := h
    exact ⟨a, vs, e, h1.imp (Rd.step k) id, Rps.step k h2⟩
  | .lst xs, v, h => by
    obtain ⟨a, vs, e, h1, h2⟩ := h
    exact ⟨a, vs, e, h1.imp (Rd.step k) id, Rps.step k h2⟩
theorem Rps.step (k : Kp O O' H H') : ∀ {xs : List T} {vs : List V}, Rps K H O xs vs → Rps K H' O' xs vs
  | [], _, h => h
  | x :: xs, vs, h => by
    obtain ⟨v, r, e, h1, h2⟩ := h
    exact ⟨v, r, e, Rp.step k h1, Rps.step k h2⟩
end
theorem Kp.refl (O : Addr → Prop) (H : Hp) : Kp O O H H := ⟨fun _ _ h _ => h, fun _ h => .inl h⟩
theorem Kp.less (h : ∀ b, O' b → O b) : Kp O O' H H := ⟨fun _ _ h _ => h, fun _ z => .inl (h _ z)⟩
theorem Kp.trans {O'' : Addr → Prop} {H'' : Hp} (a : Kp O O' H H') (b : Kp O' O'' H' H'') : Kp O O'' H H'' := by
  refine ⟨fun c o h n => b.keep c o (a.keep c o h n) fun z => ?_, fun c h => ?_⟩
  · rcases a.new c z with z | z
    · exact n z
    · rw [h] at z; cases z
  · rcases b.new c h with z | z
    · exact a.new c z
    · by_cases n : O c
      · exact .inl n
      · right
        cases q : H c with
        | none => rfl
        | some o => rw [a.keep c o q n] at z; cases z
theorem Kp.upd {a : Addr} {o : HO} (h : H a = none) : Kp O O H (upd H a o) := ⟨fun b u e _ => by rw [upd_ne (ne_of_none e h)]; exact e, fun _ z => .inl z⟩
theorem Rps.length : ∀ {xs : List T} {vs : List V}, Rps K H O xs vs → vs.length = xs.length
  | [], _, h => by cases h; rfl
  | _ :: _, _, h => by
    obtain ⟨v, r, e, _, h2⟩ := h
    rw [e, List.length_cons, List.length_cons, Rps.length h2]
theorem Rps.get : ∀ {xs : List T} {vs : List V} {i : Nat} {x : T}, Rps K H O xs vs → xs[i]? = some x → ∃ v, vs[i]? = some v ∧ Rp K H O x v
  | [], _, _, _, _, e => by simp at e
  | _ :: _, _, 0, _, ⟨v, r, e, h1, _⟩, q => by simp at q; subst q; subst e; exact ⟨v, rfl, h1⟩
  | _ :: _, _, i + 1, x, ⟨v, r, e, _, h2⟩, q => by
    obtain ⟨w, q1, q2⟩ := Rps.get (i := i) (x := x) h2 (by simpa using q)
    subst e
    exact ⟨w, by simpa using q1, q2⟩
theorem Rps.append : ∀ {xs ys : List T} {vs ws : List V}, Rps K H O xs vs → Rps K H O ys ws → Rps K H O (xs ++ ys) (vs ++ ws)
  | [], _, _, _, h, k => by cases h; exact k
  | _ :: _, _, _, _, ⟨v, r, e, h1, h2⟩, k => by subst e; exact ⟨v, _, rfl, h1, Rps.append h2 k⟩
theorem Rps.set {x : T} {v : V} (h : Rp K H O x v) : ∀ {xs : List T} {vs : List V} (i : Nat), Rps K H O xs vs → Rps K H O (xs.set i x) (vs.set i v)
  | [], _, _, k => by cases k; exact rfl
  | _ :: _, _, 0, ⟨u, r, e, h1, h2⟩ => by subst e; exact ⟨v, _, rfl, h, h2⟩
  | _ :: _, _, i + 1, ⟨u, r, e, h1, h2⟩ => by subst e; exact ⟨u, _, rfl, h1, Rps.set h i h2⟩
theorem Rps.take : ∀ {xs : List T} {vs : List V} (n : Nat), Rps K H O xs vs → Rps K H O (xs.take n) (vs.take n)
  | _, _, 0, _ => by simp [Rps]
  | [], _, _ + 1, h => by cases h; exact rfl
  | _ :: _, _, n + 1, ⟨v, r, e, h1, h2⟩ => by subst e; exact ⟨v, _, rfl, h1, Rps.take n h2⟩
theorem Rps.drop : ∀ {xs : List T} {vs : List V} (n : Nat), Rps K H O xs vs → Rps K H O (xs.drop n) (vs.drop n)
  | _, _, 0, h => h
  | [], _, _ + 1, h => by cases h; exact rfl
  | _ :: _, _, n + 1, ⟨v, r, e, h1, h2⟩ => by subst e; exact Rps.drop n h2
theorem Rps.reverse : ∀ {xs : List T} {vs : List V}, Rps K H O xs vs → Rps K H O xs.reverse vs.reverse
  | [], _, h => by cases h; exact rfl
  | _ :: _, _, ⟨v, r, e, h1, h2⟩ => by
    subst e
    rw [List.reverse_cons, List.reverse_cons]
    exact (Rps.reverse h2).append ⟨v, [], rfl, h1, rfl⟩
theorem Rp.sqT {xs : List T} {v : V} (h : Rp K H O (.tup xs) v) : ∃ a vs, v = .ref a ∧ SqT K H a vs ∧ Rps K H O xs vs := by
  obtain ⟨a, vs, e, h1, h2⟩ := h
  exact ⟨a, vs, e, h1.imp And.right id, h2⟩
theorem Rp.sqL {xs : List T} {v : V} (h : Rp K H O (.lst xs) v) : ∃ a vs, v = .ref a ∧ SqL K H a vs ∧ Rps K H O xs vs := by
  obtain ⟨a, vs, e, h1, h2⟩ := h
  exact ⟨a, vs, e, h1.imp And.right id, h2⟩
end
noncomputable def Ow (B : Addr → Prop) (S : St) (E : En) (a : Addr) : Prop := B a ∨ ∃ (i : Nat) (k : Bool) (xs : List T), E[i]? = some (some (.o k xs)) ∧ S[i]? = some (some (.ref a))
structure RE (K : PySem.W.Frag) (B : Addr → Prop) (H : Hp) (S : St) (E : En) : Prop where
  len : S.length = E.length
  pure : ∀ (i : Nat) (t : T), E[i]? = some (some (.p t)) → ∃ v, S[i]? = some (some v) ∧ Rp K H (Ow B S E) t v
  own : ∀ (i : Nat) (k : Bool) (xs : List T), E[i]? = some (some (.o k xs)) → ∃ a vs, S[i]? = some (some (.ref a)) ∧ H a = some (.lst vs) ∧ Rps K H (Ow B S E) xs vs ∧ (k = true ↔ B a)
  inj : ∀ (i j : Nat) (k l : Bool) (xs ys : List T) (a : Addr), E[i]? = some (some (.o k xs)) → E[j]? = some (some (.o l ys)) → S[i]? = some (some (.ref a)) → S[j]? = some (some (.ref a)) → i = j
  bd : ∀ a, B a → ∃ vs, H a = some (.lst vs)
section
variable {K : PySem.W.Frag} {B : Addr → Prop} {H H' : Hp} {S S' : St} {E E' : En}
theorem RE.ow (r : RE K B H S E) {a : Addr} (h : Ow B S E a) : ∃ vs, H a = some (.lst vs) := by
  rcases h with h | ⟨i, k, xs, h1, h2⟩
  · exact r.bd a h
  obtain ⟨a', vs, h3, h4, _⟩ := r.own i k xs h1
  rw [h2] at h3; cases h3
  exact ⟨vs, h4⟩
theorem RE.nn (r : RE K B H S E) {a : Addr} (h : H a = none) : ¬ Ow B S E a := fun z => by
  obtain ⟨ws, e⟩ := r.ow z; rw [h] at e; cases e
theorem RE.step (r : RE K B H S E) (k : ∀ b o, H b = some o → ¬ Ow B S E b → H' b = some o) (hl : E'.length = E.length)
    (hp : ∀ (i : Nat) (t : T), E'[i]? = some (some (.p t)) → E[i]? = some (some (.p t)))
    (ho : ∀ (i : Nat) (k : Bool) (xs' : List T), E'[i]? = some (some (.o k xs')) → ∃ xs, E[i]? = some (some (.o k xs)) ∧ ∀ a, S[i]? = some (some (.ref a)) → ∃ vs, H' a = some (.lst vs) ∧ Rps K H' (Ow B S E) xs' vs) (hb : ∀ a, B a → ∃ vs, H' a = some (.lst vs)) : RE K B H' S E' := by
  have ow : ∀ b, Ow B S E' b → Ow B S E b := fun b z => by
    rcases z with z | ⟨i, k, xs, h1, h2⟩
    · exact .inl z
    obtain ⟨ys, h3, _⟩ := ho i k xs h1
    exact .inr ⟨i, k, ys, h3, h2⟩
  have kp : Kp (Ow B S E) (Ow B S E') H H' := ⟨k, fun b z => .inl (ow b z)⟩
  refine ⟨by rw [hl]; exact r.len, fun i t h => ?_, fun i k xs h => ?_, fun i j k l xs ys a h1 h2 h3 h4 => ?_, hb⟩
  · obtain ⟨v, h1, h2⟩ := r.pure i t (hp i t h)
    exact ⟨v, h1, h2.step kp⟩
  · obtain ⟨ys, h1, h2⟩ := ho i k xs h
    obtain ⟨a, vs, h3, _, _, h6⟩ := r.own i k ys h1
    obtain ⟨ws, h7, h8⟩ := h2 a h3
    exact ⟨a, ws, h3, h7, h8.step (Kp.less ow), h6⟩
  · obtain ⟨_, q1, _⟩ := ho i k xs h1
    obtain ⟨_, q2, _⟩ := ho j l ys h2
    exact r.inj i j k l _ _ a q1 q2 h3 h4
theorem RE.kept (r : RE K B H S E) (k : ∀ b o, H b = some o → H' b = some o) : RE K B H' S E :=
  r.step (fun b o h _ => k b o h) rfl (fun _ _ h => h) (fun i l xs h => ⟨xs, h, fun a ha => by
    obtain ⟨a', vs, h1, h2, h3, _⟩ := r.own i l xs h
    rw [ha] at h1; cases h1
    exact ⟨vs, k _ _ h2, h3.step ⟨fun b o e _ => k b o e, fun b z => .inl z⟩⟩⟩) (fun a h => let ⟨vs, q⟩ := r.bd a h; ⟨vs, k _ _ q⟩)
theorem RE.take (r : RE K B H S E) (n : Nat) : RE K B H (S.take n) (E.take n) := by
  have gE : ∀ {i : Nat} {x : Option U}, (E.take n)[i]? = some x → E[i]? = some x ∧ i < n := fun {i x} h => by
    by_cases c : i < n
    · rw [List.getElem?_take_of_lt c] at h; exact ⟨h, c⟩
    · rw [List.getElem?_take_eq_none (by omega)] at h; cases h
  have gS : ∀ {i : Nat} {x : Option V}, i < n → S[i]? = some x → (S.take n)[i]? = some x := fun {i x} c h => by rw [List.getElem?_take_of_lt c]; exact h
  have gS' : ∀ {i : Nat} {x : Option V}, (S.take n)[i]? = some x → S[i]? = some x := fun {i x} h => by
    by_cases c : i < n
    · rw [List.getElem?_take_of_lt c] at h; exact h
    · rw [List.getElem?_take_eq_none (by omega)] at h; cases h
  have ow : ∀ b, Ow B (S.take n) (E.take n) b → Ow B S E b := fun b z => z.imp id fun ⟨i, k, xs, h1, h2⟩ => ⟨i, k, xs, (gE h1).1, gS' h2⟩
  refine ⟨by rw [List.length_take, List.length_take, r.len], fun i t h => ?_, fun i k xs h => ?_, fun i j k l xs ys a h1 h2 h3 h4 => ?_, r.bd⟩
  · obtain ⟨v, h1, h2⟩ := r.pure i t (gE h).1
    exact ⟨v, gS (gE h).2 h1, h2.step (Kp.less ow)⟩
  · obtain ⟨a, vs, h1, h2, h3, h4⟩ := r.own i k xs (gE h).1
    exact ⟨a, vs, gS (gE h).2 h1, h2, h3.step (Kp.less ow), h4⟩
  · exact r.inj i j k l xs ys a (gE h1).1 (gE h2).1 (gS' h3) (gS' h4)
end
end L2
set_option Elab.async false
set_option linter.all false
set_option maxRecDepth 100000
set_option maxHeartbeats 4000000
namespace L2
open PySem PySem.Spec PyProof.Rows
noncomputable def RR (K : PySem.W.Frag) (B : Addr → Prop) (H : Hp) (S : St) (E : En) : R → V → Prop
  | .p t, v => Rp K H (Ow B S E) t v
  | .s i, v => S[i]? = some (some v)
noncomputable def RRs (K : PySem.W.Frag) (B : Addr → Prop) (H : Hp) (S : St) (E : En) : List R → List V → Prop
  | [], vs => vs = []
  | r :: rs, vs => ∃ v ws, vs = v :: ws ∧ RR K B H S E r v ∧ RRs K B H S E rs ws
structure Gr (B : Addr → Prop) (H : Hp) (S : St) (E : En) (H' : Hp) (S' : St) (E' : En) : Prop where
  kp : Kp (Ow B S E) (Ow B S' E') H H'
  pre : ∃ τ, S' = S ++ τ
theorem Gr.refl {B : Addr → Prop} {H : Hp} {S : St} {E : En} : Gr B H S E H S E := ⟨Kp.refl _ _, [], by simp⟩
theorem Gr.trans {B : Addr → Prop} {H H1 H2 : Hp} {S S1 S2 : St} {E E1 E2 : En} (a : Gr B H S E H1 S1 E1) (b : Gr B H1 S1 E1 H2 S2 E2) : Gr B H S E H2 S2 E2 := by
  obtain ⟨t, e⟩ := a.pre
  obtain ⟨u, f⟩ := b.pre
  exact ⟨a.kp.trans b.kp, t ++ u, by rw [f, e, List.append_assoc]⟩
theorem pre_get {S S' : St} (h : ∃ τ, S' = S ++ τ) {i : Nat} {x : Option V} (e : S[i]? = some x) : S'[i]? = some x := by
  obtain ⟨t, rfl⟩ := h
  rw [List.getElem?_append_left (List.getElem?_eq_some_iff.mp e).1]; exact e
section
variable {K : PySem.W.Frag} {B : Addr → Prop} {H H' : Hp} {S S' : St} {E E' : En} {σ : St}
theorem RR.step (g : Gr B H S E H' S' E') {r : R} {v : V} (h : RR K B H S E r v) : RR K B H' S' E' r v := by
  cases r with
  | p t => exact Rp.step g.kp h
  | s i => exact pre_get g.pre h
noncomputable def Lk (K : PySem.W.Frag) (B : Addr → Prop) (H : Hp) (S : St) (E : En) (Q' : R → En → Prop) (Q : VK) : Prop := ∀ r E' v H' S', Q' r E' → Gr B H S E H' S' E' → RE K B H' S' E' → RR K B H' S' E' r v → Q v H'
noncomputable def LkA (K : PySem.W.Frag) (n : Nat) (B : Addr → Prop) (H : Hp) (S : St) (E : En) (Q' : List R → En → Prop) (Q : List V → Hp → Prop) : Prop := ∀ rs E' vs H' S', Q' rs E' → Gr B H S E H' S' E' → RE K B H' S' E' → RRs K B H' S' E' rs vs → vs.length = n → Q vs H'
theorem Lk.step {Q' : R → En → Prop} {Q : VK} (l : Lk K B H S E Q' Q) (g : Gr B H S E H' S' E') : Lk K B H' S' E' Q' Q := fun r E2 v H2 S2 q g2 => l r E2 v H2 S2 q (g.trans g2)
end
noncomputable abbrev FE := En → (R → En → Prop) → Prop
noncomputable abbrev FA := En → (List R → En → Prop) → Prop
noncomputable abbrev FB := En → (Bool → En → Prop) → Prop
noncomputable def simE (K : PySem.W.Frag) (F : FE) : TE := fun σ H Q => ∃ B S E Q', (∃ τ, S = σ ++ τ) ∧ RE K B H S E ∧ F E Q' ∧ Lk K B H S E Q' Q
noncomputable def simA (K : PySem.W.Frag) (n : Nat) (F : FA) : TA := fun σ H Q => ∃ B S E Q', (∃ τ, S = σ ++ τ) ∧ RE K B H S E ∧ F E Q' ∧ LkA K n B H S E Q' Q
noncomputable def simB (K : PySem.W.Frag) (F : FB) : TT := fun σ H Q => ∃ B S E Q', (∃ τ, S = σ ++ τ) ∧ RE K B H S E ∧ F E Q' ∧ ∀ b E' H' S', Q' b E' → Gr B H S E H' S' E' → RE K B H' S' E' → Q b H'
section
variable {X : Cx} {e : Expr} {es : List Expr}
theorem QE.le {t t' : TE} (h : QE X e t) (m : ∀ σ H Q, σ.length = X.N.length → t' σ H Q → t σ H Q) : QE X e t' := ⟨fun pins s σ H Q I z => h.h pins s σ H Q I (m σ H Q I.len z)⟩
theorem QA.le {t t' : TA} (h : QA X es t) (m : ∀ σ H Q, t' σ H Q → t σ H Q) : QA X es t' := ⟨fun pos pins s σ H Q I z => h.h pos pins s σ H Q I (m σ H Q z)⟩
theorem QT.le {t t' : TT} (h : QT X e t) (m : ∀ σ H Q, t' σ H Q → t σ H Q) : QT X e t' := ⟨fun pins s σ H Q I z => h.h pins s σ H Q I (m σ H Q z)⟩
theorem QW.le {t t' : TT} (h : QW X e t) (m : ∀ σ H Q, t' σ H Q → t σ H Q) : QW X e t' := ⟨fun wh pins s σ H Q I z => h.h wh pins s σ H Q I (m σ H Q z)⟩
end
noncomputable def vl (E : En) : R → Option T
  | .p t => some t
  | .s i => match E[i]? with
    | some (some (.o _ xs)) => some (.lst xs)
    | some (some (.p t)) => some t
    | _ => none
noncomputable def Rt (K : PySem.W.Frag) (H : Hp) (O : Addr → Prop) : T → V → Prop
  | .tup xs, v => ∃ a vs, v = .ref a ∧ SqT K H a vs ∧ Rps K H O xs vs
  | .lst xs, v => ∃ a vs, v = .ref a ∧ SqL K H a vs ∧ Rps K H O xs vs
  | t, v => Rp K H O t v
theorem Rp.rt {K : PySem.W.Frag} {H : Hp} {O : Addr → Prop} {t : T} {v : V} (h : Rp K H O t v) : Rt K H O t v := by
  cases t with
  | tup xs => exact h.sqT
  | lst xs => exact h.sqL
  | non => exact h
  | bl _ => exact h
  | int _ => exact h
  | str _ => exact h
section
variable {K : PySem.W.Frag} {B : Addr → Prop} {H H' : Hp} {S S' : St} {E E' : En} {σ : St}
theorem RE.vl (re : RE K B H S E) {r : R} {v : V} {t : T} (h : RR K B H S E r v) (e : vl E r = some t) : Rt K H (Ow B S E) t v := by
  cases r with
  | p u => cases e; exact Rp.rt h
  | s i =>
    cases q : E[i]? with
    | none => simp only [L2.vl, q] at e; cases e
    | some u =>
      cases u with
      | none => simp only [L2.vl, q] at e; cases e
      | some u =>
        cases u with
        | p u =>
          simp only [L2.vl, q] at e
          cases e
          obtain ⟨w, h1, h2⟩ := re.pure i _ q
          have h' : S[i]? = some (some v) := h
          rw [h'] at h1; cases h1
          exact h2.rt
        | o k xs =>
          simp only [L2.vl, q] at e
          cases e
          obtain ⟨a, vs, h1, h2, h3, _⟩ := re.own i k xs q
          have h' : S[i]? = some (some v) := h
          rw [h'] at h1; cases h1
          exact ⟨a, vs, rfl, SqL.of h2, h3⟩
theorem RE.int (re : RE K B H S E) {r : R} {v : V} {i : Int} (h : RR K B H S E r v) (e : L2.vl E r = some (.int i)) : v = .int i := re.vl h e
theorem RE.bl (re : RE K B H S E) {r : R} {v : V} {b : Bool} (h : RR K B H S E r v) (e : L2.vl E r = some (.bl b)) : v = .bl b := re.vl h e
theorem RE.tup (re : RE K B H S E) {p : Addr} {ts : List T} {vs : List V} (hp : H p = none) (h : Rps K H (Ow B S E) ts vs) :
    Gr B H S E (upd H p (.tup vs)) S E ∧ RE K B (upd H p (.tup vs)) S E ∧ Rp K (upd H p (.tup vs)) (Ow B S E) (.tup ts) (.ref p) := by
  have k : Kp (Ow B S E) (Ow B S E) H (upd H p (.tup vs)) := Kp.upd hp
  exact ⟨⟨k, [], by simp⟩, re.kept fun b o e => by rw [upd_ne (ne_of_none e hp)]; exact e, p, vs, rfl, .inl ⟨re.nn hp, .inl upd_same⟩, h.step k⟩
theorem get_push {α : Type} {xs : List α} {x : α} {i : Nat} {y : α} (h : (xs ++ [x])[i]? = some y) : (i < xs.length ∧ xs[i]? = some y) ∨ (i = xs.length ∧ y = x) := by
  rcases Nat.lt_or_ge i xs.length with c | c
  · rw [List.getElem?_append_left c] at h; exact .inl ⟨c, h⟩
  · rw [List.getElem?_append_right c] at h
    have : i - xs.length = 0 := by
      rcases Nat.eq_zero_or_pos (i - xs.length) with z | z
      · exact z
      · rw [List.getElem?_eq_none (by simp; omega)] at h; cases h
    rw [this] at h
    simp at h
    exact .inr ⟨by omega, h.symm⟩
theorem get_last {α : Type} {xs : List α} {x : α} : (xs ++ [x])[xs.length]? = some x := by simp
theorem RE.lst (re : RE K B H S E) {p : Addr} {ts : List T} {vs : List V} (hp : H p = none) (h : Rps K H (Ow B S E) ts vs) :
    Gr B H S E (upd H p (.lst vs)) (S ++ [some (.ref p)]) (E ++ [some (.o false ts)]) ∧ RE K B (upd H p (.lst vs)) (S ++ [some (.ref p)]) (E ++ [some (.o false ts)]) := by
  have gE : ∀ {i : Nat} {u : U}, (E ++ [some (.o false ts)])[i]? = some (some u) → (E[i]? = some (some u) ∧ i < E.length) ∨ (i = E.length ∧ u = .o false ts) := fun {i u} h => by
    rcases get_push h with ⟨c, h⟩ | ⟨c, h⟩
    · exact .inl ⟨h, c⟩
    · exact .inr ⟨c, Option.some.inj h⟩
  have gS : ∀ {i : Nat} {x : Option V}, S[i]? = some x → (S ++ [some (.ref p)])[i]? = some x := fun {i x} h => pre_get ⟨_, rfl⟩ h
  have gS' : ∀ {i : Nat} {x : Option V}, i < E.length → (S ++ [some (.ref p)])[i]? = some x → S[i]? = some x := fun {i x} c h => by
    rw [List.getElem?_append_left (by rw [re.len]; exact c)] at h; exact h
  have lS : (S ++ [some (.ref p)])[E.length]? = some (some (.ref p)) := by rw [← re.len]; simp
  have ow : ∀ b, Ow B (S ++ [some (.ref p)]) (E ++ [some (.o false ts)]) b → Ow B S E b ∨ H b = none := fun b z => by
    rcases z with z | ⟨i, k, xs, h1, h2⟩
    · exact .inl (.inl z)
    rcases gE h1 with ⟨h1, c⟩ | ⟨c, h1⟩
    · exact .inl (.inr ⟨i, k, xs, h1, gS' c h2⟩)
    · subst c; rw [lS] at h2; cases h2; exact .inr hp
  have k : Kp (Ow B S E) (Ow B (S ++ [some (.ref p)]) (E ++ [some (.o false ts)])) H (upd H p (.lst vs)) := ⟨fun b o e _ => by rw [upd_ne (ne_of_none e hp)]; exact e, ow⟩
  refine ⟨⟨k, _, rfl⟩, ⟨by simp [re.len], fun i t h => ?_, fun i l xs h => ?_, fun i j l m xs ys a h1 h2 h3 h4 => ?_, fun a h => ?_⟩⟩
  · rcases gE h with ⟨h, c⟩ | ⟨c, h⟩
    · obtain ⟨v, h1, h2⟩ := re.pure i t h
      exact ⟨v, gS h1, h2.step k⟩
    · cases h
  · rcases gE h with ⟨h, c⟩ | ⟨c, h⟩
    · obtain ⟨a, ws, h1, h2, h3, h4⟩ := re.own i l xs h
      exact ⟨a, ws, gS h1, by rw [upd_ne (ne_of_none h2 hp)]; exact h2, h3.step k, h4⟩
    · cases h
      subst c
      refine ⟨p, vs, lS, upd_same, ?_, ⟨fun z => absurd z (by decide), fun z => absurd (.inl z) (re.nn hp)⟩⟩
      exact Rps.step k (by assumption)
  · rcases gE h1 with ⟨h1, c1⟩ | ⟨c1, h1⟩
    · rcases gE h2 with ⟨h2, c2⟩ | ⟨c2, h2⟩
      · exact re.inj i j l m xs ys a h1 h2 (gS' c1 h3) (gS' c2 h4)
      · subst c2
        rw [lS] at h4; cases h4
        exact absurd (.inr ⟨i, l, xs, h1, gS' c1 h3⟩) (re.nn hp)
    · rcases gE h2 with ⟨h2, c2⟩ | ⟨c2, h2⟩
      · subst c1
        rw [lS] at h3; cases h3
        exact absurd (.inr ⟨j, m, ys, h2, gS' c2 h4⟩) (re.nn hp)
      · rw [c1, c2]
  · obtain ⟨us, q⟩ := re.bd a h
    exact ⟨us, by rw [upd_ne (ne_of_none q hp)]; exact q⟩
end
section
variable {X : Cx} {K : PySem.W.Frag} {pos : Pos} {a b c e : Expr} {es rest : List Expr} {Fa Fb Fc : FE} {Fr : FA} {Fp Fq : FB}
noncomputable def fVar (i : Nat) : FE := fun E Q => match E[i]? with
  | some (some (.p t)) => Q (.p t) E
  | some (some (.o _ _)) => Q (.s i) E
  | _ => False
noncomputable def fC (t : T) : FE := fun E Q => Q (.p t) E
theorem fv (i : Nat) {x : Str} (hN : X.N[i]? = some x := by rfl) (hv : Vis X.env.scope x := by first | exact Or.inl rfl | exact Or.inr (Or.inl rfl) | exact Or.inr (Or.inr rfl)) (hd : (x == ("__debug__" : Str)) = false := by decide)
    (hcd : (x == ("__classdict__" : Str)) = false := by decide) : QE X (.Name x pos) (simE K (fVar i)) := by
  refine (qv i hN hv hd hcd).le fun σ H Q hl ⟨B, S, E, Q', hS, re, hF, lk⟩ => ?_
  have hi : i < σ.length := by rw [hl]; exact (List.getElem?_eq_some_iff.mp hN).1
  obtain ⟨τ, rfl⟩ := hS
  have back : ∀ {v}, (σ ++ τ)[i]? = some (some v) → σ[i]? = some (some v) := fun h => by rw [List.getElem?_append_left hi] at h; exact h
  unfold fVar at hF
  split at hF
  · rename_i t q
    obtain ⟨v, h1, h2⟩ := re.pure i t q
    exact ⟨v, back h1, lk _ _ _ _ _ hF .refl re h2⟩
  · rename_i k xs q
    obtain ⟨p, vs, h1, _⟩ := re.own i k xs q
    exact ⟨_, back h1, lk _ _ _ _ _ hF .refl re h1⟩
  · exact hF.elim
theorem fe_c {v : V} {t : T} (h : QE X e (tC v)) (hv : ∀ K H O, Rp K H O t v) : QE X e (simE K (fC t)) := h.le fun σ H Q hl ⟨B, S, E, Q', hS, re, hF, lk⟩ => lk _ _ _ _ _ hF .refl re (hv _ _ _)
theorem fe_int {i j pos} : QE X (.Constant (.int i) j pos) (simE K (fC (.int i))) := fe_c qe_int fun _ _ _ => rfl
theorem fe_bl {b j pos} : QE X (.Constant (.bool b) j pos) (simE K (fC (.bl b))) := fe_c qe_bl fun _ _ _ => rfl
theorem two {G : R → R → En → (R → En → Prop) → Prop} {σ : St} {H : Hp} {Q : VK} (h : simE K (fun E Q => Fa E fun x E1 => Fb E1 fun y E2 => G x y E2 Q) σ H Q) {P : V → V → Hp → Prop}
    (k : ∀ B S E x y v w H2 Q', (∃ τ, S = σ ++ τ) → RE K B H2 S E → RR K B H2 S E x v → RR K B H2 S E y w → G x y E Q' → Lk K B H2 S E Q' Q → P v w H2) : simE K Fa σ H fun v H1 => simE K Fb σ H1 fun w H2 => P v w H2 := by
  obtain ⟨B, S, E, Q', ⟨τ, hS⟩, re, hF, lk⟩ := h
  refine ⟨B, S, E, _, ⟨τ, hS⟩, re, hF, fun r E1 v H1 S1 q g re1 rr => ?_⟩
  obtain ⟨τ1, hS1⟩ := g.pre
  refine ⟨B, S1, E1, _, ⟨τ ++ τ1, by rw [hS1, hS, List.append_assoc]⟩, re1, q, fun r2 E2 w H2 S2 q2 g2 re2 rr2 => ?_⟩
  obtain ⟨τ2, hS2⟩ := g2.pre
  exact k B S2 E2 r r2 v w H2 Q' ⟨τ ++ τ1 ++ τ2, by rw [hS2, hS1, hS, List.append_assoc, List.append_assoc, List.append_assoc]⟩ re2 (rr.step g2) rr2 q2 (lk.step (g.trans g2))
theorem one {G : R → En → (R → En → Prop) → Prop} {σ : St} {H : Hp} {Q : VK} (h : simE K (fun E Q => Fa E fun x E1 => G x E1 Q) σ H Q) {P : V → Hp → Prop}
    (k : ∀ B S E x v H2 Q', (∃ τ, S = σ ++ τ) → RE K B H2 S E → RR K B H2 S E x v → G x E Q' → Lk K B H2 S E Q' Q → P v H2) : simE K Fa σ H fun v H1 => P v H1 := by
  obtain ⟨B, S, E, Q', ⟨τ, hS⟩, re, hF, lk⟩ := h
  refine ⟨B, S, E, _, ⟨τ, hS⟩, re, hF, fun r E1 v H1 S1 q g re1 rr => ?_⟩
  obtain ⟨τ1, hS1⟩ := g.pre
  exact k B S1 E1 r v H1 Q' ⟨τ ++ τ1, by rw [hS1, hS, List.append_assoc]⟩ re1 rr q (lk.step g)
noncomputable def i2 (x y : Option T) (k : Int → Int → Prop) : Prop := match x, y with
  | some (.int i), some (.int j) => k i j
  | _, _ => False
theorem i2.ex {x y : Option T} {k : Int → Int → Prop} (h : i2 x y k) : ∃ i j, x = some (.int i) ∧ y = some (.int j) ∧ k i j := by
  unfold i2 at h; split at h
  · exact ⟨_, _, rfl, rfl, h⟩
  · exact h.elim
noncomputable def fI (C : Int → Int → Prop) (g : Int → Int → Int) (Fa Fb : FE) : FE := fun E Q => Fa E fun x E1 => Fb E1 fun y E2 => i2 (vl E2 x) (vl E2 y) fun i j => C i j ∧ Q (.p (.int (g i j))) E2
noncomputable def fI0 (g : Int → Int → Int) (Fa Fb : FE) : FE := fun E Q => Fa E fun x E1 => Fb E1 fun y E2 => i2 (vl E2 x) (vl E2 y) fun i j => Q (.p (.int (g i j))) E2
noncomputable def fCp (g : Int → Int → Bool) (Fa Fb : FE) : FE := fun E Q => Fa E fun x E1 => Fb E1 fun y E2 => i2 (vl E2 x) (vl E2 y) fun i j => Q (.p (.bl (g i j))) E2
theorem fe_opI {op : Operator} {C : Int → Int → Prop} {g : Int → Int → Int} (ho : OpR X (binaryOp op) (rI C fun i j => .int (g i j))) (ha : QE X a (simE K Fa)) (hb : QE X b (simE K Fb)) : QE X (.BinOp a op b pos) (simE K (fI C g Fa Fb)) := by
  refine (qe_op ho ha hb).le fun σ H Q hl h => two h fun B S E x y v w H2 Q' hS re rx ry q lk => ?_
  obtain ⟨i, j, e1, e2, c, q⟩ := q.ex
  exact ⟨i, j, re.int rx e1, re.int ry e2, c, lk _ _ _ _ _ q .refl re rfl⟩
theorem fe_opI0 {op : Operator} {g : Int → Int → Int} (ho : OpR X (binaryOp op) (rI0 fun i j => .int (g i j))) (ha : QE X a (simE K Fa)) (hb : QE X b (simE K Fb)) : QE X (.BinOp a op b pos) (simE K (fI0 g Fa Fb)) := by
  refine (qe_op ho ha hb).le fun σ H Q hl h => two h fun B S E x y v w H2 Q' hS re rx ry q lk => ?_
  obtain ⟨i, j, e1, e2, q⟩ := q.ex
  exact ⟨i, j, re.int rx e1, re.int ry e2, lk _ _ _ _ _ q .refl re rfl⟩
theorem fe_cp {op : CmpOp} {g : Int → Int → Bool} (ho : OpR X (compareOp op) (rI0 fun i j => .bl (g i j))) (ha : QE X a (simE K Fa)) (hb : QE X b (simE K Fb)) (hm : behindInMarks op b = false) : QE X (.Compare a [op] [b] pos) (simE K (fCp g Fa Fb)) := by
  refine (qe_cmpR ho ha hb hm).le fun σ H Q hl h => two h fun B S E x y v w H2 Q' hS re rx ry q lk => ?_
  obtain ⟨i, j, e1, e2, q⟩ := q.ex
  exact ⟨i, j, re.int rx e1, re.int ry e2, lk _ _ _ _ _ q .refl re rfl⟩
noncomputable def i1 (x : Option T) (k : Int → Prop) : Prop := match x with
  | some (.int i) => k i
  | _ => False
theorem i1.ex {x : Option T} {k : Int → Prop} (h : i1 x k) : ∃ i, x = some (.int i) ∧ k i := by
  unfold i1 at h; split at h
  · exact ⟨_, rfl, h⟩
  · exact h.elim
noncomputable def b1 (x : Option T) (k : Bool → Prop) : Prop := match x with
  | some (.bl i) => k i
  | _ => False
theorem b1.ex {x : Option T} {k : Bool → Prop} (h : b1 x k) : ∃ i, x = some (.bl i) ∧ k i := by
  unfold b1 at h; split at h
  · exact ⟨_, rfl, h⟩
  · exact h.elim
noncomputable def fNeg (Fa : FE) : FE := fun E Q => Fa E fun x E1 => i1 (vl E1 x) fun i => Q (.p (.int (-i))) E1
theorem fe_neg (ha : QE X a (simE K Fa)) : QE X (.UnaryOp .USub a pos) (simE K (fNeg Fa)) := by
  refine (qe_un un_neg ha).le fun σ H Q hl h => one (Fa := Fa) h fun B S E x v H2 Q' hS re rx q lk => ?_
  obtain ⟨i, e1, q⟩ := q.ex
  exact ⟨i, re.int rx e1, lk _ _ _ _ _ q .refl re rfl⟩
noncomputable def fNot (Fa : FE) : FE := fun E Q => Fa E fun x E1 => b1 (vl E1 x) fun i => Q (.p (.bl (!i))) E1
theorem fe_not (ha : QE X a (simE K Fa)) : QE X (.UnaryOp .Not a pos) (simE K (fNot Fa)) := by
  refine (qe_not ha).le fun σ H Q hl h => one (Fa := Fa) h fun B S E x v H2 Q' hS re rx q lk => ?_
  obtain ⟨i, e1, q⟩ := q.ex
  exact ⟨i, re.bl rx e1, lk _ _ _ _ _ q .refl re rfl⟩
theorem testB {G : Bool → En → (Bool → En → Prop) → Prop} {σ : St} {H : Hp} {Q : Bool → Hp → Prop} (h : simB K (fun E Q => Fp E fun x E1 => G x E1 Q) σ H Q) {P : Bool → Hp → Prop}
    (k : ∀ B S E x H2 Q', (∃ τ, S = σ ++ τ) → RE K B H2 S E → G x E Q' → (∀ b E' H' S', Q' b E' → Gr B H2 S E H' S' E' → RE K B H' S' E' → Q b H') → P x H2) : simB K Fp σ H P := by
  obtain ⟨B, S, E, Q', ⟨τ, hS⟩, re, hF, lk⟩ := h
  refine ⟨B, S, E, _, ⟨τ, hS⟩, re, hF, fun r E1 H1 S1 q g re1 => ?_⟩
  obtain ⟨τ1, hS1⟩ := g.pre
  exact k B S1 E1 r H1 Q' ⟨τ ++ τ1, by rw [hS1, hS, List.append_assoc]⟩ re1 q fun b E2 H2 S2 q2 g2 re2 => lk b E2 H2 S2 q2 (g.trans g2) re2
noncomputable def bVal (Fa : FE) : FB := fun E Q => Fa E fun x E1 => b1 (vl E1 x) fun i => Q i E1
noncomputable def bNot (Fp : FB) : FB := fun E Q => Fp E fun x E1 => Q (!x) E1
noncomputable def bAnd (Fp Fq : FB) : FB := fun E Q => Fp E fun x E1 => if x = true then Fq E1 Q else Q false E1
noncomputable def bOr (Fp Fq : FB) : FB := fun E Q => Fp E fun x E1 => if x = true then Q true E1 else Fq E1 Q
theorem b_of {σ : St} {H : Hp} {Q : Bool → Hp → Prop} (h : simB K (bVal Fa) σ H Q) : simE K Fa σ H fun v H1 => ∃ c, v = .bl c ∧ Q c H1 := by
  obtain ⟨B, S, E, Q', ⟨τ, hS⟩, re, hF, lk⟩ := h
  refine ⟨B, S, E, _, ⟨τ, hS⟩, re, hF, fun r E1 v H1 S1 q g re1 rr => ?_⟩
  obtain ⟨i, e1, q⟩ := q.ex
  exact ⟨i, re1.bl rr e1, lk _ _ _ _ q g re1⟩
theorem ft_val (h : QE X e (simE K Fa)) (he : ∀ whole, isTrue e X.env whole = (do let v ← whole; standAt e.pos; holding [v] (truthy v)) := by intro _; rfl) : QT X e (simB K (bVal Fa)) := (qt_val h he).le fun σ H Q z => b_of z
theorem ft_not (ha : QT X a (simB K Fp)) : QT X (.UnaryOp .Not a pos) (simB K (bNot Fp)) := (qt_not ha).le fun σ H Q h => testB (Fp := Fp) h fun B S E x H2 Q' hS re q lk => lk _ _ _ _ q .refl re
theorem fw_and1 (ha : QT X a (simB K Fp)) : QW X (.BoolOp .And [a] pos) (simB K Fp) := qw_and1 ha
theorem fw_or1 (ha : QT X a (simB K Fp)) : QW X (.BoolOp .Or [a] pos) (simB K Fp) := qw_or1 ha
theorem fw_and (ha : QT X a (simB K Fp)) (hb : QW X (.BoolOp .And (b :: rest) pos) (simB K Fq)) : QW X (.BoolOp .And (a :: b :: rest) pos) (simB K (bAnd Fp Fq)) := by
  refine (qw_and ha hb).le fun σ H Q h => testB (Fp := Fp) h fun B S E x H2 Q' hS re q lk => ?_
  cases x
  · exact lk _ _ _ _ q .refl re
  · exact ⟨B, S, E, Q', hS, re, q, lk⟩
theorem fw_or (ha : QT X a (simB K Fp)) (hb : QW X (.BoolOp .Or (b :: rest) pos) (simB K Fq)) : QW X (.BoolOp .Or (a :: b :: rest) pos) (simB K (bOr Fp Fq)) := by
  refine (qw_or ha hb).le fun σ H Q h => testB (Fp := Fp) h fun B S E x H2 Q' hS re q lk => ?_
  cases x
  · exact ⟨B, S, E, Q', hS, re, q, lk⟩
  · exact lk _ _ _ _ q .refl re
theorem ft_w (h : QW X e (simB K Fp)) : QT X e (simB K Fp) := qt_w h
noncomputable def fAnd (Fa Fb : FE) : FE := fun E Q => Fa E fun x E1 => b1 (vl E1 x) fun i => if i = true then Fb E1 Q else Q (.p (.bl false)) E1
noncomputable def fOr (Fa Fb : FE) : FE := fun E Q => Fa E fun x E1 => b1 (vl E1 x) fun i => if i = true then Q (.p (.bl true)) E1 else Fb E1 Q
theorem fe_and (ha : QE X a (simE K Fa)) (hb : QE X (.BoolOp .And (b :: rest) pos) (simE K Fb)) : QE X (.BoolOp .And (a :: b :: rest) pos) (simE K (fAnd Fa Fb)) := by
  refine (qe_and ha hb).le fun σ H Q hl h => one (Fa := Fa) h fun B S E x v H2 Q' hS re rx q lk => ?_
  obtain ⟨i, e1, q⟩ := q.ex
  refine ⟨i, re.bl rx e1, ?_⟩
  cases i
  · exact lk _ _ _ _ _ q .refl re rfl
  · exact ⟨B, S, E, Q', hS, re, q, lk⟩
theorem fe_or (ha : QE X a (simE K Fa)) (hb : QE X (.BoolOp .Or (b :: rest) pos) (simE K Fb)) : QE X (.BoolOp .Or (a :: b :: rest) pos) (simE K (fOr Fa Fb)) := by
  refine (qe_or ha hb).le fun σ H Q hl h => one (Fa := Fa) h fun B S E x v H2 Q' hS re rx q lk => ?_
  obtain ⟨i, e1, q⟩ := q.ex
  refine ⟨i, re.bl rx e1, ?_⟩
  cases i
  · exact ⟨B, S, E, Q', hS, re, q, lk⟩
  · exact lk _ _ _ _ _ q .refl re rfl
theorem fe_one {op} (h : QE X a (simE K Fa)) : QE X (.BoolOp op [a] pos) (simE K Fa) := qe_one h
noncomputable def fIf (Fp : FB) (Fa Fb : FE) : FE := fun E Q => Fp E fun x E1 => if x = true then Fa E1 Q else Fb E1 Q
theorem fe_if (hc : QT X c (simB K Fp)) (ha : QE X a (simE K Fa)) (hb : QE X b (simE K Fb)) : QE X (.IfExp c a b pos) (simE K (fIf Fp Fa Fb)) := by
  refine (qe_ifExp hc ha hb).le fun σ H Q hl ⟨B, S, E, Q', ⟨τ, hS⟩, re, hF, lk⟩ => ?_
  refine ⟨B, S, E, _, ⟨τ, hS⟩, re, hF, fun r E1 H1 S1 q g re1 => ?_⟩
  obtain ⟨τ1, hS1⟩ := g.pre
  have hp : ∃ t, S1 = σ ++ t := ⟨τ ++ τ1, by rw [hS1, hS, List.append_assoc]⟩
  cases r
  · exact ⟨B, S1, E1, Q', hp, re1, q, lk.step g⟩
  · exact ⟨B, S1, E1, Q', hp, re1, q, lk.step g⟩
noncomputable def aNil : FA := fun E Q => Q [] E
noncomputable def aCons (Fa : FE) (Fr : FA) : FA := fun E Q => Fa E fun r E1 => Fr E1 fun rs E2 => Q (r :: rs) E2
theorem fa_nil : QA X [] (simA K 0 aNil) := qa_nil.le fun σ H Q ⟨B, S, E, Q', hS, re, hF, lk⟩ => lk _ _ _ _ _ hF .refl re rfl rfl
theorem fc {n : Nat} (ha : QE X e (simE K Fa)) (hr : QA X es (simA K n Fr)) (hs : isStar e = false := by rfl) : QA X (e :: es) (simA K (n + 1) (aCons Fa Fr)) := by
  refine (qc ha hr hs).le fun σ H Q ⟨B, S, E, Q', ⟨τ, hS⟩, re, hF, lk⟩ => ?_
  refine ⟨B, S, E, _, ⟨τ, hS⟩, re, hF, fun r E1 v H1 S1 q g re1 rr => ?_⟩
  obtain ⟨τ1, hS1⟩ := g.pre
  exact ⟨B, S1, E1, _, ⟨τ ++ τ1, by rw [hS1, hS, List.append_assoc]⟩, re1, q, fun rs E2 vs H2 S2 q2 g2 re2 rr2 hn => lk _ _ _ _ _ q2 (g.trans g2) re2 ⟨v, vs, rfl, rr.step g2, rr2⟩ (by rw [List.length_cons, hn])⟩
theorem args {n : Nat} {G : List R → En → (R → En → Prop) → Prop} {σ : St} {H : Hp} {Q : VK} (h : simE K (fun E Q => Fr E fun rs E1 => G rs E1 Q) σ H Q) {P : List V → Hp → Prop}
    (k : ∀ B S E rs vs H2 Q', (∃ τ, S = σ ++ τ) → RE K B H2 S E → RRs K B H2 S E rs vs → vs.length = n → G rs E Q' → Lk K B H2 S E Q' Q → P vs H2) : simA K n Fr σ H P := by
  obtain ⟨B, S, E, Q', ⟨τ, hS⟩, re, hF, lk⟩ := h
  refine ⟨B, S, E, _, ⟨τ, hS⟩, re, hF, fun r E1 v H1 S1 q g re1 rr hn => ?_⟩
  obtain ⟨τ1, hS1⟩ := g.pre
  exact k B S1 E1 r v H1 Q' ⟨τ ++ τ1, by rw [hS1, hS, List.append_assoc]⟩ re1 rr hn q (lk.step g)
noncomputable def pures : List R → Option (List T)
  | [] => some []
  | .p t :: rs => (pures rs).map (t :: ·)
  | _ => none
theorem pures_rp {B : Addr → Prop} {H : Hp} {S : St} {E : En} : ∀ {rs : List R} {vs : List V} {ts : List T}, RRs K B H S E rs vs → pures rs = some ts → Rps K H (Ow B S E) ts vs
  | [], _, _, h, e => by cases e; exact h
  | .p t :: rs, _, ts, ⟨v, ws, e1, h1, h2⟩, e => by
    cases q : pures rs with
    | none => rw [pures, q] at e; cases e
    | some us =>
      rw [pures, q] at e
      cases e
      exact ⟨v, ws, e1, h1, pures_rp h2 q⟩
  | .s _ :: _, _, _, _, e => by cases e
noncomputable def o1 {α : Type} (x : Option α) (k : α → Prop) : Prop := match x with
  | some y => k y
  | none => False
theorem o1.ex {α : Type} {x : Option α} {k : α → Prop} (h : o1 x k) : ∃ y, x = some y ∧ k y := by
  cases x with
  | none => exact h.elim
  | some y => exact ⟨y, rfl, h⟩
noncomputable def fTup (Fr : FA) : FE := fun E Q => Fr E fun rs E1 => o1 (pures rs) fun ts => Q (.p (.tup ts)) E1
noncomputable def fLst (Fr : FA) : FE := fun E Q => Fr E fun rs E1 => o1 (pures rs) fun ts => Q (.s E1.length) (E1 ++ [some (.o false ts)])
theorem fe_tup {x1} {n : Nat} (h : QA X es (simA K n Fr)) (hz : n ≤ 1000 := by decide) : QE X (.Tuple es x1 pos) (simE K (fTup Fr)) := by
  refine (qe_tup h).le fun σ H Q hl h => args (Fr := Fr) h fun B S E rs vs H2 Q' hS re rr hn q lk => ⟨by rw [hn]; exact Nat.le_of_lt (small1000 hz), fun p hp => ?_⟩
  obtain ⟨ts, e, q⟩ := q.ex
  obtain ⟨g, re', rp⟩ := re.tup hp (pures_rp rr e)
  exact lk _ _ _ _ _ q g re' rp
theorem fe_lst {n : Nat} (h : QA X es (simA K n Fr)) (hz : n ≤ 1000 := by decide) : QE X (.List es pos) (simE K (fLst Fr)) := by
  refine (qe_lst h).le fun σ H Q hl h => args (Fr := Fr) h fun B S E rs vs H2 Q' hS re rr hn q lk => ⟨by rw [hn]; exact Nat.le_of_lt (small1000 hz), fun p hp => ?_⟩
  obtain ⟨ts, e, q⟩ := q.ex
  obtain ⟨g, re'⟩ := re.lst hp (pures_rp rr e)
  exact lk _ _ _ _ _ q g re' (by rw [← re.len]; exact get_last)
noncomputable def seqT : T → Option (List T)
  | .tup xs => some xs
  | .lst xs => some xs
  | _ => none
noncomputable def ix2 (x y : Option T) (k : T → Prop) : Prop := match x, y with
  | some (.tup xs), some (.int i) => o1 (atI xs i) k
  | some (.lst xs), some (.int i) => o1 (atI xs i) k
  | _, _ => False
theorem atI_rp {H : Hp} {O : Addr → Prop} {xs : List T} {vs : List V} {i : Int} {t : T} (h : Rps K H O xs vs) (e : atI xs i = some t) : ∃ v, atI vs i = some v ∧ Rp K H O t v := by
  unfold atI at e ⊢
  rw [h.length]
  cases q : ixN xs.length i with
  | none => rw [q] at e; cases e
  | some j => rw [q] at e; exact h.get e
noncomputable def fIx (Fa Fb : FE) : FE := fun E Q => Fa E fun x E1 => Fb E1 fun y E2 => ix2 (vl E2 x) (vl E2 y) fun t => Q (.p t) E2
theorem fe_ix (eK : X.K = K) (ha : QE X a (simE K Fa)) (hb : QE X b (simE K Fb)) (hs : PlainIx b) : QE X (.Subscript a b pos) (simE K (fIx Fa Fb)) := by
  subst eK
  refine (qe_ix ix_seq ha hb hs).le fun σ H Q hl h => two (Fa := Fa) (Fb := Fb) h fun B S E x y v w H2 Q' hS re rx ry q lk => ?_
  unfold ix2 at q
  split at q
  · rename_i xs i e1 e2
    obtain ⟨t, e3, q⟩ := q.ex
    obtain ⟨p, vs, rfl, sq, rs⟩ := re.vl rx e1
    obtain ⟨u, h1, h2⟩ := atI_rp rs e3
    exact .inr (.inl ⟨p, vs, i, u, rfl, re.int ry e2, sq, h1, lk _ _ _ _ _ q .refl re h2⟩)
  · rename_i xs i e1 e2
    obtain ⟨t, e3, q⟩ := q.ex
    obtain ⟨p, vs, rfl, sq, rs⟩ := re.vl rx e1
    obtain ⟨u, h1, h2⟩ := atI_rp rs e3
    exact .inl ⟨p, vs, i, u, rfl, re.int ry e2, sq, h1, lk _ _ _ _ _ q .refl re h2⟩
  · exact q.elim
noncomputable def fLen (Fr : FA) : FE := fun E Q => Fr E fun rs E1 => match rs with
  | [x] => o1 ((vl E1 x).bind seqT) fun xs => Q (.p (.int xs.length)) E1
  | _ => False
theorem fe_len {n : Nat} {p : Pos} (eK : X.K = K) (hg : Gl X "len") (hm : X.mg "len" = none) (ha : QA X (e :: es) (simA K n Fr)) (hs : noStar (e :: es) = true := by rfl) : QE X (.Call (.Name "len" p) (e :: es) [] pos) (simE K (fLen Fr)) := by
  subst eK
  refine (qe_callBS call_len_seq hg hm PySem.boot_len ha (by decide) (by decide) hs).le fun σ H Q hl h => args (Fr := Fr) h fun B S E rs vs H2 Q' hS re rr hn q lk => ?_
  match rs, rr, q with
  | [x], ⟨v, ws, e1, h1, h2⟩, q =>
    cases h2; subst e1
    obtain ⟨xs, e2, q⟩ := o1.ex q
    obtain ⟨t, e3, e2⟩ := Option.bind_eq_some_iff.mp e2
    have rt := re.vl h1 e3
    cases t with
    | tup ys =>
      cases e2
      obtain ⟨p, us, rfl, sq, rs⟩ := rt
      exact ⟨p, us, rfl, .inr sq, by rw [rs.length]; exact lk _ _ _ _ _ q .refl re rfl⟩
    | lst ys =>
      cases e2
      obtain ⟨p, us, rfl, sq, rs⟩ := rt
      exact ⟨p, us, rfl, .inl sq, by rw [rs.length]; exact lk _ _ _ _ _ q .refl re rfl⟩
    | _ => cases e2
  | [], _, q => exact q.elim
  | _ :: _ :: _, _, q => exact q.elim
noncomputable def fAbs (Fr : FA) : FE := fun E Q => Fr E fun rs E1 => match rs with
  | [x] => i1 (vl E1 x) fun i => Q (.p (.int (i.natAbs : Int))) E1
  | _ => False
theorem fe_abs {n : Nat} {p : Pos} (hg : Gl X "abs") (hm : X.mg "abs" = none) (ha : QA X (e :: es) (simA K n Fr)) (hs : noStar (e :: es) = true := by rfl) : QE X (.Call (.Name "abs" p) (e :: es) [] pos) (simE K (fAbs Fr)) := by
  refine (qe_callBS call_absV hg hm boot_abs ha (by decide) (by decide) hs).le fun σ H Q hl h => args (Fr := Fr) h fun B S E rs vs H2 Q' hS re rr hn q lk => ?_
  match rs, rr, q with
  | [x], ⟨v, ws, e1, h1, h2⟩, q =>
    cases h2; subst e1
    obtain ⟨i, e2, q⟩ := i1.ex q
    exact ⟨i, by rw [re.int h1 e2], lk _ _ _ _ _ q .refl re rfl⟩
  | [], _, q => exact q.elim
  | _ :: _ :: _, _, q => exact q.elim
noncomputable def fIntB (Fr : FA) : FE := fun E Q => Fr E fun rs E1 => match rs with
  | [x] => b1 (vl E1 x) fun i => Q (.p (.int (if i then 1 else 0))) E1
  | _ => False
theorem fe_intB {n : Nat} {p : Pos} (hg : Gl X "int") (hm : X.mg "int" = none) (ha : QA X (e :: es) (simA K n Fr)) (hs : noStar (e :: es) = true := by rfl) : QE X (.Call (.Name "int" p) (e :: es) [] pos) (simE K (fIntB Fr)) := by
  refine (qe_callTyS call_intB hg hm (by decide +kernel) ha (by decide) (by decide) hs).le fun σ H Q hl h => args (Fr := Fr) h fun B S E rs vs H2 Q' hS re rr hn q lk => ?_
  match rs, rr, q with
  | [x], ⟨v, ws, e1, h1, h2⟩, q =>
    cases h2; subst e1
    obtain ⟨i, e2, q⟩ := b1.ex q
    exact ⟨i, by rw [re.bl h1 e2], lk _ _ _ _ _ q .refl re rfl⟩
  | [], _, q => exact q.elim
  | _ :: _ :: _, _, q => exact q.elim
noncomputable def fDivmod (Fr : FA) : FE := fun E Q => Fr E fun rs E1 => match rs with
  | [x, y] => i2 (vl E1 x) (vl E1 y) fun i j => (0 < j ∧ j < 2 ^ 200) ∧ Q (.p (.tup [.int (i / j), .int (i % j)])) E1
  | _ => False
theorem fe_divmod {n : Nat} {p : Pos} (hg : Gl X "divmod") (hm : X.mg "divmod" = none) (ha : QA X (e :: es) (simA K n Fr)) (hs : noStar (e :: es) = true := by rfl) : QE X (.Call (.Name "divmod" p) (e :: es) [] pos) (simE K (fDivmod Fr)) := by
  refine (qe_callBS call_divmodB hg hm boot_divmod ha (by decide) (by decide) hs).le fun σ H Q hl h => args (Fr := Fr) h fun B S E rs vs H2 Q' hS re rr hn q lk => ?_
  match rs, rr, q with
  | [x, y], ⟨v, ws, e1, h1, w, ws', e2, h2, h3⟩, q =>
    cases h3; subst e2; subst e1
    obtain ⟨i, j, e3, e4, ⟨c1, c2⟩, q⟩ := i2.ex q
    refine ⟨i, j, by rw [re.int h1 e3, re.int h2 e4], c1, c2, fun p hp => ?_⟩
    obtain ⟨g, re', rp⟩ := re.tup (ts := [.int (i / j), .int (i % j)]) (vs := [.int (i / j), .int (i % j)]) hp ⟨_, _, rfl, rfl, _, _, rfl, rfl, rfl⟩
    exact lk _ _ _ _ _ q g re' rp
  | [], _, q => exact q.elim
  | [_], _, q => exact q.elim
  | _ :: _ :: _ :: _, _, q => exact q.elim
end
end L2
set_option Elab.async false
set_option linter.all false
set_option maxRecDepth 100000
set_option maxHeartbeats 4000000
namespace L2
open PySem PySem.Spec PyProof.Rows
structure ET where
  nx : En → Prop
  rt : R → En → Prop
  bk : En → Prop := fun _ => False
  ct : En → Prop := fun _ => False
noncomputable abbrev FS := ET → En → Prop
noncomputable abbrev Gs (B : Addr → Prop) (H : Hp) (S : St) (E : En) (H' : Hp) (S' : St) (E' : En) : Prop := Kp (Ow B S E) (Ow B S' E') H H'
structure LS (K : PySem.W.Frag) (B : Addr → Prop) (H : Hp) (σ : St) (E : En) (DT : ET) (D : Ends) : Prop where
  nx : ∀ σ' H' E', DT.nx E' → Gs B H σ E H' σ' E' → RE K B H' σ' E' → D.nx σ' H'
  rt : ∀ r E' v H' S', DT.rt r E' → Gs B H σ E H' S' E' → RE K B H' S' E' → RR K B H' S' E' r v → D.rt v H'
  bk : ∀ σ' H' E', DT.bk E' → Gs B H σ E H' σ' E' → RE K B H' σ' E' → D.bk σ' H'
  ct : ∀ σ' H' E', DT.ct E' → Gs B H σ E H' σ' E' → RE K B H' σ' E' → D.ct σ' H'
theorem LS.step {K : PySem.W.Frag} {B : Addr → Prop} {H H' : Hp} {σ σ' : St} {E E' : En} {DT : ET} {D : Ends} (l : LS K B H σ E DT D) (g : Gs B H σ E H' σ' E') : LS K B H' σ' E' DT D :=
  ⟨fun a b c d e => l.nx a b c d (g.trans e), fun a b c d e f h => l.rt a b c d e f (g.trans h), fun a b c d e => l.bk a b c d (g.trans e), fun a b c d e => l.ct a b c d (g.trans e)⟩
noncomputable def simS (K : PySem.W.Frag) (F : FS) : TS := fun D σ H => ∃ B E DT, RE K B H σ E ∧ F DT E ∧ LS K B H σ E DT D
section
variable {X : Cx} {st : Stmt} {sts : List Stmt}
theorem QS.le {t t' : TS} (h : QS X st t) (m : ∀ D σ H, σ.length = X.N.length → t' D σ H → t D σ H) : QS X st t' := ⟨fun pins s σ H D I z => h.h pins s σ H D I (m D σ H I.len z)⟩
theorem QB.le {t t' : TS} (h : QB X sts t) (m : ∀ D σ H, t' D σ H → t D σ H) : QB X sts t' := ⟨fun pins s σ H D I z => h.h pins s σ H D I (m D σ H z)⟩
theorem QG.le {e : Expr} {t t' : TG} (h : QG X e t) (m : ∀ v σ H Q, σ.length = X.N.length → t' v σ H Q → t v σ H Q) : QG X e t' := ⟨fun pins s σ H v u Q I r z => h.h pins s σ H v u Q I r (m v σ H Q I.len z)⟩
theorem QGs.le {es : List Expr} {t t' : TGs} (h : QGs X es t) (m : ∀ v σ H Q, t' v σ H Q → t v σ H Q) : QGs X es t' := ⟨fun pins s σ H v u Q I r z => h.h pins s σ H v u Q I r (m v σ H Q z)⟩
theorem QI.le {tg e : Expr} {t t' : TI} (h : QI X tg e t) (m : ∀ σ H Q, σ.length = X.N.length → t' σ H Q → t σ H Q) : QI X tg e t' := ⟨fun pins s σ H R I z => h.h pins s σ H R I (m σ H R I.len z)⟩
end
section
variable {K : PySem.W.Frag} {B : Addr → Prop} {H H' : Hp} {S S' : St} {E E' : En} {σ : St}
theorem RE.map (re : RE K B H S E) (hl : S'.length = E'.length) (hp : ∀ (i : Nat) (t : T), E'[i]? = some (some (.p t)) → ∃ v, S'[i]? = some (some v) ∧ Rp K H (Ow B S E) t v)
    (f : Nat → Nat) (ho : ∀ (i : Nat) (k : Bool) (xs : List T), E'[i]? = some (some (.o k xs)) → E[f i]? = some (some (.o k xs)) ∧ ∃ a, S[f i]? = some (some (.ref a)) ∧ S'[i]? = some (some (.ref a)))
    (hf : ∀ (i j : Nat) (k l : Bool) (xs ys : List T), E'[i]? = some (some (.o k xs)) → E'[j]? = some (some (.o l ys)) → f i = f j → i = j) : RE K B H S' E' ∧ ∀ b, Ow B S' E' b → Ow B S E b := by
  have ow : ∀ b, Ow B S' E' b → Ow B S E b := fun b z => by
    rcases z with z | ⟨i, k, xs, h1, h2⟩
    · exact .inl z
    obtain ⟨h3, a, h4, h5⟩ := ho i k xs h1
    rw [h2] at h5; cases h5
    exact .inr ⟨f i, k, xs, h3, h4⟩
  refine ⟨⟨hl, fun i t h => ?_, fun i k xs h => ?_, fun i j k l xs ys a h1 h2 h3 h4 => ?_, re.bd⟩, ow⟩
  · obtain ⟨v, h1, h2⟩ := hp i t h
    exact ⟨v, h1, h2.step (Kp.less ow)⟩
  · obtain ⟨h3, a, h4, h5⟩ := ho i k xs h
    obtain ⟨a', vs, q1, q2, q3, q4⟩ := re.own _ k xs h3
    rw [h4] at q1; cases q1
    exact ⟨a, vs, h5, q2, q3.step (Kp.less ow), q4⟩
  · obtain ⟨p1, a1, p2, p3⟩ := ho i k xs h1
    obtain ⟨r1, a2, r2, r3⟩ := ho j l ys h2
    rw [h3] at p3; cases p3
    rw [h4] at r3; cases r3
    exact hf i j k l xs ys h1 h2 (re.inj _ _ k l xs ys _ p1 r1 p2 r2)
theorem RE.cut (re : RE K B H' S' E') (hS : ∃ τ, S' = σ ++ τ) (hl : σ.length = E.length) : RE K B H' σ (E'.take E.length) ∧ ∀ b, Ow B σ (E'.take E.length) b → Ow B S' E' b := by
  obtain ⟨τ, rfl⟩ := hS
  have e : (σ ++ τ).take E.length = σ := by rw [← hl]; simp
  have := re.take E.length
  rw [e] at this
  refine ⟨this, fun b z => ?_⟩
  rcases z with z | ⟨i, k, xs, h1, h2⟩
  · exact .inl z
  have hi : i < E.length := by
    rcases Nat.lt_or_ge i E.length with c | c
    · exact c
    · rw [List.getElem?_take_eq_none (by omega)] at h1; cases h1
  exact .inr ⟨i, k, xs, by rw [List.getElem?_take_of_lt hi] at h1; exact h1, pre_get ⟨τ, rfl⟩ h2⟩
theorem RE.setP (re : RE K B H S E) {i : Nat} {t : T} {v : V} (h : Rp K H (Ow B S E) t v) : RE K B H (S.set i (some v)) (E.set i (some (.p t))) ∧ ∀ b, Ow B (S.set i (some v)) (E.set i (some (.p t))) b → Ow B S E b := by
  refine re.map (by simp [re.len]) (fun j u hj => ?_) id (fun j k xs hj => ?_) (fun _ _ _ _ _ _ _ _ h => h)
  · rw [List.getElem?_set] at hj
    by_cases c : i = j
    · subst c
      rw [if_pos rfl] at hj
      split at hj
      · cases hj
        rename_i hi
        exact ⟨v, by rw [List.getElem?_set_self (by rw [re.len]; exact hi)], h⟩
      · cases hj
    · rw [if_neg c] at hj
      obtain ⟨w, h1, h2⟩ := re.pure j u hj
      exact ⟨w, by rw [List.getElem?_set_ne c]; exact h1, h2⟩
  · rw [List.getElem?_set] at hj
    by_cases c : i = j
    · subst c
      rw [if_pos rfl] at hj
      split at hj <;> cases hj
    · rw [if_neg c] at hj
      obtain ⟨a, vs, h1, _⟩ := re.own j k xs hj
      exact ⟨hj, a, h1, by rw [List.getElem?_set_ne c]; exact h1⟩
theorem RE.setO (re : RE K B H S E) (hS : ∃ τ, S = σ ++ τ) {i j : Nat} {k : Bool} {xs : List T} (hj : σ.length ≤ j) (hE : E[j]? = some (some (.o k xs))) {v : V} (hv : S[j]? = some (some v)) :
    RE K B H (σ.set i (some v)) ((E.take σ.length).set i (some (.o k xs))) ∧ ∀ b, Ow B (σ.set i (some v)) ((E.take σ.length).set i (some (.o k xs))) b → Ow B S E b := by
  obtain ⟨τ, rfl⟩ := hS
  have hle : σ.length ≤ E.length := by rw [← re.len]; simp
  have gt : ∀ {m : Nat} {x : Option U}, (E.take σ.length)[m]? = some x → E[m]? = some x ∧ m < σ.length := fun {m x} h => by
    by_cases c : m < σ.length
    · rw [List.getElem?_take_of_lt c] at h; exact ⟨h, c⟩
    · rw [List.getElem?_take_eq_none (by omega)] at h; cases h
  refine re.map (by simp; omega) (fun m u hm => ?_) (fun m => if m = i then j else m) (fun m l ys hm => ?_) (fun m n l l' ys zs h1 h2 h => ?_)
  · rw [List.getElem?_set] at hm
    by_cases c : i = m
    · subst c
      rw [if_pos rfl] at hm
      split at hm <;> cases hm
    · rw [if_neg c] at hm
      obtain ⟨hm, lt⟩ := gt hm
      obtain ⟨w, h1, h2⟩ := re.pure m u hm
      rw [List.getElem?_append_left lt] at h1
      exact ⟨w, by rw [List.getElem?_set_ne c]; exact h1, h2⟩
  · rw [List.getElem?_set] at hm
    by_cases c : i = m
    · subst c
      rw [if_pos rfl] at hm
      split at hm
      · cases hm
        rename_i hi
        obtain ⟨a, vs, h1, _⟩ := re.own j k xs hE
        rw [hv] at h1; cases h1
        rw [if_pos rfl]
        refine ⟨hE, a, hv, ?_⟩
        rw [List.getElem?_set_self (by rw [List.length_take] at hi; omega)]
      · cases hm
    · rw [if_neg c] at hm
      obtain ⟨hm, lt⟩ := gt hm
      obtain ⟨a, vs, h1, _⟩ := re.own m l ys hm
      rw [if_neg (fun z => c z.symm)]
      refine ⟨hm, a, h1, ?_⟩
      rw [List.getElem?_append_left lt] at h1
      rw [List.getElem?_set_ne c]; exact h1
  · have lt : ∀ {m : Nat} {l : Bool} {ys : List T}, ((E.take σ.length).set i (some (.o k xs)))[m]? = some (some (.o l ys)) → m ≠ i → m < σ.length := fun {m l ys} h1 c => by
      rw [List.getElem?_set_ne (fun z => c z.symm)] at h1
      exact (gt h1).2
    by_cases c1 : m = i
    · by_cases c2 : n = i
      · rw [c1, c2]
      · simp only [if_pos c1, if_neg c2] at h
        have := lt h2 c2
        omega
    · by_cases c2 : n = i
      · simp only [if_neg c1, if_pos c2] at h
        have := lt h1 c1
        omega
      · simp only [if_neg c1, if_neg c2] at h
        exact h
theorem RE.frz (re : RE K B H S E) {i : Nat} {xs : List T} (h : E[i]? = some (some (.o false xs))) : RE K B H S (E.set i (some (.p (.lst xs)))) ∧ ∀ b, Ow B S (E.set i (some (.p (.lst xs)))) b → Ow B S E b ∧ S[i]? ≠ some (some (.ref b)) := by
  have hi : i < E.length := (List.getElem?_eq_some_iff.mp h).1
  obtain ⟨a, vs, h1, h2, h3, h4⟩ := re.own i false xs h
  have get : ∀ {j : Nat} {u : U}, (E.set i (some (.p (.lst xs))))[j]? = some (some u) → (j = i ∧ u = .p (.lst xs)) ∨ (j ≠ i ∧ E[j]? = some (some u)) := fun {j u} hj => by
    by_cases c : j = i
    · subst c; rw [List.getElem?_set_self hi] at hj; cases hj; exact .inl ⟨rfl, rfl⟩
    · rw [List.getElem?_set_ne (fun z => c z.symm)] at hj; exact .inr ⟨c, hj⟩
  have ow : ∀ b, Ow B S (E.set i (some (.p (.lst xs)))) b → Ow B S E b ∧ S[i]? ≠ some (some (.ref b)) := fun b z => by
    rcases z with z | ⟨j, k, ys, q1, q2⟩
    · refine ⟨.inl z, fun w => ?_⟩
      rw [h1] at w; cases w
      exact absurd (h4.mpr z) (by decide)
    rcases get q1 with ⟨_, z⟩ | ⟨c, q1⟩
    · cases z
    · exact ⟨.inr ⟨j, k, ys, q1, q2⟩, fun z => c (re.inj j i k false ys xs b q1 h q2 z)⟩
  have kl : Kp (Ow B S E) (Ow B S (E.set i (some (.p (.lst xs))))) H H := Kp.less fun b z => (ow b z).1
  refine ⟨⟨by simp [re.len], fun j t hj => ?_, fun j k ys hj => ?_, fun j m k l ys zs b q1 q2 q3 q4 => ?_, re.bd⟩, ow⟩
  · rcases get hj with ⟨c, z⟩ | ⟨c, hj⟩
    · cases z
      subst c
      exact ⟨_, h1, a, vs, rfl, .inl ⟨fun z => (ow a z).2 h1, .inl h2⟩, h3.step kl⟩
    · obtain ⟨w, q1, q2⟩ := re.pure j t hj
      exact ⟨w, q1, q2.step kl⟩
  · rcases get hj with ⟨_, z⟩ | ⟨c, hj⟩
    · cases z
    · obtain ⟨b, ws, q1, q2, q3, q4⟩ := re.own j k ys hj
      exact ⟨b, ws, q1, q2, q3.step kl, q4⟩
  · rcases get q1 with ⟨_, z⟩ | ⟨_, q1⟩
    · cases z
    rcases get q2 with ⟨_, z⟩ | ⟨_, q2⟩
    · cases z
    exact re.inj j m k l ys zs b q1 q2 q3 q4
theorem RE.put (re : RE K B H S E) {i : Nat} {k : Bool} {xs ys : List T} {a : Addr} {ws : List V} (h : E[i]? = some (some (.o k xs))) (hS : S[i]? = some (some (.ref a))) (hw : Rps K H (Ow B S E) ys ws) :
    Gr B H S E (upd H a (.lst ws)) S (E.set i (some (.o k ys))) ∧ RE K B (upd H a (.lst ws)) S (E.set i (some (.o k ys))) := by
  have hi : i < E.length := (List.getElem?_eq_some_iff.mp h).1
  have get : ∀ {j : Nat} {u : U}, (E.set i (some (.o k ys)))[j]? = some (some u) → (j = i ∧ u = .o k ys) ∨ (j ≠ i ∧ E[j]? = some (some u)) := fun {j u} hj => by
    by_cases c : j = i
    · subst c; rw [List.getElem?_set_self hi] at hj; cases hj; exact .inl ⟨rfl, rfl⟩
    · rw [List.getElem?_set_ne (fun z => c z.symm)] at hj; exact .inr ⟨c, hj⟩
  have ow : ∀ b, Ow B S (E.set i (some (.o k ys))) b → Ow B S E b := fun b z => by
    rcases z with z | ⟨j, l, zs, q1, q2⟩
    · exact .inl z
    rcases get q1 with ⟨c, z⟩ | ⟨c, q1⟩
    · subst c; exact .inr ⟨j, k, xs, h, q2⟩
    · exact .inr ⟨j, l, zs, q1, q2⟩
  have oa : Ow B S E a := .inr ⟨i, k, xs, h, hS⟩
  have kk : ∀ b o, H b = some o → ¬ Ow B S E b → (upd H a (.lst ws)) b = some o := fun b o e n => by rw [upd_ne (fun z => n (by rw [z]; exact oa))]; exact e
  have kp : Kp (Ow B S E) (Ow B S E) H (upd H a (.lst ws)) := ⟨kk, fun b z => .inl z⟩
  refine ⟨⟨⟨kk, fun b z => .inl (ow b z)⟩, [], by simp⟩, re.step kk (by simp) (fun j t hj => ?_) (fun j l zs hj => ?_) (fun b hb => ?_)⟩
  · rcases get hj with ⟨_, z⟩ | ⟨_, hj⟩
    · cases z
    · exact hj
  · rcases get hj with ⟨c, z⟩ | ⟨c, hj⟩
    · cases z
      subst c
      refine ⟨xs, h, fun b hb => ?_⟩
      rw [hS] at hb; cases hb
      exact ⟨ws, upd_same, hw.step kp⟩
    · refine ⟨zs, hj, fun b hb => ?_⟩
      obtain ⟨b', us, q1, q2, q3, _⟩ := re.own j l zs hj
      rw [hb] at q1; cases q1
      have nb : b ≠ a := fun z => c (re.inj j i l k zs xs a hj h (by rw [← z]; exact hb) hS)
      exact ⟨us, by rw [upd_ne nb]; exact q2, q3.step kp⟩
  · by_cases c : b = a
    · subst c; exact ⟨ws, upd_same⟩
    · rw [upd_ne c]; exact re.bd b hb
end
section
variable {X : Cx} {K : PySem.W.Frag} {pos : Pos} {a b c e o i : Expr} {es rest : List Expr} {Fa Fb Fc Fe Fo Fi : FE} {Fr : FA} {Fp Fq : FB} {F G : FS} {st : Stmt} {sts body b1' b2' : List Stmt}
noncomputable def nfS : En → (En → Prop) → Prop
  | [], k => k []
  | x :: r, k => nfS r fun r' => k (x :: r')
theorem nfS_eq : ∀ {E : En} {k : En → Prop}, nfS E k → k E
  | [], _, h => h
  | x :: r, k, h => nfS_eq (E := r) (k := fun r' => k (x :: r')) h
noncomputable def sNext : FS := fun D E => D.nx E
noncomputable def sSeq (F G : FS) : FS := fun D E => F { D with nx := fun E' => nfS E' (G D) } E
theorem fb_nil : QB X [] (simS K sNext) := qb_nil.le fun D σ H ⟨B, E, DT, re, hF, l⟩ => l.nx _ _ _ hF (Kp.refl _ _) re
theorem fb_cons (h1 : QS X st (simS K F)) (h2 : QB X sts (simS K G)) : QB X (st :: sts) (simS K (sSeq F G)) :=
  (qb_cons h1 h2).le fun D σ H ⟨B, E, DT, re, hF, l⟩ => ⟨B, E, _, re, hF, ⟨fun σ' H' E' hG g re' => ⟨B, E', DT, re', nfS_eq hG, l.step g⟩, l.rt, l.bk, l.ct⟩⟩
theorem fb_one (h1 : QS X st (simS K F)) : QB X [st] (simS K F) := qb_one h1
noncomputable def sRet (Fa : FE) : FS := fun D E => Fa E D.rt
theorem fs_ret (h : QE X e (simE K Fa)) : QS X (.Return (some e) pos) (simS K (sRet Fa)) :=
  (qs_ret h).le fun D σ H hl ⟨B, E, DT, re, hF, l⟩ => ⟨B, σ, E, _, ⟨[], by simp⟩, re, hF, fun r E' v H' S' q g re' rr => l.rt r E' v H' S' q g.kp re' rr⟩
theorem afterB {D : Bool → Hp → Prop} {B : Addr → Prop} {σ : St} {H : Hp} {E : En} {P : Bool → En → Prop} (re : RE K B H σ E) (hF : Fp E fun b E' => P b (E'.take E.length)) (k : ∀ b H' E', P b E' → Gs B H σ E H' σ E' → RE K B H' σ E' → D b H') : simB K Fp σ H D :=
  ⟨B, σ, E, _, ⟨[], by simp⟩, re, hF, fun b E' H' S' q g re' => by
    obtain ⟨r, ow⟩ := re'.cut (E := E) g.pre re.len
    exact k b H' _ q (g.kp.trans (Kp.less ow)) r⟩
theorem afterE {P : R → En → En → Prop} {Q : VK} {B : Addr → Prop} {σ : St} {H : Hp} {E : En} (re : RE K B H σ E) (hF : Fa E fun r E' => P r E' (E'.take E.length))
    (k : ∀ r E' v H' S', P r E' (E'.take E.length) → Gr B H σ E H' S' E' → RE K B H' S' E' → RR K B H' S' E' r v → RE K B H' σ (E'.take E.length) → (∀ b, Ow B σ (E'.take E.length) b → Ow B S' E' b) → Q v H') : simE K Fa σ H Q :=
  ⟨B, σ, E, _, ⟨[], by simp⟩, re, hF, fun r E' v H' S' q g re' rr => by
    obtain ⟨r2, ow⟩ := re'.cut (E := E) g.pre re.len
    exact k r E' v H' S' q g re' rr r2 ow⟩
noncomputable def sIf (Fp : FB) (F G : FS) : FS := fun D E => Fp E fun b E' => if b = true then nfS (E'.take E.length) (F D) else nfS (E'.take E.length) (G D)
theorem fs_if (hc : QT X c (simB K Fp)) (ha : QB X b1' (simS K F)) (hb : QB X b2' (simS K G)) : QS X (.If c b1' b2' pos) (simS K (sIf Fp F G)) :=
  (qs_if hc ha hb).le fun D σ H hl ⟨B, E, DT, re, hF, l⟩ => afterB (P := fun b E' => if b = true then nfS E' (F DT) else nfS E' (G DT)) re hF fun b H' E' q g re' => by
    cases b
    · exact ⟨B, E', DT, re', nfS_eq q, l.step g⟩
    · exact ⟨B, E', DT, re', nfS_eq q, l.step g⟩
noncomputable def sDrop (Fa : FE) : FS := fun D E => Fa E fun _ E' => D.nx (E'.take E.length)
theorem fs_expr (he : QE X e (simE K Fa)) (hs : swapsWith e none pos.line X.env = pure false := by rfl) : QS X (.Expr e pos) (simS K (sDrop Fa)) :=
  (qs_expr he hs).le fun D σ H hl ⟨B, E, DT, re, hF, l⟩ => afterE (P := fun _ _ E' => DT.nx E') re hF fun r E' v H' S' q g re' rr re2 ow => l.nx _ _ _ q (g.kp.trans (Kp.less ow)) re2
noncomputable def sAssert (Fp : FB) : FS := fun D E => Fp E fun b E' => b = true ∧ D.nx (E'.take E.length)
theorem fs_assert {m : Option Expr} (hc : QT X c (simB K Fp)) : QS X (.Assert c m pos) (simS K (sAssert Fp)) :=
  (qs_assert hc).le fun D σ H hl ⟨B, E, DT, re, hF, l⟩ => afterB (P := fun b E' => b = true ∧ DT.nx E') re hF fun b H' E' q g re' => ⟨q.1, l.nx _ _ _ q.2 g re'⟩
noncomputable def pick (n : Nat) (E : En) : R → Option U
  | .p t => some (.p t)
  | .s j => match E[j]? with
    | some (some (.p t)) => some (.p t)
    | some (some (.o k xs)) => if n ≤ j then some (.o k xs) else none
    | _ => none
theorem pick_ok {B : Addr → Prop} {σ S : St} {H : Hp} {E : En} {r : R} {v : V} {u : U} {i : Nat} (re : RE K B H S E) (hS : ∃ τ, S = σ ++ τ) (rr : RR K B H S E r v) (h : pick σ.length E r = some u) :
    RE K B H (σ.set i (some v)) ((E.take σ.length).set i (some u)) ∧ ∀ b, Ow B (σ.set i (some v)) ((E.take σ.length).set i (some u)) b → Ow B S E b := by
  have cutP : ∀ {t : T}, Rp K H (Ow B S E) t v → RE K B H (σ.set i (some v)) ((E.take σ.length).set i (some (.p t))) ∧ ∀ b, Ow B (σ.set i (some v)) ((E.take σ.length).set i (some (.p t))) b → Ow B S E b := fun {t} hp => by
    obtain ⟨τ, rfl⟩ := hS
    have re2 := re.take σ.length
    rw [show (σ ++ τ).take σ.length = σ by simp] at re2
    have ow : ∀ b, Ow B σ (E.take σ.length) b → Ow B (σ ++ τ) E b := fun b z => by
      rcases z with z | ⟨j, k, xs, h1, h2⟩
      · exact .inl z
      have hj : j < σ.length := (List.getElem?_eq_some_iff.mp h2).1
      exact .inr ⟨j, k, xs, by rw [List.getElem?_take_of_lt hj] at h1; exact h1, pre_get ⟨τ, rfl⟩ h2⟩
    obtain ⟨q1, q2⟩ := re2.setP (i := i) (hp.step (Kp.less ow))
    exact ⟨q1, fun b z => ow b (q2 b z)⟩
  cases r with
  | p t => cases h; exact cutP rr
  | s j =>
    cases q : E[j]? with
    | none => simp only [pick, q] at h; cases h
    | some w =>
      cases w with
      | none => simp only [pick, q] at h; cases h
      | some w =>
        cases w with
        | p t =>
          simp only [pick, q] at h
          cases h
          obtain ⟨v', h1, h2⟩ := re.pure j t q
          have rr' : S[j]? = some (some v) := rr
          rw [rr'] at h1; cases h1
          exact cutP h2
        | o k xs =>
          simp only [pick, q] at h
          split at h
          · cases h
            rename_i c
            exact re.setO hS c q rr
          · cases h
noncomputable def sSet (i : Nat) (Fa : FE) : FS := fun D E => Fa E fun r E' => o1 (pick E.length E' r) fun u => D.nx ((E'.take E.length).set i (some u))
theorem fs_set {i : Nat} {x : Str} {pos' : Pos} (hN : X.N.Nodup) (hi : X.N[i]? = some x) (hx : Loc X.env.scope x) (he : QE X e (simE K Fa)) (hs : swapsWith e (some (.Name x pos')) pos.line X.env = pure false := by rfl)
    (hf : X.fn x = true ∨ X.env.scope.names.lookup x = some .local := by first | exact .inl rfl | exact .inr rfl | assumption) : QS X (.Assign [.Name x pos'] e pos) (simS K (sSet i Fa)) :=
  (qs_set hN hi hx he hs hf).le fun D σ H hl ⟨B, E, DT, re, hF, l⟩ => ⟨B, σ, E, _, ⟨[], by simp⟩, re, hF, fun r E' v H' S' q g re' rr => by
    obtain ⟨u, e1, q⟩ := q.ex
    rw [← re.len] at e1 q
    obtain ⟨r1, ow⟩ := pick_ok (i := i) re' g.pre rr e1
    exact l.nx _ _ _ q (g.kp.trans (Kp.less ow)) r1⟩
end
end L2
set_option Elab.async false
set_option linter.all false
set_option maxRecDepth 100000
set_option maxHeartbeats 4000000
namespace L2
open PySem PySem.Spec PyProof.Rows
noncomputable abbrev FG := T → En → (En → Prop) → Prop
noncomputable abbrev FGs := List T → En → (En → Prop) → Prop
noncomputable def simG (K : PySem.W.Frag) (G : FG) : TG := fun v σ H Q => ∃ B τ E t Q', RE K B H (σ ++ τ) E ∧ Rp K H (Ow B (σ ++ τ) E) t v ∧ G t E Q' ∧ ∀ σ' H' E', Q' E' → Gs B H (σ ++ τ) E H' (σ' ++ τ) E' → RE K B H' (σ' ++ τ) E' → σ'.length = σ.length → Q σ' H'
noncomputable def simGs (K : PySem.W.Frag) (G : FGs) : TGs := fun vs σ H Q => ∃ B τ E ts Q', RE K B H (σ ++ τ) E ∧ Rps K H (Ow B (σ ++ τ) E) ts vs ∧ G ts E Q' ∧ ∀ σ' H' E', Q' E' → Gs B H (σ ++ τ) E H' (σ' ++ τ) E' → RE K B H' (σ' ++ τ) E' → σ'.length = σ.length → Q σ' H'
noncomputable def kName (i : Nat) : FG := fun t E Q => Q (E.set i (some (.p t)))
noncomputable def kNil : FGs := fun ts E Q => match ts with
  | [] => Q E
  | _ => False
noncomputable def kCons (g : FG) (gs : FGs) : FGs := fun ts E Q => match ts with
  | t :: r => g t E fun E' => gs r E' Q
  | [] => False
noncomputable def kTup (n : Nat) (gs : FGs) : FG := fun t E Q => match t with
  | .tup ts => cond (Nat.beq ts.length n) (gs ts E Q) False
  | _ => False
noncomputable def kSub (Fo Fi : FE) : FG := fun t E Q => Fo E fun r E1 => Fi E1 fun z E2 => match r with
  | .s j => match E2[j]? with
    | some (some (.o k xs)) => i1 (vl E2 z) fun m => o1 (ixN xs.length m) fun l => Q ((E2.set j (some (.o k (xs.set l t)))).take E.length)
    | _ => False
  | _ => False
section
variable {X : Cx} {K : PySem.W.Frag} {pos : Pos} {a b c e o i : Expr} {es rest : List Expr} {Fa Fb Fc Fe Fo Fi : FE} {Fr : FA} {Fp Fq : FB} {F G : FS} {st : Stmt} {sts body : List Stmt} {g : FG} {gs : FGs}
theorem fg_name {i : Nat} {x : Str} (hN : X.N.Nodup) (hi : X.N[i]? = some x) (hx : Loc X.env.scope x) (hf : X.fn x = true ∨ X.env.scope.names.lookup x = some .local := by first | exact .inl rfl | exact .inr rfl | assumption) : QG X (.Name x pos) (simG K (kName i)) :=
  (qg_name hN hi hx hf).le fun v σ H Q hl ⟨B, τ, E, t, Q', re, rp, hF, l⟩ => by
    have hlt : i < σ.length := by rw [hl]; exact (List.getElem?_eq_some_iff.mp hi).1
    obtain ⟨r1, ow⟩ := re.setP (i := i) rp
    rw [List.set_append_left _ _ hlt] at r1 ow
    exact l _ _ _ hF (Kp.less ow) r1 (by simp)
theorem fgs_nil : QGs X [] (simGs K kNil) := qgs_nil.le fun vs σ H Q ⟨B, τ, E, ts, Q', re, rp, hF, l⟩ => by
  cases ts with
  | nil => exact ⟨rp, l _ _ _ hF (Kp.refl _ _) re rfl⟩
  | cons _ _ => exact hF.elim
theorem fgs_cons (h1 : QG X e (simG K g)) (h2 : QGs X es (simGs K gs)) (hs : (assignEach (e :: es) X.env).map (·.2) = assign e X.env :: (assignEach es X.env).map (·.2) := by rfl) : QGs X (e :: es) (simGs K (kCons g gs)) :=
  (qgs_cons h1 h2 hs).le fun vs σ H Q ⟨B, τ, E, ts, Q', re, rp, hF, l⟩ => by
    cases ts with
    | nil => exact hF.elim
    | cons t ts =>
      obtain ⟨v, r, e1, h1, h2⟩ := rp
      exact ⟨v, r, e1, B, τ, E, t, _, re, h1, hF, fun σ' H' E' q g re' hl => ⟨B, τ, E', ts, Q', re', h2.step g, q, fun σ2 H2 E2 q2 g2 re2 hl2 => l _ _ _ q2 (g.trans g2) re2 (hl2.trans hl)⟩⟩
theorem fg_tup {k n : Nat} (eK : X.K = K) (hc : X.calm = true) (h : QGs X es (simGs K gs)) (hn : (assignEach es X.env).length = n := by rfl) (hst : (assignEach es X.env).findIdx? (·.1) = none := by rfl) : QG X (.Tuple es k pos) (simG K (kTup n gs)) := by
  subst eK
  refine (qg_tup hc h hn hst).le fun v σ H Q hl ⟨B, τ, E, t, Q', re, rp, hF, l⟩ => ?_
  cases t with
  | tup ts =>
    have hF' : cond (Nat.beq ts.length n) (gs ts E Q') False := hF
    cases q : Nat.beq ts.length n with
    | false => rw [q] at hF'; exact hF'.elim
    | true =>
      rw [q] at hF'
      obtain ⟨p, vs, e1, sq, rs⟩ := rp.sqT
      exact ⟨p, vs, e1, sq, by rw [rs.length]; exact Nat.eq_of_beq_eq_true q, B, τ, E, ts, Q', re, rs, hF', l⟩
  | _ => exact hF.elim
theorem fg_sub (ho : QE X o (simE K Fo)) (hi : QE X i (simE K Fi))
    (ha : ∀ v, assign (.Subscript o i pos) X.env v = (do
      let ov ← holding [v] (eval o X.env)
      let iv ← holding [v, ov] (eval i X.env)
      standAt pos
      holding [v, ov, iv] (setItem ov iv v)
      release [v, ov, iv] []) := by intro _; rfl) : QG X (.Subscript o i pos) (simG K (kSub Fo Fi)) := by
  refine (qg_sub ho hi set_list ha).le fun v σ H Q hl ⟨B, τ, E, t, Q', re, rp, hF, l⟩ => ?_
  refine ⟨B, σ ++ τ, E, _, ⟨τ, rfl⟩, re, hF, fun r E1 w H1 S1 q g1 re1 rr => ?_⟩
  obtain ⟨τ1, hS1⟩ := g1.pre
  refine ⟨B, S1, E1, _, ⟨τ ++ τ1, by rw [hS1, List.append_assoc]⟩, re1, q, fun z E2 y H2 S2 q2 g2 re2 rr2 => ?_⟩
  have g12 := g1.trans g2
  cases r with
  | p _ => exact q2.elim
  | s j =>
    have rj : S2[j]? = some (some w) := pre_get g2.pre rr
    cases hE : E2[j]? with
    | none => simp only [hE] at q2
    | some u =>
      cases u with
      | none => simp only [hE] at q2
      | some u =>
        cases u with
        | p _ => simp only [hE] at q2
        | o k xs =>
          simp only [hE] at q2
          obtain ⟨m, e1, q2⟩ := q2.ex
          obtain ⟨n, e2, q2⟩ := q2.ex
          obtain ⟨p, vs, h1, h2, h3, h4⟩ := re2.own j k xs hE
          rw [rj] at h1; cases h1
          refine ⟨p, vs, m, n, rfl, re2.int rr2 e1, h2, by rw [h3.length]; exact e2, ?_⟩
          obtain ⟨g3, re3⟩ := re2.put (ys := xs.set n t) (ws := vs.set n v) hE rj (h3.set (rp.step g12.kp) n)
          obtain ⟨re4, ow⟩ := re3.cut (E := E) (g12.trans g3).pre re.len
          exact l _ _ _ q2 ((g12.trans g3).kp.trans (Kp.less ow)) re4 rfl
noncomputable def sAsg (Fa : FE) (g : FG) : FS := fun D E => Fa E fun r E' => match r with
  | .p t => g t (E'.take E.length) D.nx
  | .s _ => False
theorem fs_asg {tg : Expr} (he : QE X e (simE K Fa)) (hg : QG X tg (simG K g)) (hs : swapsWithSole [tg] e pos.line X.env = pure false := by rfl) (hw : swappedStores [tg] e X.env = pure none := by rfl)
    (h1 : (assignEach [tg] X.env).map (·.2) = [assign tg X.env] := by rfl) : QS X (.Assign [tg] e pos) (simS K (sAsg Fa g)) :=
  (qs_asg he hg hs hw h1).le fun D σ H hl ⟨B, E, DT, re, hF, l⟩ => afterE (P := fun r _ E' => match r with | .p t => g t E' DT.nx | .s _ => False) re hF fun r E' v H' S' q g' re' rr re2 ow => by
    cases r with
    | s _ => exact q.elim
    | p t => exact ⟨B, [], _, t, _, by rw [List.append_nil]; exact re2, by rw [List.append_nil]; exact Rp.step (Kp.less ow) rr, q, fun σ2 H2 E2 q2 g2 re3 _ => by rw [List.append_nil] at g2 re3; rw [List.append_nil] at g2; exact l.nx _ _ _ q2 ((g'.kp.trans (Kp.less ow)).trans g2) re3⟩
noncomputable def sPar (i j : Nat) (Fr : FA) : FS := fun D E => Fr E fun rs E' => match rs with
  | [.p t, r] => o1 (pick E.length E' r) fun u => D.nx (((E'.take E.length).set j (some u)).set i (some (.p t)))
  | [r, .p t] => o1 (pick E.length E' r) fun u => D.nx (((E'.take E.length).set i (some u)).set j (some (.p t)))
  | _ => False
theorem fs_par {n i j : Nat} {x y : Str} {px py pt : Pos} {kt k2 pt2} (hc : X.calm = true) (hN : X.N.Nodup) (hi : X.N[i]? = some x) (hj : X.N[j]? = some y) (hij : i ≠ j)
    (hx : X.env.scope.names.lookup x = some .local) (hy : X.env.scope.names.lookup y = some .local) (ha : QA X [a, b] (simA K n Fr))
    (hw : swappedStores [.Tuple [.Name x px, .Name y py] kt pt] (.Tuple [a, b] k2 pt2) X.env = pure (some [x, y]))
    (hs : swapsWithSole [.Tuple [.Name x px, .Name y py] kt pt] (.Tuple [a, b] k2 pt2) pos.line X.env = pure false := by rfl) :
    QS X (.Assign [.Tuple [.Name x px, .Name y py] kt pt] (.Tuple [a, b] k2 pt2) pos) (simS K (sPar i j Fr)) := by
  refine (qs_par hc hN hi hj hij hx hy ha hw hs).le fun D σ H hl ⟨B, E, DT, re, hF, l⟩ => ⟨B, σ, E, _, ⟨[], by simp⟩, re, hF, fun rs E' vs H' S' q g re' rr hn => ?_⟩
  split at q
  · rename_i t r
    obtain ⟨v, ws, e1, h1, w, ws', e2, h2, h3⟩ := rr
    cases h3; subst e2; subst e1
    obtain ⟨u, e3, q⟩ := q.ex
    rw [← re.len] at e3 q
    obtain ⟨r1, ow⟩ := pick_ok (i := j) re' g.pre h2 e3
    obtain ⟨r2, ow2⟩ := r1.setP (i := i) (Rp.step (Kp.less ow) h1)
    refine ⟨v, w, rfl, ?_⟩
    rw [List.set_comm _ _ hij]
    exact l.nx _ _ _ q (g.kp.trans (Kp.less fun b z => ow b (ow2 b z))) r2
  · rename_i r t _
    obtain ⟨v, ws, e1, h1, w, ws', e2, h2, h3⟩ := rr
    cases h3; subst e2; subst e1
    obtain ⟨u, e3, q⟩ := q.ex
    rw [← re.len] at e3 q
    obtain ⟨r1, ow⟩ := pick_ok (i := i) re' g.pre h1 e3
    obtain ⟨r2, ow2⟩ := r1.setP (i := j) (Rp.step (Kp.less ow) h2)
    exact ⟨v, w, rfl, l.nx _ _ _ q (g.kp.trans (Kp.less fun b z => ow b (ow2 b z))) r2⟩
  · exact q.elim
noncomputable def sPar3 (i j k : Nat) (Fr : FA) : FS := fun D E => Fr E fun rs E' => match rs with
  | [r, .p t, .p w] => o1 (pick E.length E' r) fun u => D.nx ((((E'.take E.length).set i (some u)).set j (some (.p t))).set k (some (.p w)))
  | _ => False
theorem fs_par3 {n i j k : Nat} {x y z : Str} {px py pz pt : Pos} {kt k2 pt2} (hc : X.calm = true) (hN : X.N.Nodup) (hi : X.N[i]? = some x) (hj : X.N[j]? = some y) (hk : X.N[k]? = some z) (hij : i ≠ j) (hik : i ≠ k) (hjk : j ≠ k)
    (hx : X.env.scope.names.lookup x = some .local) (hy : X.env.scope.names.lookup y = some .local) (hz : X.env.scope.names.lookup z = some .local) (ha : QA X [a, b, c] (simA K n Fr))
    (hw : swappedStores [.Tuple [.Name x px, .Name y py, .Name z pz] kt pt] (.Tuple [a, b, c] k2 pt2) X.env = pure (some [x, y, z]))
    (hs : swapsWithSole [.Tuple [.Name x px, .Name y py, .Name z pz] kt pt] (.Tuple [a, b, c] k2 pt2) pos.line X.env = pure false := by rfl) :
    QS X (.Assign [.Tuple [.Name x px, .Name y py, .Name z pz] kt pt] (.Tuple [a, b, c] k2 pt2) pos) (simS K (sPar3 i j k Fr)) := by
  refine (qs_par3 hc hN hi hj hk hij hik hjk hx hy hz ha hw hs).le fun D σ H hl ⟨B, E, DT, re, hF, l⟩ => ⟨B, σ, E, _, ⟨[], by simp⟩, re, hF, fun rs E' vs H' S' q g re' rr hn => ?_⟩
  split at q
  · rename_i r t w
    obtain ⟨v1, ws1, e1, h1, v2, ws2, e2, h2, v3, ws3, e3, h3, h4⟩ := rr
    cases h4; subst e3; subst e2; subst e1
    obtain ⟨u, e4, q⟩ := q.ex
    rw [← re.len] at e4 q
    obtain ⟨r1, ow⟩ := pick_ok (i := i) re' g.pre h1 e4
    obtain ⟨r2, ow2⟩ := r1.setP (i := j) (Rp.step (Kp.less ow) h2)
    obtain ⟨r3, ow3⟩ := r2.setP (i := k) (Rp.step (Kp.less fun b z => ow b (ow2 b z)) h3)
    exact ⟨v1, v2, v3, rfl, l.nx _ _ _ q (g.kp.trans (Kp.less fun b z => ow b (ow2 b (ow3 b z)))) r3⟩
  · exact q.elim
noncomputable def sAug (f : Int → Int → Int) (i : Nat) (Fa : FE) : FS := fun D E => match E[i]? with
  | some (some (.p (.int x))) => Fa E fun r E' => i1 (vl E' r) fun y => D.nx ((E'.take E.length).set i (some (.p (.int (f x y)))))
  | _ => False
theorem fs_aug {i : Nat} {x : Str} {op : Operator} {f : Int → Int → Int} {pos' : Pos} (hN : X.N.Nodup) (hi : X.N[i]? = some x) (hx : Loc X.env.scope x) (he : QE X e (simE K Fa)) (ho : PIp X op (ipI f)) (hf : X.fn x = true ∨ X.env.scope.names.lookup x = some .local := by first | exact .inl rfl | exact .inr rfl | assumption) :
    QS X (.AugAssign (.Name x pos') op e pos) (simS K (sAug f i Fa)) := by
  refine QS.le ⟨ps_aug hN hi hx he.h ho hf⟩ fun D σ H hl ⟨B, E, DT, re, hF, l⟩ => ?_
  unfold sAug at hF
  split at hF
  · rename_i y hE
    obtain ⟨v, h1, h2⟩ := re.pure i _ hE
    cases h2
    refine ⟨_, h1, afterE (P := fun r E' E2 => i1 (vl E' r) fun z => DT.nx (E2.set i (some (.p (.int (f y z)))))) re hF fun r E' v H' S' q g' re' rr re2 ow => ?_⟩
    obtain ⟨z, e1, q⟩ := q.ex
    obtain ⟨r1, ow2⟩ := re2.setP (i := i) (t := .int (f y z)) (v := .int (f y z)) rfl
    exact ⟨y, z, rfl, re'.int rr e1, l.nx _ _ _ q (g'.kp.trans (Kp.less fun b z => ow b (ow2 b z))) r1⟩
  · exact hF.elim
noncomputable def sWhile (Fp : FB) (F : FS) : FS := fun D E => ∃ W : Nat → En → Prop, (∃ m, W m E) ∧ ∀ m E, W m E → Fp E fun b E' => if b = true then F { D with nx := fun E2 => ∃ m', m' < m ∧ W m' E2, ct := fun E2 => ∃ m', m' < m ∧ W m' E2, bk := D.nx } (E'.take E.length) else D.nx (E'.take E.length)
theorem fs_while (hp : PassesOwn (model X.prog X.w) X.A X.env X.xe) (hc : QT X c (simB K Fp)) (hb : QB X body (simS K F)) : QS X (.While c body [] pos) (simS K (sWhile Fp F)) := by
  refine (qs_while hp hc hb).le fun D σ H hl ⟨B, E, DT, re, ⟨W, ⟨m0, w0⟩, hF⟩, l⟩ => ?_
  refine ⟨fun m σ' H' => ∃ E', W m E' ∧ Gs B H σ E H' σ' E' ∧ RE K B H' σ' E', ⟨m0, E, w0, Kp.refl _ _, re⟩, ?_⟩
  rintro m σ1 H1 ⟨E1, w1, g1, re1⟩
  refine afterB (P := fun b E' => if b = true then F { DT with nx := fun E2 => ∃ m', m' < m ∧ W m' E2, ct := fun E2 => ∃ m', m' < m ∧ W m' E2, bk := DT.nx } E' else DT.nx E') re1 (hF m E1 w1) fun b H2 E2 q g2 re2 => ?_
  cases b
  · exact l.nx _ _ _ q (g1.trans g2) re2
  · refine ⟨fun σ' H' => ∃ m', m' < m ∧ ∃ E', W m' E' ∧ Gs B H σ E H' σ' E' ∧ RE K B H' σ' E', fun σ' H' z => z, B, E2, _, re2, q, ?_⟩
    have l2 := l.step (g1.trans g2)
    exact ⟨fun σ' H' E' ⟨m', hm, w⟩ g re' => ⟨m', hm, E', w, (g1.trans g2).trans g, re'⟩, l2.rt, fun σ' H' E' z g re' => l2.nx _ _ _ z g re', fun σ' H' E' ⟨m', hm, w⟩ g re' => ⟨m', hm, E', w, (g1.trans g2).trans g, re'⟩⟩
structure ItOk (K : PySem.W.Frag) (J : It) (items : List T) (gd : Hp → (Addr → Prop) → Prop) : Prop where
  keep : ∀ H H' O O', Kp O O' H H' → gd H O → gd H' O'
  go : ∀ i H O, gd H O → i < items.length → J.go i H
  yld : ∀ i H O x H' t, gd H O → items[i]? = some t → (∀ a, O a → H a ≠ none) → J.yld i H x H' → Kp O O H H' ∧ (∀ b o, H b = some o → H' b = some o) ∧ Rp K H' O t x
  stop : ∀ H O, gd H O → J.stop items.length H
noncomputable abbrev FI := En → (List T → List Nat → En → Prop) → Prop
noncomputable def simI (K : PySem.W.Frag) (F : FI) : TI := fun σ H R => ∃ B S E Q', (∃ τ, S = σ ++ τ) ∧ RE K B H S E ∧ F E Q' ∧ ∀ J items us E' H' S' gd, Q' items us E' → Gr B H S E H' S' E' → RE K B H' S' E' → ItOk K J items gd → (∀ j ∈ us, ∃ k xs, E'[j]? = some (some (U.o k xs))) →
  (∀ O : Addr → Prop, (∀ b, O b → Ow B S' E' b) → (∀ j ∈ us, ∀ a, S'[j]? = some (some (.ref a)) → ¬ O a) → gd H' O) → R J H'
noncomputable def frzs : List Nat → En → Option En
  | [], E => some E
  | j :: us, E => match E[j]? with
    | some (some (.o false xs)) => frzs us (E.set j (some (.p (.lst xs))))
    | _ => none
theorem frzs_ok {B : Addr → Prop} {H : Hp} {S : St} : ∀ {us : List Nat} {E E' : En}, RE K B H S E → frzs us E = some E' → RE K B H S E' ∧ (∀ b, Ow B S E' b → Ow B S E b) ∧ (∀ j ∈ us, ∀ a, S[j]? = some (some (.ref a)) → ¬ Ow B S E' a) ∧ E'.length = E.length
  | [], E, E', re, h => by cases h; exact ⟨re, fun b z => z, fun j hj => absurd hj (by simp), rfl⟩
  | j :: us, E, E', re, h => by
    cases q : E[j]? with
    | none => simp only [frzs, q] at h; cases h
    | some u =>
      cases u with
      | none => simp only [frzs, q] at h; cases h
      | some u =>
        cases u with
        | p t => simp only [frzs, q] at h; cases h
        | o k xs =>
          cases k
          · simp only [frzs, q] at h
            obtain ⟨s1, s2⟩ := re.frz q
            obtain ⟨r1, r2, r3, r4⟩ := frzs_ok s1 h
            refine ⟨r1, fun b z => (s2 b (r2 b z)).1, fun m hm a ha z => ?_, by rw [r4]; simp⟩
            rcases List.mem_cons.mp hm with rfl | hm
            · exact (s2 a (r2 a z)).2 ha
            · exact r3 m hm a ha z
          · simp only [frzs, q] at h; cases h
noncomputable def loopT (g : FG) (F : FS) (D : ET) : List T → En → Prop
  | [], E => D.nx E
  | x :: xs, E => g x E fun E' => nfS E' (F { D with nx := loopT g F D xs, ct := loopT g F D xs, bk := D.nx })
noncomputable def sFor (I : FI) (g : FG) (F : FS) : FS := fun D E => I E fun items us E' => o1 (frzs us E') fun E2 => nfS (E2.take E.length) (loopT g F D items)
theorem fs_for {tg iter : Expr} {I : FI} (hp : PassesOwn (model X.prog X.w) X.A X.env X.xe) (hc : X.calm = true) (hi : QI X tg iter (simI K I)) (hg : QG X tg (simG K g)) (hb : QB X body (simS K F)) (hs : ∀ x, foldedSetIterable iter X.env x = pure x := by intro _; rfl) :
    QS X (.For tg iter body [] pos) (simS K (sFor I g F)) := by
  refine (qs_for hp hc hi hg hb hs).le fun D σ H hl ⟨B, E, DT, re, hF, l⟩ => ?_
  refine ⟨B, σ, E, _, ⟨[], by simp⟩, re, hF, fun J items us E1 H1 S1 gd q g1 re1 ok _ hgd => ?_⟩
  obtain ⟨E2, e2, q⟩ := q.ex
  replace q := nfS_eq q
  obtain ⟨f1, f2, f3, f4⟩ := frzs_ok re1 e2
  obtain ⟨c1, c2⟩ := f1.cut (E := E) g1.pre re.len
  have gs : Gs B H σ E H1 σ (E2.take E.length) := g1.kp.trans ((Kp.less f2).trans (Kp.less c2))
  have gd1 : gd H1 (Ow B σ (E2.take E.length)) := hgd _ (fun b z => f2 b (c2 b z)) fun j hj a ha z => f3 j hj a ha (c2 a z)
  refine ⟨fun i m σ' H' => m = items.length - i ∧ i ≤ items.length ∧ ∃ E', loopT g F DT (items.drop i) E' ∧ Gs B H σ E H' σ' E' ∧ RE K B H' σ' E' ∧ gd H' (Ow B σ' E'), ⟨_, rfl, Nat.zero_le _, _, q, gs, c1, gd1⟩, ?_⟩
  rintro i m σ2 H2 ⟨rfl, hi', E3, q3, g3, re3, gd3⟩
  rcases Nat.lt_or_ge i items.length with hlt | hge
  · have hd : items.drop i = items[i] :: items.drop (i + 1) := List.drop_eq_getElem_cons hlt
    rw [hd] at q3
    refine .inr ⟨ok.go i H2 _ gd3 hlt, fun σ' H' => ∃ E', loopT g F DT (items.drop (i + 1)) E' ∧ Gs B H σ E H' σ' E' ∧ RE K B H' σ' E' ∧ gd H' (Ow B σ' E'), fun σ' H' ⟨E', z⟩ => ⟨items.length - (i + 1), by omega, rfl, hlt, E', z⟩, fun x H4 y => ?_⟩
    obtain ⟨k4, s4, rp⟩ := ok.yld i H2 _ x H4 _ gd3 (List.getElem?_eq_getElem hlt) (fun a z => by obtain ⟨vs, e⟩ := re3.ow z; rw [e]; intro z; cases z) y
    have re4 := re3.kept s4
    have gd4 := ok.keep _ _ _ _ k4 gd3
    refine ⟨B, [], E3, _, _, by rw [List.append_nil]; exact re4, by rw [List.append_nil]; exact rp, q3, fun σ5 H5 E5 q5 g5 re5 hl5 => ?_⟩
    rw [List.append_nil] at g5 re5
    rw [List.append_nil] at g5
    have gd5 := ok.keep _ _ _ _ g5 gd4
    have gg := (g3.trans k4).trans g5
    have l5 := l.step gg
    refine ⟨B, E5, _, re5, nfS_eq q5, ?_⟩
    exact ⟨fun σ' H' E' z g re' => ⟨E', z, gg.trans g, re', ok.keep _ _ _ _ g gd5⟩, l5.rt, fun σ' H' E' z g re' => l5.nx _ _ _ z g re', fun σ' H' E' z g re' => ⟨E', z, gg.trans g, re', ok.keep _ _ _ _ g gd5⟩⟩
  · have ei : i = items.length := by omega
    subst ei
    rw [List.drop_length] at q3
    exact .inl ⟨ok.stop H2 _ gd3, l.nx _ _ _ q3 g3 re3⟩
noncomputable def usd (E : En) : R → List Nat
  | .p _ => []
  | .s j => match E[j]? with
    | some (some (.o _ _)) => [j]
    | _ => []
theorem usd_own {E : En} {r : R} : ∀ j ∈ usd E r, ∃ k xs, E[j]? = some (some (U.o k xs)) := fun j hj => by
  cases r with
  | p _ => simp [usd] at hj
  | s m =>
    cases q : E[m]? with
    | none => simp [usd, q] at hj
    | some u =>
      cases u with
      | none => simp [usd, q] at hj
      | some u =>
        cases u with
        | p _ => simp [usd, q] at hj
        | o k xs => simp [usd, q] at hj; subst hj; exact ⟨k, xs, q⟩
theorem rd_of {B : Addr → Prop} {H : Hp} {S : St} {E : En} {r : R} {v : V} {t : T} (re : RE K B H S E) (rr : RR K B H S E r v) (e : vl E r = some t) (O : Addr → Prop) (hO : ∀ b, O b → Ow B S E b) (hu : ∀ j ∈ usd E r, ∀ a, S[j]? = some (some (.ref a)) → ¬ O a) : Rp K H O t v := by
  cases r with
  | p u => cases e; exact Rp.step (Kp.less hO) rr
  | s j =>
    have rr' : S[j]? = some (some v) := rr
    cases q : E[j]? with
    | none => simp only [vl, q] at e; cases e
    | some u =>
      cases u with
      | none => simp only [vl, q] at e; cases e
      | some u =>
        cases u with
        | p u =>
          simp only [vl, q] at e; cases e
          obtain ⟨w, h1, h2⟩ := re.pure j _ q
          rw [rr'] at h1; cases h1
          exact h2.step (Kp.less hO)
        | o k xs =>
          simp only [vl, q] at e; cases e
          obtain ⟨a, vs, h1, h2, h3, _⟩ := re.own j k xs q
          rw [rr'] at h1; cases h1
          exact ⟨a, vs, rfl, .inl ⟨hu j (by simp [usd, q]) a rr', .inl h2⟩, h3.step (Kp.less hO)⟩
theorem itl_ok {p : Addr} {xs : List T} : ItOk K (Itl K p) xs (fun H O => Rp K H O (.lst xs) (.ref p)) := by
  refine ⟨fun H H' O O' k h => Rp.step k h, fun i H O h hi => ?_, fun i H O x H' t h e _ y => ?_, fun H O h => ?_⟩
  · obtain ⟨a, vs, e, sq, rs⟩ := h.sqL
    cases e
    exact ⟨vs, vs[i]'(by rw [rs.length]; exact hi), sq, List.getElem?_eq_getElem _⟩
  · obtain ⟨e1, y⟩ := y
    subst e1
    obtain ⟨a, vs, e2, sq, rs⟩ := h.sqL
    cases e2
    obtain ⟨v, h1, h2⟩ := rs.get e
    rw [y vs sq] at h1; cases h1
    exact ⟨Kp.refl _ _, fun _ _ z => z, h2⟩
  · obtain ⟨a, vs, e, sq, rs⟩ := h.sqL
    cases e
    exact ⟨vs, sq, by rw [rs.length]; exact Nat.le_refl _⟩
theorem itt_ok {p : Addr} {xs : List T} : ItOk K (Itt K p) xs (fun H O => Rp K H O (.tup xs) (.ref p)) := by
  refine ⟨fun H H' O O' k h => Rp.step k h, fun i H O h hi => ?_, fun i H O x H' t h e _ y => ?_, fun H O h => ?_⟩
  · obtain ⟨a, vs, e, sq, rs⟩ := h.sqT
    cases e
    exact ⟨vs, vs[i]'(by rw [rs.length]; exact hi), sq, List.getElem?_eq_getElem _⟩
  · obtain ⟨e1, y⟩ := y
    subst e1
    obtain ⟨a, vs, e2, sq, rs⟩ := h.sqT
    cases e2
    obtain ⟨v, h1, h2⟩ := rs.get e
    rw [y vs sq] at h1; cases h1
    exact ⟨Kp.refl _ _, fun _ _ z => z, h2⟩
  · obtain ⟨a, vs, e, sq, rs⟩ := h.sqT
    cases e
    exact ⟨vs, sq, by rw [rs.length]; exact Nat.le_refl _⟩
noncomputable def rngT (lo : Int) (n : Nat) : List T := (List.range n).map fun (i : Nat) => T.int (lo + (i : Int))
theorem itr_ok {lo : Int} {n : Nat} : ItOk K (Itr lo n) (rngT lo n) (fun _ _ => True) := by
  refine ⟨fun _ _ _ _ _ h => h, fun i H O _ hi => by show i < n; simpa [rngT] using hi, fun i H O x H' t _ e _ y => ?_, fun H O _ => by simp [Itr, rngT]⟩
  obtain ⟨e1, y⟩ := y
  subst e1; subst y
  unfold rngT at e
  rw [List.getElem?_map] at e
  have hi : i < n := by
    rcases Nat.lt_or_ge i n with c | c
    · exact c
    · rw [List.getElem?_eq_none (by simpa using c)] at e; cases e
  rw [List.getElem?_range hi] at e
  cases e
  exact ⟨Kp.refl _ _, fun _ _ z => z, rfl⟩
theorem ite_ok {p : Addr} {xs : List T} : ItOk K (Ite K p) (xs.zipIdx.map fun q => T.tup [.int (q.2 : Int), q.1]) (fun H O => Rp K H O (.lst xs) (.ref p)) := by
  refine ⟨fun H H' O O' k h => Rp.step k h, fun i H O h hi => ?_, fun i H O x H' t h e hO y => ?_, fun H O h => ?_⟩
  · obtain ⟨a, vs, e, sq, rs⟩ := h.sqL
    cases e
    have hi' : i < xs.length := by simpa using hi
    exact ⟨vs, vs[i]'(by rw [rs.length]; exact hi'), sq, List.getElem?_eq_getElem _⟩
  · obtain ⟨pp, w, e1, hp, e2, y⟩ := y
    subst e1; subst e2
    obtain ⟨a, vs, e3, sq, rs⟩ := h.sqL
    cases e3
    rw [List.getElem?_map] at e
    cases q : xs.zipIdx[i]? with
    | none => rw [q] at e; cases e
    | some z =>
      rw [q] at e; cases e
      obtain ⟨q1, q2⟩ := List.getElem?_eq_some_iff.mp q
      have q1' : i < xs.length := by simpa using q1
      rw [List.getElem_zipIdx] at q2
      subst q2
      obtain ⟨v, h1, h2⟩ := rs.get (List.getElem?_eq_getElem q1')
      rw [y vs sq] at h1; cases h1
      have k : Kp O O H (upd H pp (.tup [.int (i : Int), w])) := Kp.upd hp
      refine ⟨k, fun b o z => by rw [upd_ne (ne_of_none z hp)]; exact z, pp, _, rfl, .inl ⟨fun z => hO pp z hp, .inl upd_same⟩, _, _, rfl, ?_, w, [], rfl, h2.step k, rfl⟩
      simp [Rp]
  · obtain ⟨a, vs, e, sq, rs⟩ := h.sqL
    cases e
    exact ⟨vs, sq, by simp [rs.length]⟩
noncomputable def iL (Fa : FE) : FI := fun E Q => Fa E fun r E1 => match vl E1 r with
  | some (.lst xs) => Q xs (usd E1 r) E1
  | _ => False
noncomputable def iT (Fa : FE) : FI := fun E Q => Fa E fun r E1 => match vl E1 r with
  | some (.tup xs) => Q xs [] E1
  | _ => False
theorem fi_list {tg l : Expr} (eK : X.K = K) (hl : QE X l (simE K Fa)) : QI X tg l (simI K (iL Fa)) := by
  subst eK
  refine (qi_list hl).le fun σ H R hn ⟨B, S, E, Q', hS, re, hF, lk⟩ => ⟨B, S, E, _, hS, re, hF, fun r E1 v H1 S1 q g re1 rr => ?_⟩
  split at q
  · rename_i xs e1
    obtain ⟨a, vs, e2, sq, rs⟩ := re1.vl rr e1
    exact ⟨a, e2, ⟨vs, sq⟩, lk _ _ _ _ _ _ _ q g re1 itl_ok usd_own fun O h1 h2 => by rw [← e2]; exact rd_of re1 rr e1 O h1 h2⟩
  · exact q.elim
theorem fi_tup {tg l : Expr} (eK : X.K = K) (hl : QE X l (simE K Fa)) : QI X tg l (simI K (iT Fa)) := by
  subst eK
  refine (qi_tup hl).le fun σ H R hn ⟨B, S, E, Q', hS, re, hF, lk⟩ => ⟨B, S, E, _, hS, re, hF, fun r E1 v H1 S1 q g re1 rr => ?_⟩
  split at q
  · rename_i xs e1
    obtain ⟨a, vs, e2, sq, rs⟩ := re1.vl rr e1
    refine ⟨a, e2, ⟨vs, sq⟩, lk _ _ _ _ _ _ _ q g re1 itt_ok (fun j hj => absurd hj (by simp)) fun O h1 h2 => ?_⟩
    rw [← e2]
    refine rd_of re1 rr e1 O h1 fun j hj => ?_
    cases r with
    | p _ => simp [usd] at hj
    | s m =>
      cases q2 : E1[m]? with
      | none => simp only [vl, q2] at e1; cases e1
      | some u =>
        cases u with
        | none => simp only [vl, q2] at e1; cases e1
        | some u =>
          cases u with
          | p u => simp [usd, q2] at hj
          | o k ys => simp only [vl, q2] at e1; cases e1
  · exact q.elim
noncomputable def iR1 (Fr : FA) : FI := fun E Q => Fr E fun rs E1 => match rs with
  | [x] => i1 (vl E1 x) fun j => (-(2 ^ 62) ≤ j ∧ j < 2 ^ 62) ∧ Q (rngT 0 j.toNat) [] E1
  | _ => False
noncomputable def iR2 (Fr : FA) : FI := fun E Q => Fr E fun rs E1 => match rs with
  | [x, y] => i2 (vl E1 x) (vl E1 y) fun i j => (-(2 ^ 62) ≤ i ∧ i < 2 ^ 62 ∧ -(2 ^ 62) ≤ j ∧ j < 2 ^ 62) ∧ Q (rngT i (j - i).toNat) [] E1
  | _ => False
theorem fi_range1 {n : Nat} {tg : Expr} {p : Pos} (hg : Gl X "range") (hm : X.mg "range" = none) (ha : QA X [a] (simA K n Fr)) (hs : isStar a = false := by rfl) : QI X tg (.Call (.Name "range" p) [a] [] pos) (simI K (iR1 Fr)) := by
  refine (qi_range1 hg hm ha hs).le fun σ H R hn ⟨B, S, E, Q', hS, re, hF, lk⟩ => ⟨B, S, E, _, hS, re, hF, fun rs E1 vs H1 S1 q g re1 rr hn => ?_⟩
  match rs, rr, q with
  | [x], ⟨v, ws, e1, h1, h2⟩, q =>
    cases h2; subst e1
    obtain ⟨j, e2, c, q⟩ := i1.ex q
    exact ⟨j, by rw [re1.int h1 e2], c.1, c.2, lk _ _ _ _ _ _ _ q g re1 itr_ok (fun j hj => absurd hj (by simp)) fun _ _ _ => trivial⟩
  | [], _, q => exact q.elim
  | _ :: _ :: _, _, q => exact q.elim
theorem fi_range2 {n : Nat} {tg : Expr} {p : Pos} (hg : Gl X "range") (hm : X.mg "range" = none) (ha : QA X [a, b] (simA K n Fr)) (hs : isStar a = false := by rfl) (hs2 : isStar b = false := by rfl) : QI X tg (.Call (.Name "range" p) [a, b] [] pos) (simI K (iR2 Fr)) := by
  refine (qi_range2 hg hm ha hs hs2).le fun σ H R hn ⟨B, S, E, Q', hS, re, hF, lk⟩ => ⟨B, S, E, _, hS, re, hF, fun rs E1 vs H1 S1 q g re1 rr hn => ?_⟩
  match rs, rr, q with
  | [x, y], ⟨v, ws, e1, h1, w, ws', e2, h2, h3⟩, q =>
    cases h3; subst e2; subst e1
    obtain ⟨i, j, e3, e4, c, q⟩ := i2.ex q
    exact ⟨i, j, by rw [re1.int h1 e3, re1.int h2 e4], c, lk _ _ _ _ _ _ _ q g re1 itr_ok (fun j hj => absurd hj (by simp)) fun _ _ _ => trivial⟩
  | [], _, q => exact q.elim
  | [_], _, q => exact q.elim
  | _ :: _ :: _ :: _, _, q => exact q.elim
noncomputable def iE (Fr : FA) : FI := fun E Q => Fr E fun rs E1 => match rs with
  | [r] => (match vl E1 r with
    | some (.lst xs) => Q (xs.zipIdx.map fun q => T.tup [.int (q.2 : Int), q.1]) (usd E1 r) E1
    | _ => False)
  | _ => False
theorem fi_enum {n : Nat} {p tpos : Pos} {elts : List Expr} {x1} (eK : X.K = K) (hg : Gl X "enumerate") (hm : X.mg "enumerate" = none) (ha : QA X [a] (simA K n Fr)) (hs : isStar a = false := by rfl) : QI X (.Tuple elts x1 tpos) (.Call (.Name "enumerate" p) [a] [] pos) (simI K (iE Fr)) := by
  subst eK
  refine (qi_enum hg hm ha hs).le fun σ H R hn ⟨B, S, E, Q', hS, re, hF, lk⟩ => ⟨B, S, E, _, hS, re, hF, fun rs E1 vs H1 S1 q g re1 rr hn => ?_⟩
  match rs, rr, q with
  | [r], ⟨v, ws, e1, h1, h2⟩, q =>
    cases h2; subst e1
    simp only at q
    split at q
    · rename_i xs e1
      obtain ⟨a, vs, e2, sq, rs⟩ := re1.vl h1 e1
      exact ⟨a, by rw [e2], ⟨vs, sq⟩, lk _ _ _ _ _ _ _ q g re1 ite_ok usd_own fun O k1 k2 => by rw [← e2]; exact rd_of re1 h1 e1 O k1 k2⟩
    · exact q.elim
  | [], _, q => exact q.elim
  | _ :: _ :: _, _, q => exact q.elim
end
end L2
set_option Elab.async false
set_option linter.all false
set_option maxRecDepth 100000
set_option maxHeartbeats 4000000
namespace L2
open PySem PySem.Spec PyProof.Rows
mutual
noncomputable def noL : T → Bool
  | .lst _ => false
  | .tup xs => noLs xs
  | _ => true
noncomputable def noLs : List T → Bool
  | [] => true
  | x :: xs => noL x && noLs xs
end
noncomputable def LstOf (H : Hp) (a : Addr) : Prop := ∃ ws, H a = some (.lst ws)
section
variable {K : PySem.W.Frag} {H : Hp} {O O' : Addr → Prop}
mutual
theorem Rp.noL (hO : ∀ a, O' a → LstOf H a) : ∀ {t : T} {v : V}, L2.noL t = true → Rp K H O t v → Rp K H O' t v
  | .non, _, _, h => h
  | .bl _, _, _, h => h
  | .int _, _, _, h => h
  | .str _, _, _, h => h
  | .lst _, _, e, _ => by simp [L2.noL] at e
  | .tup xs, v, e, h => by
    obtain ⟨a, vs, e1, h1, h2⟩ := h
    refine ⟨a, vs, e1, h1.imp (fun ⟨_, h⟩ => ⟨fun z => ?_, h⟩) id, Rps.noL hO (by simpa [L2.noL] using e) h2⟩
    obtain ⟨ws, q⟩ := hO a z
    rcases h with h | ⟨o, h⟩
    · rw [h] at q; cases q
    · rw [h] at q; cases q
theorem Rps.noL (hO : ∀ a, O' a → LstOf H a) : ∀ {xs : List T} {vs : List V}, noLs xs = true → Rps K H O xs vs → Rps K H O' xs vs
  | [], _, _, h => h
  | x :: xs, vs, e, h => by
    obtain ⟨v, r, e1, h1, h2⟩ := h
    have e' : L2.noL x = true ∧ noLs xs = true := by simpa [noLs] using e
    exact ⟨v, r, e1, Rp.noL hO e'.1 h1, Rps.noL hO e'.2 h2⟩
end
end
section
variable {K : PySem.W.Frag} {B : Addr → Prop} {H H' : Hp} {S S' : St} {E E' : En} {σ : St}
theorem RE.push (re : RE K B H' S E) {a : Addr} {ts : List T} {vs : List V} (ha : H' a = some (.lst vs)) (hn : ¬ Ow B S E a) (hb : ¬ B a)
    (hp : ∀ (i : Nat) (t : T), E[i]? = some (some (.p t)) → ∃ v, S[i]? = some (some v) ∧ Rp K H' (fun b => Ow B S E b ∨ b = a) t v)
    (ho : ∀ (i : Nat) (k : Bool) (xs : List T), E[i]? = some (some (.o k xs)) → ∃ b ws, S[i]? = some (some (.ref b)) ∧ H' b = some (.lst ws) ∧ Rps K H' (fun b => Ow B S E b ∨ b = a) xs ws)
    (h : Rps K H' (fun b => Ow B S E b ∨ b = a) ts vs) :
    RE K B H' (S ++ [some (.ref a)]) (E ++ [some (.o false ts)]) ∧ ∀ b, Ow B (S ++ [some (.ref a)]) (E ++ [some (.o false ts)]) b → Ow B S E b ∨ b = a := by
  have gE : ∀ {i : Nat} {u : U}, (E ++ [some (.o false ts)])[i]? = some (some u) → (E[i]? = some (some u) ∧ i < E.length) ∨ (i = E.length ∧ u = .o false ts) := fun {i u} h => by
    rcases get_push h with ⟨c, h⟩ | ⟨c, h⟩
    · exact .inl ⟨h, c⟩
    · exact .inr ⟨c, Option.some.inj h⟩
  have gS : ∀ {i : Nat} {x : Option V}, S[i]? = some x → (S ++ [some (.ref a)])[i]? = some x := fun {i x} h => pre_get ⟨_, rfl⟩ h
  have gS' : ∀ {i : Nat} {x : Option V}, i < E.length → (S ++ [some (.ref a)])[i]? = some x → S[i]? = some x := fun {i x} c h => by
    rw [List.getElem?_append_left (by rw [re.len]; exact c)] at h; exact h
  have lS : (S ++ [some (.ref a)])[E.length]? = some (some (.ref a)) := by rw [← re.len]; simp
  have ow : ∀ b, Ow B (S ++ [some (.ref a)]) (E ++ [some (.o false ts)]) b → Ow B S E b ∨ b = a := fun b z => by
    rcases z with z | ⟨i, k, xs, h1, h2⟩
    · exact .inl (.inl z)
    rcases gE h1 with ⟨h1, c⟩ | ⟨c, h1⟩
    · exact .inl (.inr ⟨i, k, xs, h1, gS' c h2⟩)
    · subst c; rw [lS] at h2; cases h2; exact .inr rfl
  have kl : Kp (fun b => Ow B S E b ∨ b = a) (Ow B (S ++ [some (.ref a)]) (E ++ [some (.o false ts)])) H' H' := Kp.less ow
  refine ⟨⟨by simp [re.len], fun i t h => ?_, fun i l xs h => ?_, fun i j l m xs ys b h1 h2 h3 h4 => ?_, re.bd⟩, ow⟩
  · rcases gE h with ⟨h, c⟩ | ⟨c, h⟩
    · obtain ⟨v, h1, h2⟩ := hp i t h
      exact ⟨v, gS h1, h2.step kl⟩
    · cases h
  · rcases gE h with ⟨h, c⟩ | ⟨c, h⟩
    · obtain ⟨b, ws, h1, h2, h3⟩ := ho i l xs h
      obtain ⟨b', _, q1, _, _, q4⟩ := re.own i l xs h
      rw [h1] at q1; cases q1
      exact ⟨b, ws, gS h1, h2, h3.step kl, q4⟩
    · cases h
      subst c
      exact ⟨a, vs, lS, ha, Rps.step kl (by assumption), ⟨fun z => absurd z (by decide), fun z => absurd z hb⟩⟩
  · rcases gE h1 with ⟨h1, c1⟩ | ⟨c1, h1⟩
    · rcases gE h2 with ⟨h2, c2⟩ | ⟨c2, h2⟩
      · exact re.inj i j l m xs ys b h1 h2 (gS' c1 h3) (gS' c2 h4)
      · subst c2
        rw [lS] at h4; cases h4
        exact absurd (.inr ⟨i, l, xs, h1, gS' c1 h3⟩) hn
    · rcases gE h2 with ⟨h2, c2⟩ | ⟨c2, h2⟩
      · subst c1
        rw [lS] at h3; cases h3
        exact absurd (.inr ⟨j, m, ys, h2, gS' c2 h4⟩) hn
      · rw [c1, c2]
theorem RE.pad (re : RE K B H S E) (n : Nat) : RE K B H (S ++ List.replicate n none) (E ++ List.replicate n none) ∧ (∀ b, Ow B (S ++ List.replicate n none) (E ++ List.replicate n none) b → Ow B S E b) := by
  have gE : ∀ {i : Nat} {u : U}, (E ++ List.replicate n none)[i]? = some (some u) → E[i]? = some (some u) ∧ i < E.length := fun {i u} h => by
    rcases Nat.lt_or_ge i E.length with c | c
    · rw [List.getElem?_append_left c] at h; exact ⟨h, c⟩
    · rw [List.getElem?_append_right c] at h
      have := List.mem_of_getElem? h
      rw [List.mem_replicate] at this
      cases this.2
  have gS : ∀ {i : Nat} {x : Option V}, S[i]? = some x → (S ++ List.replicate n none)[i]? = some x := fun {i x} h => pre_get ⟨_, rfl⟩ h
  have gS' : ∀ {i : Nat} {x : Option V}, i < E.length → (S ++ List.replicate n none)[i]? = some x → S[i]? = some x := fun {i x} c h => by
    rw [List.getElem?_append_left (by rw [re.len]; exact c)] at h; exact h
  have ow : ∀ b, Ow B (S ++ List.replicate n none) (E ++ List.replicate n none) b → Ow B S E b := fun b z => z.imp id fun ⟨i, k, xs, h1, h2⟩ => ⟨i, k, xs, (gE h1).1, gS' (gE h1).2 h2⟩
  have kl : Kp (Ow B S E) (Ow B (S ++ List.replicate n none) (E ++ List.replicate n none)) H H := Kp.less ow
  refine ⟨⟨by simp [re.len], fun i t h => ?_, fun i l xs h => ?_, fun i j l m xs ys b h1 h2 h3 h4 => ?_, re.bd⟩, ow⟩
  · obtain ⟨v, h1, h2⟩ := re.pure i t (gE h).1
    exact ⟨v, gS h1, h2.step kl⟩
  · obtain ⟨b, ws, h1, h2, h3, h4⟩ := re.own i l xs (gE h).1
    exact ⟨b, ws, gS h1, h2, h3.step kl, h4⟩
  · exact re.inj i j l m xs ys b (gE h1).1 (gE h2).1 (gS' (gE h1).2 h3) (gS' (gE h2).2 h4)
end
inductive A where
  | v (t : T) | b (xs : List T)
inductive RV where
  | v (t : T) | l (xs : List T)
noncomputable abbrev SpT := List A → (RV → List T → Prop) → Prop
noncomputable def enA : List A → En
  | [] => []
  | .v t :: r => some (.p t) :: enA r
  | .b xs :: r => some (.o true xs) :: enA r
theorem enA_length : ∀ {as : List A}, (enA as).length = as.length
  | [] => rfl
  | .v t :: r => by simp [enA, enA_length (as := r)]
  | .b t :: r => by simp [enA, enA_length (as := r)]
noncomputable def boxIn : List A → Option Nat
  | [] => none
  | .b _ :: _ => some 0
  | .v _ :: r => (boxIn r).map (· + 1)
noncomputable def RRv (K : PySem.W.Frag) (H H' : Hp) : RV → V → Prop
  | .v t, v => Rp K H' (LstOf H) t v
  | .l xs, v => ∃ a ws, v = .ref a ∧ H a = none ∧ H' a = some (.lst ws) ∧ Rps K H' (fun b => LstOf H b ∨ b = a) xs ws
noncomputable def spOf (K : PySem.W.Frag) (S : SpT) : Sp := fun vs H Q _ => ∃ (as : List A) (Q' : RV → List T → Prop) (bx : Option Addr), RE K (fun a => bx = some a) H (vs.map some) (enA as) ∧ (boxIn as = none → bx = none) ∧ S as Q' ∧
  ∀ r xs v H', Q' r xs → (∀ b o, H b = some o → bx ≠ some b → H' b = some o) → (∀ a, bx = some a → ∃ ws, H' a = some (.lst ws) ∧ Rps K H' (LstOf H') xs ws) → RRv K H H' r v → Q v H'
noncomputable def bxEnd (as : List A) (E : En) : Option (List T) := match boxIn as with
  | none => some []
  | some j => match E[j]? with
    | some (some (.o true xs)) => if noLs xs = true then some xs else none
    | _ => none
noncomputable def endT (as : List A) (Q : RV → List T → Prop) : ET where
  nx := fun E => o1 (bxEnd as E) fun xs => Q (.v .non) xs
  rt := fun r E => o1 (bxEnd as E) fun xs => match r with
    | .p t => noL t = true ∧ Q (.v t) xs
    | .s i => match E[i]? with
      | some (some (.o false ys)) => noLs ys = true ∧ Q (.l ys) xs
      | some (some (.p t)) => noL t = true ∧ Q (.v t) xs
      | _ => False
theorem enA_k : ∀ {as : List A} {j : Nat} {k : Bool} {xs : List T}, (enA as)[j]? = some (some (.o k xs)) → k = true
  | [], j, _, _, h => by simp [enA] at h
  | .b _ :: _, 0, _, _, h => by simp [enA] at h; exact h.1
  | .v _ :: _, 0, _, _, h => by simp [enA] at h
  | .b _ :: r, j + 1, _, _, h => enA_k (as := r) (j := j) (by simpa [enA] using h)
  | .v _ :: r, j + 1, _, _, h => enA_k (as := r) (j := j) (by simpa [enA] using h)
section
variable {P : Program} {w : World} {K : PySem.W.Frag} {mg : Str → Option Value} {base : Heap}
theorem Fun.okT {x qual : Str} {st : Stmt} {f : Addr} {fd : FuncData} {N ps : List Str} {k : Nat} {S : SpT} {F : FS} (Fn : Fun K x qual st f fd) (Sc : FnScope N ps (defScope st)) (len : ∀ as Q, S as Q → as.length = ps.length)
    (hb : ∀ (cdv : Value) (A : Around) (outer : List Env) (s : Shared) (H : Hp) (E : XK), Room k (A.deeper (envOfC qual (defScope st) s.heap.objs.size f cdv)) → QB (cxOf CX0 P w K mg base N qual (defScope st) f cdv A outer s H E).nox (defBody st) (simS K F))
    (hF : ∀ as Q, S as Q → F (endT as Q) (enA as ++ List.replicate (N.length - as.length) none)) : FnOk P w K mg base CX0 (k + 1) f fd ps (spOf K S) := by
  refine Fn.okQ Sc (fun vs H Q E ⟨as, Q', bx, re, hbn, hS, l⟩ => ?_) (fun cdv A outer s H vs Q E hr ⟨as, Q', bx, re, hbn, hS, l⟩ => ?_)
  · have := re.len
    rw [List.length_map, enA_length] at this
    rw [this]; exact len as Q' hS
  have hl : vs.length = as.length := by have := re.len; rwa [List.length_map, enA_length] at this
  refine ⟨_, hb cdv A outer s H E hr, ?_⟩
  obtain ⟨re0, ow0⟩ := re.pad (N.length - as.length)
  have hst : start N vs = vs.map some ++ List.replicate (N.length - as.length) none := by unfold start; rw [hl]
  rw [hst]
  -- the box's address
  have own0 : ∀ b, Ow (fun a => bx = some a) (vs.map some) (enA as) b → bx = some b := fun b z => by
    rcases z with z | ⟨i, kk, xs, h1, h2⟩
    · exact z
    obtain ⟨a, ws, q1, _, _, q4⟩ := re.own i kk xs h1
    rw [h2] at q1; cases q1
    exact q4.mp (enA_k h1)
  have fr : ∀ {H' : Hp} {S' : St} {E' : En}, Gs (fun a => bx = some a) H (vs.map some ++ List.replicate (N.length - as.length) none) (enA as ++ List.replicate (N.length - as.length) none) H' S' E' → ∀ b o, H b = some o → bx ≠ some b → H' b = some o := fun g b o h n => g.keep b o h fun z => n (own0 b (ow0 b z))
  have fin : ∀ {r : RV} {xs : List T} {v : V} {H' : Hp} {S' : St} {E' : En}, bxEnd as E' = some xs → Q' r xs → Gs (fun a => bx = some a) H (vs.map some ++ List.replicate (N.length - as.length) none) (enA as ++ List.replicate (N.length - as.length) none) H' S' E' → RE K (fun a => bx = some a) H' S' E' →
      ((∀ a, LstOf H a → LstOf H' a) → RRv K H H' r v) → Q v H' := fun {r xs v H' S' E'} e q g re' hr => by
    have hbx : ∀ a, bx = some a → ∃ ws, H' a = some (.lst ws) ∧ Rps K H' (LstOf H') xs ws := fun a ha => by
      unfold bxEnd at e
      cases qb : boxIn as with
      | none =>
        rw [qb] at e; cases e
        rw [hbn qb] at ha; cases ha
      | some j =>
        rw [qb] at e
        simp only at e
        split at e
        · rename_i ys hE
          split at e
          · cases e
            rename_i hnl
            obtain ⟨b, ws, h1, h2, h3, h4⟩ := re'.own j true xs hE
            have : bx = some b := h4.mp rfl
            rw [ha] at this; cases this
            exact ⟨ws, h2, Rps.noL (fun _ z => z) hnl h3⟩
          · cases e
        · cases e
    refine l r xs v H' q (fr g) hbx (hr fun a ⟨ws, ha⟩ => ?_)
    by_cases c : bx = some a
    · obtain ⟨ws', h, _⟩ := hbx a c; exact ⟨ws', h⟩
    · exact ⟨ws, fr g a _ ha c⟩
  refine ⟨_, _, _, re0, hF as Q' hS, ⟨fun σ' H' E' q g re' => ?_, fun r E' v H' S' q g re' rr => ?_, fun _ _ _ z => z.elim, fun _ _ _ z => z.elim⟩⟩
  · obtain ⟨xs, e, q⟩ := q.ex
    exact fin e q g re' fun _ => rfl
  · obtain ⟨xs, e, q⟩ := q.ex
    cases r with
    | p t => exact fin e q.2 g re' fun h => Rp.noL h q.1 rr
    | s i =>
      simp only at q
      split at q
      · rename_i ys hE
        refine fin e q.2 g re' fun h => ?_
        obtain ⟨b, ws, h1, h2, h3, h4⟩ := re'.own i false ys hE
        have rr' : S'[i]? = some (some v) := rr
        rw [rr'] at h1; cases h1
        refine ⟨b, ws, rfl, ?_, h2, Rps.noL (fun a z => ?_) q.1 h3⟩
        · rcases g.new b (.inr ⟨i, false, ys, hE, rr'⟩) with z | z
          · have := h4.mpr (own0 b (ow0 b z)); cases this
          · exact z
        · rcases z with z | z
          · exact h a z
          · exact ⟨ws, by rw [z]; exact h2⟩
      · rename_i t hE
        obtain ⟨w, h1, h2⟩ := re'.pure i t hE
        have rr' : S'[i]? = some (some v) := rr
        rw [rr'] at h1; cases h1
        exact fin e q.2 g re' fun h => Rp.noL h q.1 h2
      · exact q.elim
end
noncomputable def mkV (E : En) : List R → Option (List T)
  | [] => some []
  | r :: rs => match vl E r, mkV E rs with
    | some t, some ts => some (t :: ts)
    | _, _ => none
noncomputable def told (E : En) (Q : R → En → Prop) : RV → Prop
  | .v t => Q (.p t) E
  | .l xs => Q (.s E.length) (E ++ [some (.o false xs)])
noncomputable def fCall (S : SpT) (Fr : FA) : FE := fun E Q => Fr E fun rs E1 => o1 (mkV E1 rs) fun ts => S (ts.map A.v) fun r _ => told E1 Q r
noncomputable def fCallB (S : SpT) (Fr : FA) : FE := fun E Q => Fr E fun rs E1 => match rs with
  | .s j :: rs => (match E1[j]? with
    | some (some (.o k xs)) => cond (rs.all fun r => !(usd E1 r).contains j) (o1 (mkV E1 rs) fun ts => S (.b xs :: ts.map A.v) fun r ys => told (E1.set j (some (.o k ys))) Q r) False
    | _ => False)
  | _ => False
section
variable {K : PySem.W.Frag} {B : Addr → Prop} {H H' : Hp} {S S' : St} {E E' : En} {σ : St}
theorem mkV_ok (re : RE K B H S E) : ∀ {rs : List R} {vs : List V} {ts : List T}, RRs K B H S E rs vs → mkV E rs = some ts → ∀ (O : Addr → Prop), (∀ b, O b → Ow B S E b) → (∀ r ∈ rs, ∀ j ∈ usd E r, ∀ a, S[j]? = some (some (.ref a)) → ¬ O a) → Rps K H O ts vs
  | [], _, _, h, e, _, _, _ => by cases e; exact h
  | r :: rs, _, ts, ⟨v, ws, e1, h1, h2⟩, e, O, hO, hu => by
    cases q1 : vl E r with
    | none => simp only [mkV, q1] at e; cases e
    | some t =>
      cases q2 : mkV E rs with
      | none => simp only [mkV, q1, q2] at e; cases e
      | some us =>
        simp only [mkV, q1, q2] at e; cases e
        exact ⟨v, ws, e1, rd_of re h1 q1 O hO (hu r (by simp)), mkV_ok re h2 q2 O hO fun r' hr => hu r' (by simp [hr])⟩
theorem enA_v : ∀ {ts : List T}, enA (ts.map A.v) = ts.map fun t => some (U.p t)
  | [] => rfl
  | t :: ts => by simp [enA, enA_v (ts := ts)]
theorem told_ok (re : RE K B H S E) (re' : RE K B H' S E') (hk : ∀ b o, H b = some o → ¬ Ow B S E b → H' b = some o) (hw : ∀ b, Ow B S E' b → Ow B S E b)
    (hE : ∀ (i : Nat) (k : Bool) (xs : List T), E'[i]? = some (some (.o k xs)) → (E[i]? = some (some (.o k xs)) ∧ ∀ a, S[i]? = some (some (.ref a)) → H' a = H a) ∨ ∀ a ws, S[i]? = some (some (.ref a)) → H' a = some (.lst ws) → Rps K H' (LstOf H') xs ws)
    (hP : ∀ (i : Nat) (t : T), E'[i]? = some (some (.p t)) → E[i]? = some (some (.p t)))
    {r : RV} {v : V} (rv : RRv K H H' r v) {Q : R → En → Prop} (q : told E' Q r) {Qv : VK} (lk : Lk K B H S E Q Qv) : Qv v H' := by
  have kp : Kp (Ow B S E) (Ow B S E') H H' := ⟨hk, fun b z => .inl (hw b z)⟩
  cases r with
  | v t => exact lk _ _ _ _ _ q ⟨kp, [], by simp⟩ re' (Rp.step (Kp.less fun b z => re.ow (hw b z)) rv)
  | l xs =>
    obtain ⟨a, ws, rfl, h1, h2, h3⟩ := rv
    have nOw : ¬ Ow B S E' a := fun z => re.nn h1 (hw a z)
    have nB : ¬ B a := fun z => re.nn h1 (.inl z)
    have kp2 : Kp (Ow B S E) (fun b => Ow B S E' b ∨ b = a) H H' := ⟨hk, fun b z => by
      rcases z with z | z
      · exact .inl (hw b z)
      · exact .inr (by rw [z]; exact h1)⟩
    obtain ⟨r1, r2⟩ := re'.push h2 nOw nB (fun i t h => by
        obtain ⟨w, q1, q2⟩ := re.pure i t (hP i t h)
        exact ⟨w, q1, q2.step kp2⟩) (fun i k ys h => by
        obtain ⟨b, us, q1, q2, q3, _⟩ := re'.own i k ys h
        refine ⟨b, us, q1, q2, ?_⟩
        rcases hE i k ys h with ⟨z, zz⟩ | z
        · obtain ⟨b', us', p1, p2, p3, _⟩ := re.own i k ys z
          rw [q1] at p1; cases p1
          have e := zz b q1
          rw [q2, p2] at e; cases e
          exact p3.step kp2
        · exact (z b us q1 q2).step (Kp.less fun c hc => by
            rcases hc with hc | hc
            · exact re'.ow hc
            · exact ⟨ws, by rw [hc]; exact h2⟩)) (h3.step (Kp.less fun b z => by
        rcases z with z | z
        · exact .inl (re.ow (hw b z))
        · exact .inr z))
    refine lk _ _ _ _ _ q ⟨⟨hk, fun b z => ?_⟩, [some (.ref a)], rfl⟩ r1 ?_
    · rcases r2 b z with z | z
      · exact .inl (hw b z)
      · exact .inr (by rw [z]; exact h1)
    · show (S ++ [some (V.ref a)])[E'.length]? = _
      rw [← re'.len]; simp
end
section
variable {X : Cx} {K : PySem.W.Frag} {pos : Pos} {e : Expr} {es : List Expr} {Fr : FA}
theorem fe_call {n k j : Nat} {x : Str} {ps : List Str} {S : SpT} {p : Pos} (F : Fn X.prog X.w X.K X.mg X.base k x ps (spOf K S)) (hr : Room j X.A) (hk : k ≤ j) (hg : Gl X x) (ha : QA X (e :: es) (simA K n Fr)) (hdb : (x == ("__debug__" : Str)) = false := by decide)
    (hs : noStar (e :: es) = true := by rfl) : QE X (.Call (.Name x p) (e :: es) [] pos) (simE K (fCall S Fr)) := by
  refine (qe_fnS F hr hk hg ha hdb hs).le fun σ H Q hl h => args (Fr := Fr) h fun B S' E rs vs H2 Q' hS re rr hn q lk => ?_
  obtain ⟨ts, e1, q⟩ := q.ex
  rw [List.append_nil]
  have rp := mkV_ok re rr e1 (fun _ => False) (fun _ z => z.elim) (fun _ _ _ _ _ _ z => z)
  have no : ∀ b, ¬ Ow (fun a => (none : Option Addr) = some a) (vs.map some) (ts.map fun t => some (U.p t)) b := fun b z => by
    rcases z with z | ⟨i, k, xs, h1, _⟩
    · cases z
    rw [List.getElem?_map] at h1
    cases q : ts[i]? with
    | none => rw [q] at h1; cases h1
    | some t => rw [q] at h1; cases h1
  refine ⟨ts.map A.v, _, none, ?_, fun _ => rfl, q, fun r xs v H' q2 fr _ rv => ?_⟩
  · rw [enA_v]
    refine ⟨by simp [rp.length], fun i t h => ?_, fun i k xs h => ?_, fun i j k l xs ys a h _ _ _ => ?_, fun a z => by cases z⟩
    · rw [List.getElem?_map] at h
      cases q : ts[i]? with
      | none => rw [q] at h; cases h
      | some u =>
        rw [q] at h; cases h
        obtain ⟨v, h1, h2⟩ := rp.get q
        exact ⟨v, by rw [List.getElem?_map, h1]; rfl, h2.step (Kp.less fun b z => no b z)⟩
    · rw [List.getElem?_map] at h
      cases q : ts[i]? with
      | none => rw [q] at h; cases h
      | some t => rw [q] at h; cases h
    · rw [List.getElem?_map] at h
      cases q : ts[i]? with
      | none => rw [q] at h; cases h
      | some t => rw [q] at h; cases h
  · have same : ∀ b o, H2 b = some o → H' b = some o := fun b o z => fr b o z (by intro z; cases z)
    exact told_ok re (re.kept same) (fun b o z _ => same b o z) (fun b z => z) (fun i k xs h => .inl ⟨h, fun a ha => by
      obtain ⟨a', ws, h1, h2, _⟩ := re.own i k xs h
      rw [ha] at h1; cases h1
      rw [h2]; exact same _ _ h2⟩) (fun i t h => h) rv q2 lk
theorem fe_callB {n k j : Nat} {x : Str} {ps : List Str} {S : SpT} {p : Pos} (F : Fn X.prog X.w X.K X.mg X.base k x ps (spOf K S)) (hr : Room j X.A) (hk : k ≤ j) (hg : Gl X x) (ha : QA X (e :: es) (simA K n Fr)) (hdb : (x == ("__debug__" : Str)) = false := by decide)
    (hs : noStar (e :: es) = true := by rfl) : QE X (.Call (.Name x p) (e :: es) [] pos) (simE K (fCallB S Fr)) := by
  refine (qe_fnS F hr hk hg ha hdb hs).le fun σ H Q hl h => args (Fr := Fr) h fun B S' E rs vs H2 Q' hS re rr hn q lk => ?_
  rw [List.append_nil]
  split at q
  · rename_i jb rs'
    split at q
    · rename_i kb xs hE
      cases qc : (rs'.all fun r => !(usd E r).contains jb) with
      | false => rw [qc] at q; exact q.elim
      | true =>
        rw [qc] at q
        obtain ⟨ts, e1, q⟩ := o1.ex q
        obtain ⟨v0, ws, e2, h0, h2⟩ := rr
        subst e2
        have h0' : S'[jb]? = some (some v0) := h0
        obtain ⟨a0, us, k1, k2, k3, k4⟩ := re.own jb kb xs hE
        rw [h0'] at k1; cases k1
        have ow0 : Ow B S' E a0 := .inr ⟨jb, kb, xs, hE, h0'⟩
        have rp := mkV_ok re h2 e1 (fun b => b = a0) (fun b z => by rw [z]; exact ow0) (fun r hr m hm a hma z => by
          subst z
          have c := List.all_eq_true.mp qc r hr
          have : m = jb := by
            cases r with
            | p _ => simp [usd] at hm
            | s l =>
              cases ql : E[l]? with
              | none => simp [usd, ql] at hm
              | some u =>
                cases u with
                | none => simp [usd, ql] at hm
                | some u =>
                  cases u with
                  | p _ => simp [usd, ql] at hm
                  | o kk zs =>
                    simp [usd, ql] at hm
                    subst hm
                    exact re.inj _ _ kk kb zs xs a ql hE hma h0'
          subst this
          have hc : (usd E r).contains m = true := by simpa using hm
          rw [hc] at c; cases c)
        have get : ∀ {i : Nat} {u : U}, (some (U.o true xs) :: ts.map fun t => some (U.p t))[i]? = some (some u) → (i = 0 ∧ u = .o true xs) ∨ ∃ m t, i = m + 1 ∧ ts[m]? = some t ∧ u = .p t := fun {i u} h => by
          cases i with
          | zero => simp at h; exact .inl ⟨rfl, h.symm⟩
          | succ m =>
            rw [List.getElem?_cons_succ, List.getElem?_map] at h
            cases q : ts[m]? with
            | none => rw [q] at h; cases h
            | some t => rw [q] at h; cases h; exact .inr ⟨m, t, rfl, q, rfl⟩
        have ow : ∀ b, Ow (fun a => some a0 = some a) ((V.ref a0 :: ws).map some) (some (U.o true xs) :: ts.map fun t => some (U.p t)) b → b = a0 := fun b z => by
          rcases z with z | ⟨i, k, ys, h1, h3⟩
          · cases z; rfl
          rcases get h1 with ⟨c, z⟩ | ⟨m, t, _, _, z⟩
          · subst c; simp at h3; exact h3.symm
          · cases z
        have nb : boxIn (A.b xs :: ts.map A.v) ≠ none := by intro z; cases z
        refine ⟨A.b xs :: ts.map A.v, _, some a0, ?_, fun z => absurd z nb, q, fun r ys v H' q2 fr bxk rv => ?_⟩
        · have ee : enA (A.b xs :: ts.map A.v) = some (U.o true xs) :: ts.map fun t => some (U.p t) := by simp [enA, enA_v]
          rw [ee]
          refine ⟨by simp [rp.length], fun i t h => ?_, fun i k zs h => ?_, fun i j k l zs ys a h1 h3 _ _ => ?_, fun a z => by cases z; exact ⟨us, k2⟩⟩
          · rcases get h with ⟨_, z⟩ | ⟨m, t', e, q3, z⟩
            · cases z
            · cases z; subst e
              obtain ⟨v, h1, h2⟩ := rp.get q3
              exact ⟨v, by simp [h1], h2.step (Kp.less fun b z => ow b z)⟩
          · rcases get h with ⟨c, z⟩ | ⟨m, t', e, q3, z⟩
            · cases z; subst c
              exact ⟨a0, us, by simp, k2, k3.step (Kp.less fun b z => by rw [ow b z]; exact ow0), ⟨fun _ => rfl, fun _ => rfl⟩⟩
            · cases z
          · rcases get h1 with ⟨c, z⟩ | ⟨m, t', e, q3, z⟩
            · rcases get h3 with ⟨c', z'⟩ | ⟨m, t', e, q3, z'⟩
              · rw [c, c']
              · cases z'
            · cases z
        · obtain ⟨ws', b1, b2⟩ := bxk a0 rfl
          have hk : ∀ b o, H2 b = some o → ¬ Ow B S' E b → H' b = some o := fun b o z n => fr b o z (by intro c; cases c; exact n ow0)
          have lts : ∀ b, Ow B S' E b → LstOf H' b := fun b z => by
            by_cases c : b = a0
            · subst c; exact ⟨ws', b1⟩
            · obtain ⟨us', e⟩ := re.ow z
              exact ⟨us', fr b _ e (by intro z; cases z; exact c rfl)⟩
          have getE : ∀ {i : Nat} {u : U}, (E.set jb (some (.o kb ys)))[i]? = some (some u) → (i = jb ∧ u = .o kb ys) ∨ (i ≠ jb ∧ E[i]? = some (some u)) := fun {i u} h => by
            by_cases c : i = jb
            · subst c
              rw [List.getElem?_set_self (List.getElem?_eq_some_iff.mp hE).1] at h
              cases h; exact .inl ⟨rfl, rfl⟩
            · rw [List.getElem?_set_ne (fun z => c z.symm)] at h; exact .inr ⟨c, h⟩
          have kp : Kp (Ow B S' E) (Ow B S' E) H2 H' := ⟨hk, fun b z => .inl z⟩
          have owE : ∀ b, Ow B S' (E.set jb (some (.o kb ys))) b → Ow B S' E b := fun b z => by
            rcases z with z | ⟨i, k, zs, z1, z2⟩
            · exact .inl z
            rcases getE z1 with ⟨c, z⟩ | ⟨c, z⟩
            · subst c; exact .inr ⟨_, kb, xs, hE, z2⟩
            · exact .inr ⟨i, k, zs, z, z2⟩
          have re' : RE K B H' S' (E.set jb (some (.o kb ys))) := by
            refine re.step hk (by simp) (fun i t h => ?_) (fun i k zs h => ?_) (fun a z => ?_)
            · rcases getE h with ⟨_, z⟩ | ⟨_, z⟩
              · cases z
              · exact z
            · rcases getE h with ⟨c, z⟩ | ⟨c, z⟩
              · cases z; subst c
                refine ⟨xs, hE, fun a ha => ?_⟩
                rw [h0'] at ha; cases ha
                exact ⟨ws', b1, b2.step (Kp.less lts)⟩
              · refine ⟨zs, z, fun a ha => ?_⟩
                obtain ⟨a', us', p1, p2, p3, _⟩ := re.own i k zs z
                rw [ha] at p1; cases p1
                have na : a ≠ a0 := fun w => c (re.inj i jb k kb zs xs a0 z hE (by rw [← w]; exact ha) h0')
                exact ⟨us', fr a _ p2 (by intro w; cases w; exact na rfl), p3.step kp⟩
            · exact lts a (.inl z)
          refine told_ok re re' hk owE (fun i k zs h => ?_) (fun i t h => ?_) rv q2 lk
          · rcases getE h with ⟨c, z⟩ | ⟨c, z⟩
            · cases z
              right
              intro a us2 ha hu
              subst c
              rw [h0'] at ha; cases ha
              rw [b1] at hu; cases hu
              exact b2
            · left
              refine ⟨z, fun a ha => ?_⟩
              obtain ⟨a', us', p1, p2, p3, _⟩ := re.own i k zs z
              rw [ha] at p1; cases p1
              have na : a ≠ a0 := fun w => c (re.inj i jb k kb zs xs a0 z hE (by rw [← w]; exact ha) h0')
              rw [p2]; exact fr a _ p2 (by intro w; cases w; exact na rfl)
          · rcases getE h with ⟨_, z⟩ | ⟨_, z⟩
            · cases z
            · exact z
    · exact q.elim
  · exact q.elim
end
end L2
set_option Elab.async false
set_option linter.all false
set_option maxRecDepth 100000
set_option maxHeartbeats 4000000
namespace L2
open PySem PySem.Spec PyProof.Rows
noncomputable def capU (bk : Bool) : Option (Option U) → Option U
  | some (some (.p t)) => some (.p t)
  | some (some (.o _ xs)) => if bk = true then some (.o true xs) else some (.p (.lst xs))
  | _ => none
noncomputable def capE (t : Nat) (cap : List (Nat × Bool)) (E : En) : En := List.replicate t none ++ cap.map fun k => capU k.2 E[k.1]?
noncomputable def boxOf : List (Nat × Bool) → Option (Nat × Nat)
  | [] => none
  | (k, true) :: _ => some (0, k)
  | (_, false) :: r => (boxOf r).map fun x => (x.1 + 1, x.2)
noncomputable def oneBox (cap : List (Nat × Bool)) : Bool := Nat.ble (cap.filter (·.2)).length 1
noncomputable def wback (t : Nat) (cap : List (Nat × Bool)) (Ein E : En) : Option En := match boxOf cap with
  | none => some E
  | some (j, k) => match E[k]?, Ein[t + j]? with
    | some (some (.o b _)), some (some (.o true ys)) => if noLs ys = true then some (E.set k (some (.o b ys))) else none
    | some (some (.p _)), _ => some E
    | _, _ => none
noncomputable def compL (g : FG) (Fe : FE) : List T → En → (En → Prop) → Prop
  | [], E, Q => Q E
  | x :: xs, E, Q => g x E fun E2 => Fe E2 fun r E3 => match r with
    | .p t => (match E3[E.length - 1]? with
      | some (some (.o false acc)) => acc.length < 1000 ∧ compL g Fe xs ((E3.set (E.length - 1) (some (.o false (acc ++ [t])))).take E.length) Q
      | _ => False)
    | .s _ => False
noncomputable def fComp (t : Nat) (cap : List (Nat × Bool)) (I : FI) (g : FG) (Fe : FE) : FE := fun E Q => I E fun items us E1 => cap.all (fun k => !(k.2 && us.contains k.1)) = true ∧
  compL g Fe items (capE t cap E1 ++ [some (.o false [])]) fun Ein => match Ein[t + cap.length]? with
    | some (some (.o false zs)) => noLs zs = true ∧ o1 (wback t cap Ein E1) fun E2 => Q (.s E2.length) (E2 ++ [some (.o false zs)])
    | _ => False
section
variable {K : PySem.W.Frag} {B : Addr → Prop} {H H' : Hp} {S S' : St} {E E' : En} {σ : St}
theorem capE_get {t : Nat} {cap : List (Nat × Bool)} {i : Nat} {u : U} (h : (capE t cap E)[i]? = some (some u)) : ∃ j k b, i = t + j ∧ cap[j]? = some (k, b) ∧ capU b E[k]? = some u := by
  unfold capE at h
  rcases Nat.lt_or_ge i t with c | c
  · rw [List.getElem?_append_left (by simpa using c)] at h
    have := List.mem_of_getElem? h
    rw [List.mem_replicate] at this
    cases this.2
  · rw [List.getElem?_append_right (by simpa using c), List.length_replicate, List.getElem?_map] at h
    cases q : cap[i - t]? with
    | none => rw [q] at h; cases h
    | some x =>
      rw [q] at h
      exact ⟨i - t, x.1, x.2, by omega, q, by simpa using h⟩
theorem capS_get {t : Nat} {cap : List (Nat × Bool)} {j k : Nat} {b : Bool} (h : cap[j]? = some (k, b)) : (capS t (cap.map (·.1)) σ)[t + j]? = some ((σ[k]?).join) := by
  unfold capS
  rw [List.getElem?_append_right (by simp)]
  simp [h]
theorem boxOf_some : ∀ {cap : List (Nat × Bool)} {j k : Nat}, boxOf cap = some (j, k) → cap[j]? = some (k, true)
  | (k, true) :: r, _, _, h => by cases h; rfl
  | (m, false) :: r, j, k, h => by
    cases q : boxOf r with
    | none => rw [boxOf, q] at h; cases h
    | some x =>
      rw [boxOf, q] at h
      cases h
      simpa using boxOf_some (j := x.1) (k := x.2) q
theorem boxOf_only : ∀ {cap : List (Nat × Bool)} {j k : Nat}, oneBox cap = true → cap[j]? = some (k, true) → boxOf cap = some (j, k)
  | [], j, k, _, h => by simp at h
  | (m, true) :: r, 0, k, _, h => by simp at h; subst h; rfl
  | (m, true) :: r, j + 1, k, ho, h => by
    have h' : r[j]? = some (k, true) := by simpa using h
    have : (k, true) ∈ r.filter (·.2) := List.mem_filter.mpr ⟨List.mem_of_getElem? h', rfl⟩
    have hl : 0 < (r.filter (·.2)).length := List.length_pos_of_mem this
    unfold oneBox at ho
    rw [List.filter_cons_of_pos (by rfl)] at ho
    have := Nat.le_of_ble_eq_true ho
    simp only [List.length_cons] at this
    omega
  | (m, false) :: r, 0, k, _, h => by simp at h
  | (m, false) :: r, j + 1, k, ho, h => by
    have h' : r[j]? = some (k, true) := by simpa using h
    have ho' : oneBox r = true := by
      unfold oneBox at ho ⊢
      rw [List.filter_cons_of_neg (by simp)] at ho
      exact ho
    rw [boxOf, boxOf_only ho' h']; rfl
end
section
variable {X : Cx} {K : PySem.W.Frag} {pos : Pos} {Fe : FE} {g : FG} {I : FI}
theorem comp_sim {scope : Scope} {N' : List Str} {cap : List (Nat × Bool)} {t : Nat} (S : CompOk X N' scope t (cap.map (·.1))) (ho : oneBox cap = true) (hnd : (cap.map (·.1)).Nodup) {σ : St} {H : Hp} {Q : VK} (hl : σ.length = X.N.length)
    (h : simE K (fComp t cap I g Fe) σ H Q) : tComp t (cap.map (·.1)) (simI K I) (simG K g) (simE K Fe) σ H Q := by
  obtain ⟨B, S0, E, Q', hS, re, hF, lk⟩ := h
  refine ⟨B, S0, E, _, hS, re, hF, fun J items us E1 H1 S1 gd q g1 re1 ok husO hgd D hD => ?_⟩
  obtain ⟨hus, q⟩ := q
  obtain ⟨τ0, hS0⟩ := hS
  obtain ⟨τ1, hS1⟩ := g1.pre
  have hS1' : ∃ τ, S1 = σ ++ τ := ⟨τ0 ++ τ1, by rw [hS1, hS0, List.append_assoc]⟩
  have atσ : ∀ {j k : Nat} {b : Bool} {v : V}, cap[j]? = some (k, b) → S1[k]? = some (some v) → σ[k]? = some (some v) := fun {j k b v} hj hv => by
    obtain ⟨x, _, hx, _⟩ := S.caps j k (by rw [List.getElem?_map, hj]; rfl)
    have hk : k < σ.length := by rw [hl]; exact (List.getElem?_eq_some_iff.mp hx).1
    obtain ⟨τ, rfl⟩ := hS1'
    rw [List.getElem?_append_left hk] at hv; exact hv
  have atC : ∀ {j k : Nat} {b : Bool} {v : V}, cap[j]? = some (k, b) → S1[k]? = some (some v) → (capS t (cap.map (·.1)) σ)[t + j]? = some (some v) := fun {j k b v} hj hv => by rw [capS_get hj, atσ hj hv]; rfl
  have backC : ∀ {j k : Nat} {b : Bool} {v : V}, cap[j]? = some (k, b) → (capS t (cap.map (·.1)) σ)[t + j]? = some (some v) → S1[k]? = some (some v) := fun {j k b v} hj hv => by
    rw [capS_get hj] at hv
    have : σ[k]? = some (some v) := by
      cases z : σ[k]? with
      | none => rw [z] at hv; cases hv
      | some y => rw [z] at hv; simpa using hv
    exact pre_get hS1' this
  obtain ⟨bx, hbx⟩ : ∃ bx : Option Addr, ∀ a : Addr, bx = some a ↔ ∃ (j k : Nat) (kk : Bool) (xs : List T), cap[j]? = some (k, true) ∧ E1[k]? = some (some (.o kk xs)) ∧ S1[k]? = some (some (.ref a)) := by
    by_cases hex : ∃ (a : Addr) (j k : Nat) (kk : Bool) (xs : List T), cap[j]? = some (k, true) ∧ E1[k]? = some (some (.o kk xs)) ∧ S1[k]? = some (some (.ref a))
    · obtain ⟨a, j, k, kk, xs, h1, h2, h3⟩ := hex
      refine ⟨some a, fun a' => ⟨fun z => (by cases z; exact ⟨j, k, kk, xs, h1, h2, h3⟩), fun ⟨j', k', kk', xs', p1, p2, p3⟩ => ?_⟩⟩
      have e1 := boxOf_only ho h1
      have e2 := boxOf_only ho p1
      rw [e1] at e2; cases e2
      rw [h3] at p3; cases p3; rfl
    · exact ⟨none, fun a => ⟨fun z => (by cases z), fun z => absurd ⟨a, z⟩ hex⟩⟩
  have bxOw : ∀ a, bx = some a → Ow B S1 E1 a := fun a z => by
    obtain ⟨j, k, kk, xs, _, h2, h3⟩ := (hbx a).mp z
    exact .inr ⟨k, kk, xs, h2, h3⟩
  -- an own list of the block is the box
  have capO : ∀ {i : Nat} {k : Bool} {xs : List T}, (capE t cap E1)[i]? = some (some (.o k xs)) → ∃ j m kk, i = t + j ∧ cap[j]? = some (m, true) ∧ E1[m]? = some (some (.o kk xs)) ∧ k = true := fun {i k xs} h => by
    obtain ⟨j, m, c, e1, e2, e3⟩ := capE_get h
    refine ⟨j, m, ?_⟩
    cases qE : E1[m]? with
    | none => rw [qE] at e3; cases e3
    | some u =>
      cases u with
      | none => rw [qE] at e3; cases e3
      | some u =>
        cases u with
        | p _ => rw [qE] at e3; cases e3
        | o kk ys =>
          rw [qE] at e3
          cases c
          · simp [capU] at e3
          · simp [capU] at e3
            obtain ⟨e4, e5⟩ := e3
            exact ⟨kk, e1, e2, by rw [e5], e4⟩
  have owIn : ∀ b, Ow (fun a => bx = some a) (capS t (cap.map (·.1)) σ) (capE t cap E1) b → bx = some b := fun b z => by
    rcases z with z | ⟨i, k, xs, h1, h2⟩
    · exact z
    obtain ⟨j, m, kk, e1, e2, e3, _⟩ := capO h1
    subst e1
    exact (hbx b).mpr ⟨j, m, kk, xs, e2, e3, backC e2 h2⟩
  have kl : Kp (Ow B S1 E1) (Ow (fun a => bx = some a) (capS t (cap.map (·.1)) σ) (capE t cap E1)) H1 H1 := Kp.less fun b z => bxOw b (owIn b z)
  have reIn : RE K (fun a => bx = some a) H1 (capS t (cap.map (·.1)) σ) (capE t cap E1) := by
    refine ⟨by simp [capS, capE], fun i u h => ?_, fun i k xs h => ?_, fun i j k l xs ys a h1 h2 h3 h4 => ?_, fun a z => re1.ow (bxOw a z)⟩
    · obtain ⟨j, m, c, e1, e2, e3⟩ := capE_get h
      subst e1
      cases qE : E1[m]? with
      | none => rw [qE] at e3; cases e3
      | some w =>
        cases w with
        | none => rw [qE] at e3; cases e3
        | some w =>
          cases w with
          | p w =>
            rw [qE] at e3; cases e3
            obtain ⟨v, h1, h2⟩ := re1.pure m _ qE
            exact ⟨v, atC e2 h1, h2.step kl⟩
          | o kk ys =>
            rw [qE] at e3
            cases c
            · simp [capU] at e3; subst e3
              obtain ⟨a, vs, h1, h2, h3, h4⟩ := re1.own m kk ys qE
              refine ⟨_, atC e2 h1, a, vs, rfl, .inl ⟨fun z => ?_, .inl h2⟩, h3.step kl⟩
              obtain ⟨j', k', kk', xs', p1, p2, p3⟩ := (hbx a).mp (owIn a z)
              have e4 := re1.inj m k' kk kk' ys xs' a qE p2 h1 p3
              subst e4
              have lt1 : j < (cap.map (·.1)).length := by rw [List.length_map]; exact (List.getElem?_eq_some_iff.mp e2).1
              have lt2 : j' < (cap.map (·.1)).length := by rw [List.length_map]; exact (List.getElem?_eq_some_iff.mp p1).1
              have : j = j' := (List.getElem?_inj lt1 hnd).mp (by rw [List.getElem?_map, List.getElem?_map, e2, p1]; rfl)
              subst this
              rw [e2] at p1; cases p1
            · simp [capU] at e3
    · obtain ⟨j, m, kk, e1, e2, e3, e4⟩ := capO h
      subst e1; subst e4
      obtain ⟨a, vs, h1, h2, h3, h4⟩ := re1.own m kk _ e3
      exact ⟨a, vs, atC e2 h1, h2, h3.step kl, ⟨fun _ => (hbx a).mpr ⟨j, m, kk, _, e2, e3, h1⟩, fun _ => rfl⟩⟩
    · obtain ⟨j1, m1, k1, e1, e2, _, _⟩ := capO h1
      obtain ⟨j2, m2, k2, e3, e4, _, _⟩ := capO h2
      have z1 := boxOf_only ho e2
      have z2 := boxOf_only ho e4
      rw [z1] at z2; cases z2
      rw [e1, e3]
  -- the accumulator gets a place
  obtain ⟨gD, reD⟩ := reIn.lst (ts := []) (vs := []) hD rfl
  have gd0 : gd (upd H1 D (.lst [])) (Ow (fun a => bx = some a) (capS t (cap.map (·.1)) σ ++ [some (.ref D)]) (capE t cap E1 ++ [some (.o false [])])) := by
    refine ok.keep _ _ _ _ gD.kp (hgd _ (fun b z => bxOw b (owIn b z)) fun j hj a ha z => ?_)
    obtain ⟨j', k', kk', xs', p1, p2, p3⟩ := (hbx a).mp (owIn a z)
    obtain ⟨kj, xj, qj⟩ := husO j hj
    have ej := re1.inj j k' kj kk' xj xs' a qj p2 ha p3
    subst ej
    have := List.all_eq_true.mp hus (j, true) (List.mem_of_getElem? p1)
    simp [hj] at this
  have hn : (capS t (cap.map (·.1)) σ).length = t + cap.length := by simp [capS]
  have hnE : (capE t cap E1 ++ [some (U.o false [])]).length = t + cap.length + 1 := by simp [capE]; omega
  -- the turns
  refine ⟨fun i m σ' H' => m = items.length - i ∧ i ≤ items.length ∧ ∃ E', compL g Fe (items.drop i) E' (fun Ein => match Ein[t + cap.length]? with
      | some (some (.o false zs)) => noLs zs = true ∧ o1 (wback t cap Ein E1) fun E2 => Q' (.s E2.length) (E2 ++ [some (.o false zs)])
      | _ => False) ∧ σ'.length = t + cap.length ∧ E'.length = t + cap.length + 1 ∧ RE K (fun a => bx = some a) H' (σ' ++ [some (.ref D)]) E' ∧
      Gs (fun a => bx = some a) (upd H1 D (.lst [])) (capS t (cap.map (·.1)) σ ++ [some (.ref D)]) (capE t cap E1 ++ [some (.o false [])]) H' (σ' ++ [some (.ref D)]) E' ∧ gd H' (Ow (fun a => bx = some a) (σ' ++ [some (.ref D)]) E'),
    ⟨_, rfl, Nat.zero_le _, _, q, hn, hnE, reD, Kp.refl _ _, gd0⟩, ?_⟩
  rintro i m σ2 H2 ⟨rfl, hi', E3, q3, hl3, hE3, re3, g3, gd3⟩
  rcases Nat.lt_or_ge i items.length with hlt | hge
  · have hd : items.drop i = items[i] :: items.drop (i + 1) := List.drop_eq_getElem_cons hlt
    rw [hd] at q3
    refine .inr ⟨ok.go i H2 _ gd3 hlt, fun x H4 y => ?_⟩
    obtain ⟨k4, s4, rp⟩ := ok.yld i H2 _ x H4 _ gd3 (List.getElem?_eq_getElem hlt) (fun a z => by obtain ⟨vs, e⟩ := re3.ow z; rw [e]; intro z; cases z) y
    have re4 := re3.kept s4
    have gd4 := ok.keep _ _ _ _ k4 gd3
    refine ⟨_, [some (.ref D)], E3, _, _, re4, rp, q3, fun σ5 H5 E5 q5 g5 re5 hl5 => ?_⟩
    have hE5 : E5.length = t + cap.length + 1 := by rw [← re5.len]; simp [hl5, hl3]
    refine ⟨_, σ5 ++ [some (.ref D)], E5, _, ⟨_, rfl⟩, re5, q5, fun r E6 v H6 S6 q6 g6 re6 rr6 => ?_⟩
    cases r with
    | s _ => exact q6.elim
    | p u =>
      simp only at q6
      have hlast : E3.length - 1 = t + cap.length := by omega
      rw [hlast] at q6
      split at q6
      · rename_i acc hacc
        obtain ⟨hlen, q6⟩ := q6
        obtain ⟨a6, ws, p1, p2, p3, p4⟩ := re6.own _ _ _ hacc
        have hS6 : S6[t + cap.length]? = some (some (.ref D)) := pre_get g6.pre (by rw [List.getElem?_append_right (by omega)]; simp [hl5, hl3])
        rw [hS6] at p1; cases p1
        obtain ⟨g7, re7⟩ := re6.put (ys := acc ++ [u]) (ws := ws ++ [v]) hacc hS6 (p3.append ⟨v, [], rfl, rr6, rfl⟩)
        obtain ⟨re8, ow8⟩ := re7.cut (E := E5) (σ := σ5 ++ [some (.ref D)]) (g6.trans g7).pre re5.len
        have eE : E5.length = E3.length := by omega
        rw [eE] at re8 ow8
        have gg : Gs (fun a => bx = some a) H4 (σ2 ++ [some (.ref D)]) E3 (upd H6 D (.lst (ws ++ [v]))) (σ5 ++ [some (.ref D)]) ((E6.set (t + cap.length) (some (.o false (acc ++ [u])))).take E3.length) := (g5.trans (g6.trans g7).kp).trans (Kp.less ow8)
        refine ⟨ws, p2, by rw [p3.length]; exact small1000 (Nat.le_of_lt hlen), items.length - (i + 1), by omega, rfl, hlt, _, q6, by omega, ?_, re8, (g3.trans k4).trans gg, ok.keep _ _ _ _ gg gd4⟩
        rw [List.length_take, List.length_set]
        have : E5.length ≤ E6.length := by
          obtain ⟨τ6, e6⟩ := g6.pre
          rw [← re5.len, ← re6.len, e6]; simp
        omega
      · exact q6.elim
  · have ei : i = items.length := by omega
    subst ei
    rw [List.drop_length] at q3
    refine .inl ⟨ok.stop H2 _ gd3, ?_⟩
    have q3' : (match E3[t + cap.length]? with
      | some (some (.o false zs)) => noLs zs = true ∧ o1 (wback t cap E3 E1) fun E2 => Q' (.s E2.length) (E2 ++ [some (.o false zs)])
      | _ => False) := q3
    split at q3'
    · rename_i zs hzs
      obtain ⟨hnl, q3'⟩ := q3'
      obtain ⟨E2, e2, q3'⟩ := q3'.ex
      obtain ⟨aD, ws, p1, p2, p3, p4⟩ := re3.own _ _ _ hzs
      have hSD : (σ2 ++ [some (V.ref D)])[t + cap.length]? = some (some (.ref D)) := by rw [List.getElem?_append_right (by omega)]; simp [hl3]
      rw [hSD] at p1; cases p1
      -- what is kept of the heap around
      have ow0 : ∀ b, Ow (fun a => bx = some a) (capS t (cap.map (·.1)) σ ++ [some (.ref D)]) (capE t cap E1 ++ [some (.o false [])]) b → bx = some b ∨ b = D := fun b z => by
        rcases gD.kp.new b z with z | z
        · exact .inl (owIn b z)
        · rcases reD.ow (by assumption) with ⟨us', hu⟩
          by_cases c : b = D
          · exact .inr c
          · rw [upd_ne c, z] at hu; cases hu
      have kept : ∀ b o, H1 b = some o → bx ≠ some b → H2 b = some o := fun b o e n => by
        refine g3.keep b o (by rw [upd_ne (ne_of_none e hD)]; exact e) fun z => ?_
        rcases ow0 b z with z | z
        · exact n z
        · exact ne_of_none e hD z
      have hk : ∀ b o, H1 b = some o → ¬ Ow B S1 E1 b → H2 b = some o := fun b o e n => kept b o e fun z => n (bxOw b z)
      have nD : H1 D = none := hD
      have lk1 := lk.step g1
      -- the names around
      have fin : ∀ {E2 : En}, RE K B H2 S1 E2 → (∀ b, Ow B S1 E2 b → Ow B S1 E1 b) →
          (∀ (i : Nat) (k : Bool) (xs : List T), E2[i]? = some (some (.o k xs)) → (E1[i]? = some (some (.o k xs)) ∧ ∀ a, S1[i]? = some (some (.ref a)) → H2 a = H1 a) ∨ ∀ a ws, S1[i]? = some (some (.ref a)) → H2 a = some (.lst ws) → Rps K H2 (LstOf H2) xs ws) →
          (∀ (i : Nat) (u : T), E2[i]? = some (some (.p u)) → E1[i]? = some (some (.p u))) → Q' (.s E2.length) (E2 ++ [some (.o false zs)]) → Q (.ref D) H2 := fun {E2} re' hw hE hP q => by
        refine told_ok re1 re' hk hw hE hP (r := .l zs) ⟨D, ws, rfl, hD, p2, Rps.noL (fun a z => ?_) hnl p3⟩ q lk1
        rcases z with ⟨us', z⟩ | z
        · by_cases c : bx = some a
          · exact re3.ow (.inl c)
          · exact ⟨us', kept a _ z c⟩
        · exact ⟨ws, by rw [z]; exact p2⟩
      unfold wback at e2
      cases qb : boxOf cap with
      | none =>
        rw [qb] at e2
        cases e2
        have nb : ∀ b, bx ≠ some b := fun b z => by
          obtain ⟨j, k, kk, xs, h1, _⟩ := (hbx b).mp z
          rw [boxOf_only ho h1] at qb; cases qb
        have same : ∀ b o, H1 b = some o → H2 b = some o := fun b o e => kept b o e (nb b)
        exact fin (re1.kept same) (fun b z => z) (fun i k xs h => .inl ⟨h, fun a ha => by
          obtain ⟨a', us', h1, h2, _⟩ := re1.own i k xs h
          rw [ha] at h1; cases h1
          rw [h2]; exact same _ _ h2⟩) (fun i u h => h) q3'
      | some jk =>
        obtain ⟨j, k⟩ := jk
        rw [qb] at e2
        have hj := boxOf_some qb
        simp only at e2
        split at e2
        · rename_i kb xs0 ys hE1 hEi
          split at e2
          · cases e2
            rename_i hny
            obtain ⟨a0, us0, h1, h2, h3, h4⟩ := re1.own k kb xs0 hE1
            have hbx0 : bx = some a0 := (hbx a0).mpr ⟨j, k, kb, xs0, hj, hE1, h1⟩
            obtain ⟨a', us1, r1, r2, r3, r4⟩ := re3.own _ true ys hEi
            have : bx = some a' := r4.mp rfl
            rw [hbx0] at this; cases this
            have ow1 : Ow B S1 E1 a0 := .inr ⟨k, kb, xs0, hE1, h1⟩
            have lts : ∀ b, Ow B S1 E1 b → LstOf H2 b := fun b z => by
              by_cases c : bx = some b
              · rw [hbx0] at c; cases c; exact ⟨us1, r2⟩
              · obtain ⟨us', e⟩ := re1.ow z
                exact ⟨us', kept b _ e c⟩
            have cont : Rps K H2 (LstOf H2) ys us1 := Rps.noL (fun _ z => z) hny r3
            have getE : ∀ {i : Nat} {u : U}, (E1.set k (some (.o kb ys)))[i]? = some (some u) → (i = k ∧ u = .o kb ys) ∨ (i ≠ k ∧ E1[i]? = some (some u)) := fun {i u} h => by
              by_cases c : i = k
              · subst c
                rw [List.getElem?_set_self (List.getElem?_eq_some_iff.mp hE1).1] at h
                cases h; exact .inl ⟨rfl, rfl⟩
              · rw [List.getElem?_set_ne (fun z => c z.symm)] at h; exact .inr ⟨c, h⟩
            have nk : ∀ {i : Nat} {l : Bool} {zs' : List T} {a : Addr}, i ≠ k → E1[i]? = some (some (.o l zs')) → S1[i]? = some (some (.ref a)) → bx ≠ some a := fun {i l zs' a} c z ha w => by
              rw [hbx0] at w; cases w
              exact c (re1.inj i k l kb zs' xs0 _ z hE1 ha h1)
            have owE : ∀ b, Ow B S1 (E1.set k (some (.o kb ys))) b → Ow B S1 E1 b := fun b z => by
              rcases z with z | ⟨i, l, zs', z1, z2⟩
              · exact .inl z
              rcases getE z1 with ⟨c, z⟩ | ⟨c, z⟩
              · subst c; exact .inr ⟨_, kb, xs0, hE1, z2⟩
              · exact .inr ⟨i, l, zs', z, z2⟩
            have kp : Kp (Ow B S1 E1) (Ow B S1 E1) H1 H2 := ⟨hk, fun b z => .inl z⟩
            refine fin (re1.step hk (by simp) (fun i u h => ?_) (fun i l zs' h => ?_) (fun a z => lts a (.inl z))) owE (fun i l zs' h => ?_) (fun i u h => ?_) q3'
            · rcases getE h with ⟨_, z⟩ | ⟨_, z⟩
              · cases z
              · exact z
            · rcases getE h with ⟨c, z⟩ | ⟨c, z⟩
              · cases z; subst c
                refine ⟨xs0, hE1, fun a ha => ?_⟩
                rw [h1] at ha; cases ha
                exact ⟨us1, r2, cont.step (Kp.less lts)⟩
              · refine ⟨zs', z, fun a ha => ?_⟩
                obtain ⟨a', us', p1', p2', p3', _⟩ := re1.own i l zs' z
                rw [ha] at p1'; cases p1'
                exact ⟨us', kept a _ p2' (nk c z ha), p3'.step kp⟩
            · rcases getE h with ⟨c, z⟩ | ⟨c, z⟩
              · cases z; subst c
                right
                intro a us2 ha hu
                rw [h1] at ha; cases ha
                rw [r2] at hu; cases hu
                exact cont
              · left
                refine ⟨z, fun a ha => ?_⟩
                obtain ⟨a', us', p1', p2', p3', _⟩ := re1.own i l zs' z
                rw [ha] at p1'; cases p1'
                rw [p2']; exact kept a _ p2' (nk c z ha)
            · rcases getE h with ⟨_, z⟩ | ⟨_, z⟩
              · cases z
              · exact z
          · cases e2
        · rename_i tp hE1
          cases e2
          have nb : ∀ b, bx ≠ some b := fun b z => by
            obtain ⟨j', k', kk, xs, h1, h2, _⟩ := (hbx b).mp z
            rw [boxOf_only ho h1] at qb; cases qb
            rw [hE1] at h2; cases h2
          have same : ∀ b o, H1 b = some o → H2 b = some o := fun b o e => kept b o e (nb b)
          exact fin (re1.kept same) (fun b z => z) (fun i k xs h => .inl ⟨h, fun a ha => by
            obtain ⟨a', us', h1, h2, _⟩ := re1.own i k xs h
            rw [ha] at h1; cases h1
            rw [h2]; exact same _ _ h2⟩) (fun i u h => h) q3'
        · cases e2
    · exact q3'.elim
theorem fe_comp {target elt iter : Expr} {scope : Scope} {N' : List Str} {cap : List (Nat × Bool)} {t : Nat} (hc : X.calm = true) (S : CompOk X N' scope t (cap.map (·.1))) (ho : oneBox cap = true) (hnd : (cap.map (·.1)).Nodup) (hi : QI X target iter (simI K I))
    (hg : ∀ C s3 H3 fp, QG (cxComp X N' scope C s3 H3 fp) target (simG K g)) (he : ∀ C s3 H3 fp, QE (cxComp X N' scope C s3 H3 fp) elt (simE K Fe)) (hs : ∀ x, foldedSetIterable iter X.env x = pure x := by intro _; rfl) :
    QE X (.ListComp elt [⟨target, iter, [], 0⟩] scope pos) (simE K (fComp t cap I g Fe)) :=
  (qe_comp hc S hi hg he hs).le fun σ H Q hl h => comp_sim S ho hnd hl h
end
end L2
set_option Elab.async false
set_option linter.all false
set_option maxRecDepth 100000
set_option maxHeartbeats 4000000
namespace L2
open PySem PySem.Spec PyProof.Rows
section
variable {X : Cx}
theorem ps_setC {target elt iter : Expr} {scope : Scope} {pos pos' spos : Pos} {N' : List Str} {cap : List Nat} {t ix : Nat} {xn : Str} {wi : TI} {g : TG} {te : TE} (hNn : X.N.Nodup) (hin : X.N[ix]? = some xn) (hxn : Loc X.env.scope xn) (hfn : X.fn xn = true ∨ X.env.scope.names.lookup xn = some .local)
    (hsw : swapsWith (.ListComp elt [⟨target, iter, [], 0⟩] scope pos) (some (.Name xn pos')) spos.line X.env = pure true) (hc : X.calm = true) (S : CompOk X N' scope t cap) (hi : PI X target iter wi)
    (hg : ∀ C s3 H3 fp, PG (cxComp X N' scope C s3 H3 fp) target g) (he : ∀ C s3 H3 fp, PE (cxComp X N' scope C s3 H3 fp) elt te) (hs : ∀ x, foldedSetIterable iter X.env x = pure x := by intro _; rfl) :
    PS X (.Assign [.Name xn pos'] (.ListComp elt [⟨target, iter, [], 0⟩] scope pos) spos) (tAsg (tComp t cap wi g te) (gName ix)) := by
  intro pins s σ H DD I h
  rw [exec_Assign_Name_used _ _ _ _ hsw]
  refine wpAny_bind (wpAny_standAt (wpAny_bind ?_))
  unfold evalThenUse
  refine wpAny_bind ?_
  obtain ⟨QQ, hQQ⟩ : ∃ QQ : Value → Shared → Prop, QQ = fun _ s' => ∃ σ' H', Inv X pins σ' H' s' ∧ DD.nx σ' H' := ⟨_, rfl⟩
  refine thn (Q := QQ) ?_ (fun _ s' h' => wpAny_pure (wpAny_pure (by rw [hQQ] at h'; exact h')))
  refine wpAny_comprehension_free (use := some (assign (.Name xn pos') X.env)) (cl := clOf scope X.env) rfl hs (closureFor_cl fun y hy hf => I.ok.has y.1 (S.free y hy hf)) S.kind S.names (thn (hi pins s σ H _ I h) fun v s1 h1 => thn h1 fun itv s2 h2 => ?_)
  obtain ⟨it, fp, tn, J, H2, e, I2, T, st2, f2, h2⟩ := h2
  subst e
  refine wpAny_newObj_type (wpAny_newFunctionEnv S.cell (by intro y hy; simp at hy) (fun h₁ hns₁ hsb₁ => ?_) S.kind)
  dsimp only at hns₁ hsb₁ ⊢
  obtain ⟨s3, hs3⟩ : ∃ s3 : Shared, s3 = { s2 with heap := s2.heap.push { cls := .type "list", dict := none, data := .seq ([] : List Value).toArray } } := ⟨_, rfl⟩
  have hD : H2 s2.heap.objs.size = none := I2.hok.fresh (Nat.le_refl _)
  have I3 : Inv X pins σ (upd H2 s2.heap.objs.size (.lst [])) s3 := by
    rw [hs3]
    exact I2.laid (t' := s2.toks) (fun b u e => Heap.get?_push_of_some _ e) (Nat.le_refl _) ⟨Nat.zero_le _, [], 0, .nil, Heap.get?_push_size _ rfl⟩
  have hsz3 : s3.heap.objs.size = s2.heap.objs.size + 1 := by rw [hs3]; exact Heap.size_push ..
  have old3 : ∀ b o, s2.heap.get? b = some o → s3.heap.get? b = some o := fun b o e => by rw [hs3]; exact Heap.get?_push_of_some _ e
  have hC : (s2.heap.push { cls := .type "list", dict := none, data := .seq ([] : List Value).toArray }).objs.size = s3.heap.objs.size := by rw [hs3]
  have f3 : ∀ b ∈ fp, FpOk X pins (upd H2 s2.heap.objs.size (.lst [])) b := fun b hb => by
    obtain ⟨o, ho, _⟩ := T.obj _ _ st2 b hb
    refine ⟨?_, (f2 b hb).2⟩
    rw [upd_ne (Nat.ne_of_lt (Heap.lt_size ho))]
    exact (f2 b hb).1
  have ob3 : ∀ b ∈ fp, ∃ o, s3.heap.get? b = some o := fun b hb => by
    obtain ⟨o, ho, _⟩ := T.obj _ _ st2 b hb
    exact ⟨o, old3 b o ho⟩
  have k1 : ∀ b o, s3.heap.get? b = some o → h₁.get? b = some o := fun b o e => by
    refine hsb₁.extBut b o ?_ ?_
    · rw [hC]; exact Nat.ne_of_lt (Heap.lt_size e)
    · rw [hs3] at e; exact Heap.get?_push_of_some _ e
  have hns : h₁.Ns s3.heap.objs.size fun _ => none := by
    rw [← hC]; exact hns₁
  have I4 := comp_enter (tk := s2.toks + ([] : List (Str × Value)).length) S I3 f3 ob3 hns k1
  have st4 : tn 0 h₁ := T.keep _ _ _ st2 fun b hb o e => k1 b o (old3 b o e)
  obtain ⟨W, ⟨m0, w0⟩, turn⟩ := h2 _ hD
  -- the block's context
  obtain ⟨X', hX'⟩ : ∃ X' : Cx, X' = cxComp X N' scope s3.heap.objs.size s3 (upd H2 s2.heap.objs.size (.lst [])) fp := ⟨_, rfl⟩
  have hg' : PG X' target g := by rw [hX']; exact hg _ _ _ _
  have he' : PE X' elt te := by rw [hX']; exact he _ _ _ _
  have stat : ∀ {H' : Hp}, (∀ b ∈ fp, H' b = none) → ∀ b ∈ fp, FpOk X' [] H' b := fun hn b hb => by
    obtain ⟨o, ho⟩ := ob3 b hb
    rw [hX']
    refine ⟨hn b hb, Nat.ne_of_lt (Heap.lt_size ho), ?_, .inl hb, fun x c e => (f3 b hb).2.2.2.2.1 x c (clOf_sub e), fun p hp => absurd (show p ∈ ([] : List (Addr × Obj)) from hp) (by simp)⟩
    intro hz
    rcases List.mem_cons.mp (I3.stkSub b hz) with z | z
    · exact (f3 b hb).2.1 z
    · exact (f3 b hb).2.2.1 z
  have hcalm : X'.calm = true := by rw [hX']; exact hc
  have loop : codeAny (model X.prog X.w) X.A (.compLoop (.ListComp elt [⟨target, iter, [], 0⟩] scope pos) 0 (.ref it) (.ref s2.heap.objs.size) (compEnvC scope (clOf scope X.env) s3.heap.objs.size X.env))
      (compPost (model X.prog X.w) X.A X.xe (some (assign (.Name xn pos') X.env)) QQ (.ref s2.heap.objs.size) s3.heap.objs.size) { s3 with heap := h₁, toks := s2.toks + ([] : List (Str × Value)).length } := by
    refine codeAny_compLoop_go (fun n s' => ∃ i σ' H', Inv X' [] σ' H' s' ∧ tn i s'.heap ∧ (∀ b ∈ fp, H' b = none) ∧ W i n σ' H') ?_ m0 ⟨0, capS t cap σ, _, by rw [hX']; exact I4, st4, fun b hb => (f3 b hb).1, w0⟩
    rintro n s5 ⟨i, σ5, H5, I5, st5, fr5, w5⟩
    rcases turn i n σ5 H5 w5 with ⟨stop, qn⟩ | ⟨go, step⟩
    · have q := T.done X' (by rw [hX']; rfl) (by rw [hX']; rfl) (by rw [hX']; rfl) hcalm i [] s5 σ5 H5 (fun _ _ => False) I5 (stat fr5) st5 stop
      have eA : X'.A = X.A := by rw [hX']; rfl
      rw [eA] at q
      refine thn q fun r s6 ⟨hr, I6⟩ => ?_
      subst hr
      obtain ⟨m, hn, _⟩ := I6.loc
      have hn' : s6.heap.Ns s3.heap.objs.size m := by rw [hX'] at hn; exact hn
      have un6 : Un (frs X.stack) fp (upd H2 s2.heap.objs.size (.lst [])) H5 s3.heap s6.heap := by have := I6.base; rw [hX'] at this; exact this
      have hok6 : HOk X.prog X.w H5 s6.heap := by have := I6.hok; rw [hX'] at this; exact this
      have free6 : H5 s3.heap.objs.size = none := by have := I6.free; rw [hX'] at this; exact this
      have os6 : s6.os = s3.os := by have := I6.os; rw [hX'] at this; exact this
      have I7 : Inv X pins σ H5 s6 := I3.call' (ch := fp) os6 un6 hok6 I6.bare (fun b hb => ⟨(f3 b hb).2.2.2.1, (f3 b hb).2.1, (f3 b hb).2.2.2.2.1, (f3 b hb).2.2.2.2.2⟩)
      have fC : FpOk X pins H5 s3.heap.objs.size := I3.fpOk (Nat.le_refl _) free6
      refine wpAny_assign_Name (store_ok2 I7 hNn hin hxn (v := .ref s2.heap.objs.size) rfl (fun s8 I8 ⟨a, sa, ha⟩ => ?_) hfn)
      have nC : s3.heap.objs.size ≠ a := by
        rcases ha with rfl | ha
        · exact fC.2.1
        · exact fun z => fC.2.2.2.2.1 _ _ ha z.symm
      obtain ⟨mC, hnC⟩ : ∃ m', s8.heap.Ns s3.heap.objs.size m' := ⟨m, hn'.at fun o e => sa.extBut _ _ nC e⟩
      refine ⟨mC, hnC, fun h' hs' => ?_⟩
      rw [hQQ]
      refine ⟨_, H5, I8.turnedL (t' := s8.toks) (ch := [s3.heap.objs.size]) (fun b u hb e => hs'.extBut _ _ (by simpa using hb) e) (fun b hb => by rw [List.mem_singleton.mp hb]; exact fC), qn⟩
    · have q := T.item X' (by rw [hX']; rfl) (by rw [hX']; rfl) (by rw [hX']; rfl) hcalm i [] s5 σ5 H5 (fun _ _ => False) I5 (stat fr5) st5 go
      have eA : X'.A = X.A := by rw [hX']; rfl
      have eP : X'.prog = X.prog := by rw [hX']; rfl
      have eW : X'.w = X.w := by rw [hX']; rfl
      have eE : X'.env = compEnvC scope (clOf scope X.env) s3.heap.objs.size X.env := by rw [hX']; rfl
      have eX : X'.xe = fun _ _ => False := by rw [hX']; rfl
      rw [eA] at q
      refine thn q fun r s6 ⟨u, hr, h6⟩ => ?_
      subst hr
      refine thn h6 fun _ s7 ⟨x, H7, I7, r7, y7, st7, fr7⟩ => ?_
      have I7' := I7.pinned (stat fr7) (T.obj _ _ st7)
      have q8 := hg' _ s7 σ5 H7 x u _ I7' r7 (step x H7 y7)
      rw [eA, eP, eW, eE, eX] at q8
      refine thn q8 fun _ s8 ⟨σ8, H8, I8, w8⟩ => ?_
      have q9 := he' _ s8 σ8 H8 _ I8 w8
      rw [eA, eP, eW, eE, eX] at q9
      refine thn q9 fun y s9 ⟨v9, H9, I9, r9, ys, hD9, hlt, m', hm, w9⟩ => ?_
      have q10 := mt_append (X := X') _ s9 σ8 H9 (.ref s2.heap.objs.size) [v9] (.ref s2.heap.objs.size) [y] (fun _ H10 => H10 = upd H9 s2.heap.objs.size (.lst (ys ++ [v9]))) I9 rfl (.cons r9 .nil) ⟨_, ys, v9, rfl, rfl, hD9, hlt, rfl⟩
      rw [eA, eP, eW, eX] at q10
      refine thn q10 fun _ s10 ⟨v10, H10, I10, r10, e10⟩ => ?_
      subst e10
      refine ⟨m', hm, i + 1, σ8, _, I10.unpinned, T.keep _ _ _ st7 fun b hb o e => (I10.pin (b, o) (List.mem_append_right _ (List.mem_append_right _ (mem_pinsAt hb e)))).1, fun b hb => ?_, w9⟩
      obtain ⟨o, e, d⟩ := T.obj _ _ st7 b hb
      exact (I10.pin (b, o) (List.mem_append_right _ (List.mem_append_right _ (mem_pinsAt hb e)))).2.1
  have es : ({ s2 with heap := h₁, toks := s2.toks + ([] : List (Str × Value)).length } : Shared) = { s3 with heap := h₁, toks := s2.toks + ([] : List (Str × Value)).length } := by rw [hs3]
  rw [es, hC]
  exact codeAny_compStart_list loop (T.self _ 0 _ _ _ st4 loop)
end
section
variable {X : Cx} {K : PySem.W.Frag} {Fe : FE} {g : FG} {I : FI}
theorem fs_setC {target elt iter : Expr} {scope : Scope} {pos pos' spos : Pos} {N' : List Str} {cap : List (Nat × Bool)} {t i : Nat} {x : Str} (hN : X.N.Nodup) (hi : X.N[i]? = some x) (hx : Loc X.env.scope x)
    (hsw : swapsWith (.ListComp elt [⟨target, iter, [], 0⟩] scope pos) (some (.Name x pos')) spos.line X.env = pure true) (hc : X.calm = true) (S : CompOk X N' scope t (cap.map (·.1))) (ho : oneBox cap = true) (hnd : (cap.map (·.1)).Nodup) (hit : QI X target iter (simI K I))
    (hg : ∀ C s3 H3 fp, QG (cxComp X N' scope C s3 H3 fp) target (simG K g)) (he : ∀ C s3 H3 fp, QE (cxComp X N' scope C s3 H3 fp) elt (simE K Fe)) (hs : ∀ x, foldedSetIterable iter X.env x = pure x := by intro _; rfl)
    (hf : X.fn x = true ∨ X.env.scope.names.lookup x = some .local := by first | exact .inl rfl | exact .inr rfl | assumption) :
    QS X (.Assign [.Name x pos'] (.ListComp elt [⟨target, iter, [], 0⟩] scope pos) spos) (simS K (sSet i (fComp t cap I g Fe))) :=
  QS.le ⟨ps_setC hN hi hx hf hsw hc S hit.h (fun C s3 H3 fp => (hg C s3 H3 fp).h) (fun C s3 H3 fp => (he C s3 H3 fp).h) hs⟩ fun D σ H hl ⟨B, E, DT, re, hF, l⟩ => comp_sim S ho hnd hl ⟨B, σ, E, _, ⟨[], by simp⟩, re, hF, fun r E' v H' S' q g re' rr => by
    obtain ⟨u, e1, q⟩ := q.ex
    rw [← re.len] at e1 q
    obtain ⟨r1, ow⟩ := pick_ok (i := i) re' g.pre rr e1
    exact l.nx _ _ _ q (g.kp.trans (Kp.less ow)) r1⟩
end
end L2
set_option Elab.async false
set_option linter.all false
set_option maxRecDepth 100000
set_option maxHeartbeats 4000000
namespace L2
open PySem PySem.Spec PyProof.Rows
mutual
noncomputable def eqT : T → T → Bool
  | .non, .non => true
  | .bl a, .bl b => a == b
  | .int a, .int b => a == b
  | .bl a, .int b => (if a then 1 else 0) == b
  | .int a, .bl b => a == (if b then 1 else 0)
  | .str a, .str b => a == b
  | .tup xs, .tup ys => eqTs xs ys
  | .lst xs, .lst ys => eqTs xs ys
  | _, _ => false
noncomputable def eqTs : List T → List T → Bool
  | [], [] => true
  | x :: xs, y :: ys => eqT x y && eqTs xs ys
  | _, _ => false
end
mutual
noncomputable def dT : T → Nat
  | .tup xs => dTs xs + 1
  | .lst xs => dTs xs + 1
  | _ => 0
noncomputable def dTs : List T → Nat
  | [] => 0
  | x :: xs => Nat.max (dT x) (dTs xs)
end
mutual
theorem eqT_refl : ∀ x : T, eqT x x = true
  | .non => rfl
  | .bl a => by simp [eqT]
  | .int a => by simp [eqT]
  | .str a => by simp [eqT]
  | .tup xs => by rw [eqT]; exact eqTs_refl xs
  | .lst xs => by rw [eqT]; exact eqTs_refl xs
theorem eqTs_refl : ∀ xs : List T, eqTs xs xs = true
  | [] => rfl
  | x :: xs => by rw [eqTs, eqT_refl x, eqTs_refl xs]; rfl
end
theorem eqTs_range : ∀ xs ys : List T, eqTs xs ys = ((List.range (min xs.length ys.length)).all (fun j => eqT (xs.getD j .non) (ys.getD j .non)) && xs.length == ys.length)
  | [], [] => rfl
  | [], _ :: _ => by simp [eqTs]
  | _ :: _, [] => by simp [eqTs]
  | x :: xs, y :: ys => by
    rw [eqTs, eqTs_range xs ys]
    simp only [List.length_cons, Nat.succ_min_succ, List.range_succ_eq_map, List.all_cons, List.all_map]
    simp [Function.comp_def, Bool.and_assoc]
theorem dT_mem : ∀ {xs : List T} {x : T}, x ∈ xs → dT x ≤ dTs xs
  | y :: xs, x, h => by
    rw [dTs]
    rcases List.mem_cons.mp h with rfl | h
    · exact Nat.le_max_left _ _
    · exact Nat.le_trans (dT_mem h) (Nat.le_max_right _ _)
mutual
noncomputable def Rq (K : PySem.W.Frag) (H : Hp) : T → V → Prop
  | .non, v => v = .non
  | .bl b, v => v = .bl b
  | .int i, v => v = .int i
  | .str x, v => v = .str x
  | .tup xs, v => ∃ a vs, v = .ref a ∧ SqT K H a vs ∧ Rqs K H xs vs
  | .lst xs, v => ∃ a vs, v = .ref a ∧ SqL K H a vs ∧ Rqs K H xs vs
noncomputable def Rqs (K : PySem.W.Frag) (H : Hp) : List T → List V → Prop
  | [], vs => vs = []
  | x :: xs, vs => ∃ v r, vs = v :: r ∧ Rq K H x v ∧ Rqs K H xs r
end
section
variable {K : PySem.W.Frag} {H : Hp} {O : Addr → Prop}
mutual
theorem Rp.rq : ∀ {t : T} {v : V}, Rp K H O t v → Rq K H t v
  | .non, _, h => h
  | .bl _, _, h => h
  | .int _, _, h => h
  | .str _, _, h => h
  | .tup xs, v, h => by
    obtain ⟨a, vs, e, h1, h2⟩ := h
    exact ⟨a, vs, e, h1.imp And.right id, Rps.rq h2⟩
  | .lst xs, v, h => by
    obtain ⟨a, vs, e, h1, h2⟩ := h
    exact ⟨a, vs, e, h1.imp And.right id, Rps.rq h2⟩
theorem Rps.rq : ∀ {xs : List T} {vs : List V}, Rps K H O xs vs → Rqs K H xs vs
  | [], _, h => h
  | x :: xs, vs, h => by
    obtain ⟨v, r, e, h1, h2⟩ := h
    exact ⟨v, r, e, Rp.rq h1, Rps.rq h2⟩
end
theorem Rt.rq {t : T} {v : V} (h : Rt K H O t v) : Rq K H t v := by
  cases t with
  | tup xs => obtain ⟨a, vs, e, h1, h2⟩ := h; exact ⟨a, vs, e, h1, h2.rq⟩
  | lst xs => obtain ⟨a, vs, e, h1, h2⟩ := h; exact ⟨a, vs, e, h1, h2.rq⟩
  | non => exact h
  | bl _ => exact h
  | int _ => exact h
  | str _ => exact h
theorem Rqs.length : ∀ {xs : List T} {vs : List V}, Rqs K H xs vs → vs.length = xs.length
  | [], _, h => by cases h; rfl
  | _ :: _, _, ⟨v, r, e, _, h2⟩ => by rw [e, List.length_cons, List.length_cons, Rqs.length h2]
theorem Rqs.get : ∀ {xs : List T} {vs : List V} {i : Nat} {x : T}, Rqs K H xs vs → xs[i]? = some x → ∃ v, vs[i]? = some v ∧ Rq K H x v
  | [], _, _, _, _, e => by simp at e
  | _ :: _, _, 0, _, ⟨v, r, e, h1, _⟩, q => by simp at q; subst q; subst e; exact ⟨v, rfl, h1⟩
  | _ :: _, _, i + 1, x, ⟨v, r, e, _, h2⟩, q => by
    obtain ⟨w, q1, q2⟩ := Rqs.get (i := i) (x := x) h2 (by simpa using q)
    subst e
    exact ⟨w, by simpa using q1, q2⟩
end
section
variable {X : Cx} {pins : List (Addr × Obj)} {σ : St} {H : Hp} {s : Shared}
theorem Inv.nolt (I : Inv X pins σ H s) {a : Addr} {vs ws : List V} (h1 : SqL X.K H a vs) (h2 : SqT X.K H a ws) : False := by
  obtain ⟨_, _, p1, _⟩ := I.list h1
  obtain ⟨_, _, p2, _⟩ := I.tuple h2
  exact SeqAt.ne_of_list_tuple p1.isList p2 rfl
mutual
theorem Rq.inj (I : Inv X pins σ H s) : ∀ {x y : T} {v : V}, Rq X.K H x v → Rq X.K H y v → x = y
  | .non, .non, _, _, _ => rfl
  | .bl a, .bl b, _, h, k => by cases h; cases k; rfl
  | .int a, .int b, _, h, k => by cases h; cases k; rfl
  | .str a, .str b, _, h, k => by cases h; cases k; rfl
  | .tup xs, .tup ys, v, ⟨a, vs, e, h1, h2⟩, ⟨b, ws, f, k1, k2⟩ => by
    rw [e] at f; cases f
    rw [I.tuple_inj h1 k1] at h2
    rw [Rqs.inj I h2 k2]
  | .lst xs, .lst ys, v, ⟨a, vs, e, h1, h2⟩, ⟨b, ws, f, k1, k2⟩ => by
    rw [e] at f; cases f
    rw [I.list_inj h1 k1] at h2
    rw [Rqs.inj I h2 k2]
  | .tup xs, .lst ys, v, ⟨a, vs, e, h1, h2⟩, ⟨b, ws, f, k1, k2⟩ => by rw [e] at f; cases f; exact (I.nolt k1 h1).elim
  | .lst xs, .tup ys, v, ⟨a, vs, e, h1, h2⟩, ⟨b, ws, f, k1, k2⟩ => by rw [e] at f; cases f; exact (I.nolt h1 k1).elim
  | .non, .bl _, _, h, k => by cases h; cases k
  | .non, .int _, _, h, k => by cases h; cases k
  | .non, .str _, _, h, k => by cases h; cases k
  | .non, .tup _, _, h, ⟨_, _, k, _⟩ => by cases h; cases k
  | .non, .lst _, _, h, ⟨_, _, k, _⟩ => by cases h; cases k
  | .bl _, .non, _, h, k => by cases h; cases k
  | .bl _, .int _, _, h, k => by cases h; cases k
  | .bl _, .str _, _, h, k => by cases h; cases k
  | .bl _, .tup _, _, h, ⟨_, _, k, _⟩ => by cases h; cases k
  | .bl _, .lst _, _, h, ⟨_, _, k, _⟩ => by cases h; cases k
  | .int _, .non, _, h, k => by cases h; cases k
  | .int _, .bl _, _, h, k => by cases h; cases k
  | .int _, .str _, _, h, k => by cases h; cases k
  | .int _, .tup _, _, h, ⟨_, _, k, _⟩ => by cases h; cases k
  | .int _, .lst _, _, h, ⟨_, _, k, _⟩ => by cases h; cases k
  | .str _, .non, _, h, k => by cases h; cases k
  | .str _, .bl _, _, h, k => by cases h; cases k
  | .str _, .int _, _, h, k => by cases h; cases k
  | .str _, .tup _, _, h, ⟨_, _, k, _⟩ => by cases h; cases k
  | .str _, .lst _, _, h, ⟨_, _, k, _⟩ => by cases h; cases k
  | .tup _, .non, _, ⟨_, _, h, _⟩, k => by cases h; cases k
  | .tup _, .bl _, _, ⟨_, _, h, _⟩, k => by cases h; cases k
  | .tup _, .int _, _, ⟨_, _, h, _⟩, k => by cases h; cases k
  | .tup _, .str _, _, ⟨_, _, h, _⟩, k => by cases h; cases k
  | .lst _, .non, _, ⟨_, _, h, _⟩, k => by cases h; cases k
  | .lst _, .bl _, _, ⟨_, _, h, _⟩, k => by cases h; cases k
  | .lst _, .int _, _, ⟨_, _, h, _⟩, k => by cases h; cases k
  | .lst _, .str _, _, ⟨_, _, h, _⟩, k => by cases h; cases k
theorem Rqs.inj (I : Inv X pins σ H s) : ∀ {xs ys : List T} {vs : List V}, Rqs X.K H xs vs → Rqs X.K H ys vs → xs = ys
  | [], [], _, _, _ => rfl
  | [], _ :: _, _, h, ⟨_, _, k, _⟩ => by cases h; cases k
  | _ :: _, [], _, ⟨_, _, h, _⟩, k => by cases k; cases h
  | x :: xs, y :: ys, _, ⟨v, r, e, h1, h2⟩, ⟨w, r', f, k1, k2⟩ => by
    rw [e] at f; cases f
    rw [Rq.inj I h1 k1, Rqs.inj I h2 k2]
end
theorem EqAt_of_rc {A : Around} {u v : Value} {k : Bool} (h : SeqAt.RcAt A s u v k) (hk : u = v → k = true) (hf : ∀ b t, u ≠ .float b t) : SeqAt.EqAt A s u v k := fun prog w E Q hq => by
  unfold eqBool
  refine wpAny_holding ?_
  refine wpAny_ite_split (fun hab => ?_) (fun _ => ?_)
  · rw [hk (eq_of_beq hab)] at hq
    exact wpAny_bind (wpAny_rule (wpAny_pure hq))
  · cases u with
    | float b t => exact absurd rfl (hf b t)
    | _ => exact wpAny_bind (h prog w E _ (wpAny_truthy_bool hq))
theorem rel_inj {x y : V} {u : Value} (h : RelV x u) (k : RelV y u) : x = y := h.inj k
theorem items_eq (A : Around) {xs ys : List T} {vs ws : List V} {its js : List Value} (rx : Vals vs its) (ry : Vals ws js) (hx : Rqs X.K H xs vs) (hy : Rqs X.K H ys ws)
    (ih : ∀ (j : Nat) (x y : T) (v w : V) (u u' : Value), xs[j]? = some x → ys[j]? = some y → Rq X.K H x v → Rq X.K H y w → RelV v u → RelV w u' → SeqAt.EqAt A s u u' (eqT x y)) :
    ∀ j (h1 : j < its.toArray.size) (h2 : j < js.toArray.size), SeqAt.EqAt A s its.toArray[j] js.toArray[j] (eqT (xs.getD j .non) (ys.getD j .non)) := fun j h1 h2 => by
  have l1 := rx.length; have l2 := ry.length; have l3 := hx.length; have l4 := hy.length
  have h1' : j < its.length := by simpa using h1
  have h2' : j < js.length := by simpa using h2
  have e1 : xs[j]? = some xs[j] := List.getElem?_eq_getElem (by omega)
  have e2 : ys[j]? = some ys[j] := List.getElem?_eq_getElem (by omega)
  obtain ⟨v, q1, q2⟩ := hx.get e1
  obtain ⟨w, q3, q4⟩ := hy.get e2
  obtain ⟨u1, z1, r1⟩ := rx.get q1
  obtain ⟨v1, z2, r2⟩ := ry.get q3
  have y1 : its.toArray[j] = u1 := by
    rw [List.getElem?_eq_getElem h1'] at z1
    simpa using Option.some.inj z1
  have y2 : js.toArray[j] = v1 := by
    rw [List.getElem?_eq_getElem h2'] at z2
    simpa using Option.some.inj z2
  rw [y1, y2]
  have g1 : xs.getD j .non = xs[j] := by simp [List.getD, e1]
  have g2 : ys.getD j .non = ys[j] := by simp [List.getD, e2]
  rw [g1, g2]
  exact ih j _ _ v w u1 v1 e1 e2 q2 q4 r1 r2
theorem rc_mixed (I : Inv X pins σ H s) {A : Around} (hu : A.units < cLine) : ∀ {x y : T} {v w : V} {u u' : Value}, (∀ xs ys, ¬ (x = .tup xs ∧ y = .tup ys)) → (∀ xs ys, ¬ (x = .lst xs ∧ y = .lst ys)) → Rq X.K H x v → Rq X.K H y w → RelV v u → RelV w u' → SeqAt.RcAt A s u u' ((eqT x y)) := by
  intro x y v w u u' nt nl hx hy rx ry
  cases x with
  | non =>
    cases y with
    | non =>
      cases hx; cases rx
      cases hy; cases ry
      exact SeqAt.RcAt.none_none 
    | bl ay =>
      cases hx; cases rx
      cases hy; cases ry
      exact SeqAt.RcAt.none_bool _
    | int ay =>
      cases hx; cases rx
      cases hy; obtain ⟨t_hy, rfl⟩ := ry
      exact SeqAt.RcAt.none_int _ t_hy
    | str ay =>
      cases hx; cases rx
      cases hy; obtain ⟨t_hy, rfl⟩ := ry
      exact SeqAt.RcAt.none_str _ t_hy
    | tup ay =>
      cases hx; cases rx
      obtain ⟨a_hy, vs_hy, e_hy, q_hy, _⟩ := hy
      subst e_hy; cases ry
      obtain ⟨its_hy, _, p_hy, _⟩ := I.tuple q_hy
      exact SeqAt.RcAt.none_tuple p_hy hu
    | lst ay =>
      cases hx; cases rx
      obtain ⟨a_hy, vs_hy, e_hy, q_hy, _⟩ := hy
      subst e_hy; cases ry
      obtain ⟨its_hy, _, p_hy, _⟩ := I.list q_hy
      exact SeqAt.RcAt.none_list p_hy.isList hu
  | bl ax =>
    cases y with
    | non =>
      cases hx; cases rx
      cases hy; cases ry
      exact SeqAt.RcAt.bool_none _
    | bl ay =>
      cases hx; cases rx
      cases hy; cases ry
      exact SeqAt.RcAt.bool_bool _ _
    | int ay =>
      cases hx; cases rx
      cases hy; obtain ⟨t_hy, rfl⟩ := ry
      exact SeqAt.RcAt.bool_int _ _ t_hy
    | str ay =>
      cases hx; cases rx
      cases hy; obtain ⟨t_hy, rfl⟩ := ry
      exact SeqAt.RcAt.bool_str _ _ t_hy
    | tup ay =>
      cases hx; cases rx
      obtain ⟨a_hy, vs_hy, e_hy, q_hy, _⟩ := hy
      subst e_hy; cases ry
      obtain ⟨its_hy, _, p_hy, _⟩ := I.tuple q_hy
      exact SeqAt.RcAt.bool_tuple _ p_hy hu
    | lst ay =>
      cases hx; cases rx
      obtain ⟨a_hy, vs_hy, e_hy, q_hy, _⟩ := hy
      subst e_hy; cases ry
      obtain ⟨its_hy, _, p_hy, _⟩ := I.list q_hy
      exact SeqAt.RcAt.bool_list _ p_hy.isList hu
  | int ax =>
    cases y with
    | non =>
      cases hx; obtain ⟨t_hx, rfl⟩ := rx
      cases hy; cases ry
      exact SeqAt.RcAt.int_none _ t_hx
    | bl ay =>
      cases hx; obtain ⟨t_hx, rfl⟩ := rx
      cases hy; cases ry
      exact SeqAt.RcAt.int_bool _ t_hx _
    | int ay =>
      cases hx; obtain ⟨t_hx, rfl⟩ := rx
      cases hy; obtain ⟨t_hy, rfl⟩ := ry
      exact SeqAt.RcAt.int_int _ t_hx _ t_hy
    | str ay =>
      cases hx; obtain ⟨t_hx, rfl⟩ := rx
      cases hy; obtain ⟨t_hy, rfl⟩ := ry
      exact SeqAt.RcAt.int_str _ t_hx _ t_hy
    | tup ay =>
      cases hx; obtain ⟨t_hx, rfl⟩ := rx
      obtain ⟨a_hy, vs_hy, e_hy, q_hy, _⟩ := hy
      subst e_hy; cases ry
      obtain ⟨its_hy, _, p_hy, _⟩ := I.tuple q_hy
      exact SeqAt.RcAt.int_tuple _ t_hx p_hy hu
    | lst ay =>
      cases hx; obtain ⟨t_hx, rfl⟩ := rx
      obtain ⟨a_hy, vs_hy, e_hy, q_hy, _⟩ := hy
      subst e_hy; cases ry
      obtain ⟨its_hy, _, p_hy, _⟩ := I.list q_hy
      exact SeqAt.RcAt.int_list _ t_hx p_hy.isList hu
  | str ax =>
    cases y with
    | non =>
      cases hx; obtain ⟨t_hx, rfl⟩ := rx
      cases hy; cases ry
      exact SeqAt.RcAt.str_none _ t_hx
    | bl ay =>
      cases hx; obtain ⟨t_hx, rfl⟩ := rx
      cases hy; cases ry
      exact SeqAt.RcAt.str_bool _ t_hx _
    | int ay =>
      cases hx; obtain ⟨t_hx, rfl⟩ := rx
      cases hy; obtain ⟨t_hy, rfl⟩ := ry
      exact SeqAt.RcAt.str_int _ t_hx _ t_hy
    | str ay =>
      cases hx; obtain ⟨t_hx, rfl⟩ := rx
      cases hy; obtain ⟨t_hy, rfl⟩ := ry
      exact SeqAt.RcAt.str_str _ t_hx _ t_hy
    | tup ay =>
      cases hx; obtain ⟨t_hx, rfl⟩ := rx
      obtain ⟨a_hy, vs_hy, e_hy, q_hy, _⟩ := hy
      subst e_hy; cases ry
      obtain ⟨its_hy, _, p_hy, _⟩ := I.tuple q_hy
      exact SeqAt.RcAt.str_tuple _ t_hx p_hy hu
    | lst ay =>
      cases hx; obtain ⟨t_hx, rfl⟩ := rx
      obtain ⟨a_hy, vs_hy, e_hy, q_hy, _⟩ := hy
      subst e_hy; cases ry
      obtain ⟨its_hy, _, p_hy, _⟩ := I.list q_hy
      exact SeqAt.RcAt.str_list _ t_hx p_hy.isList hu
  | tup ax =>
    cases y with
    | non =>
      obtain ⟨a_hx, vs_hx, e_hx, q_hx, _⟩ := hx
      subst e_hx; cases rx
      obtain ⟨its_hx, _, p_hx, _⟩ := I.tuple q_hx
      cases hy; cases ry
      exact SeqAt.RcAt.tuple_none p_hx hu
    | bl ay =>
      obtain ⟨a_hx, vs_hx, e_hx, q_hx, _⟩ := hx
      subst e_hx; cases rx
      obtain ⟨its_hx, _, p_hx, _⟩ := I.tuple q_hx
      cases hy; cases ry
      exact SeqAt.RcAt.tuple_bool _ p_hx hu
    | int ay =>
      obtain ⟨a_hx, vs_hx, e_hx, q_hx, _⟩ := hx
      subst e_hx; cases rx
      obtain ⟨its_hx, _, p_hx, _⟩ := I.tuple q_hx
      cases hy; obtain ⟨t_hy, rfl⟩ := ry
      exact SeqAt.RcAt.tuple_int _ t_hy p_hx hu
    | str ay =>
      obtain ⟨a_hx, vs_hx, e_hx, q_hx, _⟩ := hx
      subst e_hx; cases rx
      obtain ⟨its_hx, _, p_hx, _⟩ := I.tuple q_hx
      cases hy; obtain ⟨t_hy, rfl⟩ := ry
      exact SeqAt.RcAt.tuple_str _ t_hy p_hx hu
    | tup ay =>
      exact absurd ⟨rfl, rfl⟩ (nt ax ay)
    | lst ay =>
      obtain ⟨a_hx, vs_hx, e_hx, q_hx, _⟩ := hx
      subst e_hx; cases rx
      obtain ⟨its_hx, _, p_hx, _⟩ := I.tuple q_hx
      obtain ⟨a_hy, vs_hy, e_hy, q_hy, _⟩ := hy
      subst e_hy; cases ry
      obtain ⟨its_hy, _, p_hy, _⟩ := I.list q_hy
      exact SeqAt.RcAt.tuple_list p_hx p_hy.isList hu
  | lst ax =>
    cases y with
    | non =>
      obtain ⟨a_hx, vs_hx, e_hx, q_hx, _⟩ := hx
      subst e_hx; cases rx
      obtain ⟨its_hx, _, p_hx, _⟩ := I.list q_hx
      cases hy; cases ry
      exact SeqAt.RcAt.list_none p_hx.isList hu
    | bl ay =>
      obtain ⟨a_hx, vs_hx, e_hx, q_hx, _⟩ := hx
      subst e_hx; cases rx
      obtain ⟨its_hx, _, p_hx, _⟩ := I.list q_hx
      cases hy; cases ry
      exact SeqAt.RcAt.list_bool _ p_hx.isList hu
    | int ay =>
      obtain ⟨a_hx, vs_hx, e_hx, q_hx, _⟩ := hx
      subst e_hx; cases rx
      obtain ⟨its_hx, _, p_hx, _⟩ := I.list q_hx
      cases hy; obtain ⟨t_hy, rfl⟩ := ry
      exact SeqAt.RcAt.list_int _ t_hy p_hx.isList hu
    | str ay =>
      obtain ⟨a_hx, vs_hx, e_hx, q_hx, _⟩ := hx
      subst e_hx; cases rx
      obtain ⟨its_hx, _, p_hx, _⟩ := I.list q_hx
      cases hy; obtain ⟨t_hy, rfl⟩ := ry
      exact SeqAt.RcAt.list_str _ t_hy p_hx.isList hu
    | tup ay =>
      obtain ⟨a_hx, vs_hx, e_hx, q_hx, _⟩ := hx
      subst e_hx; cases rx
      obtain ⟨its_hx, _, p_hx, _⟩ := I.list q_hx
      obtain ⟨a_hy, vs_hy, e_hy, q_hy, _⟩ := hy
      subst e_hy; cases ry
      obtain ⟨its_hy, _, p_hy, _⟩ := I.tuple q_hy
      exact SeqAt.RcAt.list_tuple p_hx.isList p_hy hu
    | lst ay =>
      exact absurd ⟨rfl, rfl⟩ (nl ax ay)
theorem rcn_mixed (I : Inv X pins σ H s) {A : Around} (hu : A.units < cLine) : ∀ {x y : T} {v w : V} {u u' : Value}, (∀ xs ys, ¬ (x = .tup xs ∧ y = .tup ys)) → (∀ xs ys, ¬ (x = .lst xs ∧ y = .lst ys)) → Rq X.K H x v → Rq X.K H y w → RelV v u → RelV w u' → SeqAt.RcNeAt A s u u' (!(eqT x y)) := by
  intro x y v w u u' nt nl hx hy rx ry
  cases x with
  | non =>
    cases y with
    | non =>
      cases hx; cases rx
      cases hy; cases ry
      exact SeqAt.RcNeAt.none_none 
    | bl ay =>
      cases hx; cases rx
      cases hy; cases ry
      exact SeqAt.RcNeAt.none_bool _
    | int ay =>
      cases hx; cases rx
      cases hy; obtain ⟨t_hy, rfl⟩ := ry
      exact SeqAt.RcNeAt.none_int _ t_hy
    | str ay =>
      cases hx; cases rx
      cases hy; obtain ⟨t_hy, rfl⟩ := ry
      exact SeqAt.RcNeAt.none_str _ t_hy
    | tup ay =>
      cases hx; cases rx
      obtain ⟨a_hy, vs_hy, e_hy, q_hy, _⟩ := hy
      subst e_hy; cases ry
      obtain ⟨its_hy, _, p_hy, _⟩ := I.tuple q_hy
      exact SeqAt.RcNeAt.none_tuple p_hy hu
    | lst ay =>
      cases hx; cases rx
      obtain ⟨a_hy, vs_hy, e_hy, q_hy, _⟩ := hy
      subst e_hy; cases ry
      obtain ⟨its_hy, _, p_hy, _⟩ := I.list q_hy
      exact SeqAt.RcNeAt.none_list p_hy.isList hu
  | bl ax =>
    cases y with
    | non =>
      cases hx; cases rx
      cases hy; cases ry
      exact SeqAt.RcNeAt.bool_none _
    | bl ay =>
      cases hx; cases rx
      cases hy; cases ry
      exact SeqAt.RcNeAt.bool_bool _ _
    | int ay =>
      cases hx; cases rx
      cases hy; obtain ⟨t_hy, rfl⟩ := ry
      exact SeqAt.RcNeAt.bool_int _ _ t_hy
    | str ay =>
      cases hx; cases rx
      cases hy; obtain ⟨t_hy, rfl⟩ := ry
      exact SeqAt.RcNeAt.bool_str _ _ t_hy
    | tup ay =>
      cases hx; cases rx
      obtain ⟨a_hy, vs_hy, e_hy, q_hy, _⟩ := hy
      subst e_hy; cases ry
      obtain ⟨its_hy, _, p_hy, _⟩ := I.tuple q_hy
      exact SeqAt.RcNeAt.bool_tuple _ p_hy hu
    | lst ay =>
      cases hx; cases rx
      obtain ⟨a_hy, vs_hy, e_hy, q_hy, _⟩ := hy
      subst e_hy; cases ry
      obtain ⟨its_hy, _, p_hy, _⟩ := I.list q_hy
      exact SeqAt.RcNeAt.bool_list _ p_hy.isList hu
  | int ax =>
    cases y with
    | non =>
      cases hx; obtain ⟨t_hx, rfl⟩ := rx
      cases hy; cases ry
      exact SeqAt.RcNeAt.int_none _ t_hx
    | bl ay =>
      cases hx; obtain ⟨t_hx, rfl⟩ := rx
      cases hy; cases ry
      exact SeqAt.RcNeAt.int_bool _ t_hx _
    | int ay =>
      cases hx; obtain ⟨t_hx, rfl⟩ := rx
      cases hy; obtain ⟨t_hy, rfl⟩ := ry
      exact SeqAt.RcNeAt.int_int _ t_hx _ t_hy
    | str ay =>
      cases hx; obtain ⟨t_hx, rfl⟩ := rx
      cases hy; obtain ⟨t_hy, rfl⟩ := ry
      exact SeqAt.RcNeAt.int_str _ t_hx _ t_hy
    | tup ay =>
      cases hx; obtain ⟨t_hx, rfl⟩ := rx
      obtain ⟨a_hy, vs_hy, e_hy, q_hy, _⟩ := hy
      subst e_hy; cases ry
      obtain ⟨its_hy, _, p_hy, _⟩ := I.tuple q_hy
      exact SeqAt.RcNeAt.int_tuple _ t_hx p_hy hu
    | lst ay =>
      cases hx; obtain ⟨t_hx, rfl⟩ := rx
      obtain ⟨a_hy, vs_hy, e_hy, q_hy, _⟩ := hy
      subst e_hy; cases ry
      obtain ⟨its_hy, _, p_hy, _⟩ := I.list q_hy
      exact SeqAt.RcNeAt.int_list _ t_hx p_hy.isList hu
  | str ax =>
    cases y with
    | non =>
      cases hx; obtain ⟨t_hx, rfl⟩ := rx
      cases hy; cases ry
      exact SeqAt.RcNeAt.str_none _ t_hx
    | bl ay =>
      cases hx; obtain ⟨t_hx, rfl⟩ := rx
      cases hy; cases ry
      exact SeqAt.RcNeAt.str_bool _ t_hx _
    | int ay =>
      cases hx; obtain ⟨t_hx, rfl⟩ := rx
      cases hy; obtain ⟨t_hy, rfl⟩ := ry
      exact SeqAt.RcNeAt.str_int _ t_hx _ t_hy
    | str ay =>
      cases hx; obtain ⟨t_hx, rfl⟩ := rx
      cases hy; obtain ⟨t_hy, rfl⟩ := ry
      exact SeqAt.RcNeAt.str_str _ t_hx _ t_hy
    | tup ay =>
      cases hx; obtain ⟨t_hx, rfl⟩ := rx
      obtain ⟨a_hy, vs_hy, e_hy, q_hy, _⟩ := hy
      subst e_hy; cases ry
      obtain ⟨its_hy, _, p_hy, _⟩ := I.tuple q_hy
      exact SeqAt.RcNeAt.str_tuple _ t_hx p_hy hu
    | lst ay =>
      cases hx; obtain ⟨t_hx, rfl⟩ := rx
      obtain ⟨a_hy, vs_hy, e_hy, q_hy, _⟩ := hy
      subst e_hy; cases ry
      obtain ⟨its_hy, _, p_hy, _⟩ := I.list q_hy
      exact SeqAt.RcNeAt.str_list _ t_hx p_hy.isList hu
  | tup ax =>
    cases y with
    | non =>
      obtain ⟨a_hx, vs_hx, e_hx, q_hx, _⟩ := hx
      subst e_hx; cases rx
      obtain ⟨its_hx, _, p_hx, _⟩ := I.tuple q_hx
      cases hy; cases ry
      exact SeqAt.RcNeAt.tuple_none p_hx hu
    | bl ay =>
      obtain ⟨a_hx, vs_hx, e_hx, q_hx, _⟩ := hx
      subst e_hx; cases rx
      obtain ⟨its_hx, _, p_hx, _⟩ := I.tuple q_hx
      cases hy; cases ry
      exact SeqAt.RcNeAt.tuple_bool _ p_hx hu
    | int ay =>
      obtain ⟨a_hx, vs_hx, e_hx, q_hx, _⟩ := hx
      subst e_hx; cases rx
      obtain ⟨its_hx, _, p_hx, _⟩ := I.tuple q_hx
      cases hy; obtain ⟨t_hy, rfl⟩ := ry
      exact SeqAt.RcNeAt.tuple_int _ t_hy p_hx hu
    | str ay =>
      obtain ⟨a_hx, vs_hx, e_hx, q_hx, _⟩ := hx
      subst e_hx; cases rx
      obtain ⟨its_hx, _, p_hx, _⟩ := I.tuple q_hx
      cases hy; obtain ⟨t_hy, rfl⟩ := ry
      exact SeqAt.RcNeAt.tuple_str _ t_hy p_hx hu
    | tup ay =>
      exact absurd ⟨rfl, rfl⟩ (nt ax ay)
    | lst ay =>
      obtain ⟨a_hx, vs_hx, e_hx, q_hx, _⟩ := hx
      subst e_hx; cases rx
      obtain ⟨its_hx, _, p_hx, _⟩ := I.tuple q_hx
      obtain ⟨a_hy, vs_hy, e_hy, q_hy, _⟩ := hy
      subst e_hy; cases ry
      obtain ⟨its_hy, _, p_hy, _⟩ := I.list q_hy
      exact SeqAt.RcNeAt.tuple_list p_hx p_hy.isList hu
  | lst ax =>
    cases y with
    | non =>
      obtain ⟨a_hx, vs_hx, e_hx, q_hx, _⟩ := hx
      subst e_hx; cases rx
      obtain ⟨its_hx, _, p_hx, _⟩ := I.list q_hx
      cases hy; cases ry
      exact SeqAt.RcNeAt.list_none p_hx.isList hu
    | bl ay =>
      obtain ⟨a_hx, vs_hx, e_hx, q_hx, _⟩ := hx
      subst e_hx; cases rx
      obtain ⟨its_hx, _, p_hx, _⟩ := I.list q_hx
      cases hy; cases ry
      exact SeqAt.RcNeAt.list_bool _ p_hx.isList hu
    | int ay =>
      obtain ⟨a_hx, vs_hx, e_hx, q_hx, _⟩ := hx
      subst e_hx; cases rx
      obtain ⟨its_hx, _, p_hx, _⟩ := I.list q_hx
      cases hy; obtain ⟨t_hy, rfl⟩ := ry
      exact SeqAt.RcNeAt.list_int _ t_hy p_hx.isList hu
    | str ay =>
      obtain ⟨a_hx, vs_hx, e_hx, q_hx, _⟩ := hx
      subst e_hx; cases rx
      obtain ⟨its_hx, _, p_hx, _⟩ := I.list q_hx
      cases hy; obtain ⟨t_hy, rfl⟩ := ry
      exact SeqAt.RcNeAt.list_str _ t_hy p_hx.isList hu
    | tup ay =>
      obtain ⟨a_hx, vs_hx, e_hx, q_hx, _⟩ := hx
      subst e_hx; cases rx
      obtain ⟨its_hx, _, p_hx, _⟩ := I.list q_hx
      obtain ⟨a_hy, vs_hy, e_hy, q_hy, _⟩ := hy
      subst e_hy; cases ry
      obtain ⟨its_hy, _, p_hy, _⟩ := I.tuple q_hy
      exact SeqAt.RcNeAt.list_tuple p_hx.isList p_hy hu
    | lst ay =>
      exact absurd ⟨rfl, rfl⟩ (nl ax ay)
theorem notFloat {K : PySem.W.Frag} {x : T} {v : V} {u : Value} (h : Rq K H x v) (r : RelV v u) : ∀ b t, u ≠ .float b t := fun b t e => by
  subst e
  cases x with
  | tup _ => obtain ⟨_, _, e, _⟩ := h; subst e; cases r
  | lst _ => obtain ⟨_, _, e, _⟩ := h; subst e; cases r
  | non => cases h; cases r
  | bl _ => cases h; cases r
  | int _ => cases h; obtain ⟨_, r⟩ := r; cases r
  | str _ => cases h; obtain ⟨_, r⟩ := r; cases r
theorem rc_all (I : Inv X pins σ H s) : ∀ (n : Nat) (A : Around) (x y : T) (v w : V) (u u' : Value), dT x ≤ n → Rq X.K H x v → Rq X.K H y w → RelV v u → RelV w u' → A.units + n < cLine → SeqAt.RcAt A s u u' (eqT x y) ∧ SeqAt.EqAt A s u u' (eqT x y) := by
  have fin : ∀ {A : Around} {x y : T} {v w : V} {u u' : Value}, Rq X.K H x v → Rq X.K H y w → RelV v u → RelV w u' → SeqAt.RcAt A s u u' (eqT x y) → SeqAt.RcAt A s u u' (eqT x y) ∧ SeqAt.EqAt A s u u' (eqT x y) := fun {A x y v w u u'} hx hy rx ry h => ⟨h, EqAt_of_rc h (fun e => by
      subst e
      rw [Rq.inj I hx (by rw [rel_inj rx ry]; exact hy)]
      exact eqT_refl y) (notFloat hx rx)⟩
  intro n
  induction n with
  | zero =>
    intro A x y v w u u' hd hx hy rx ry hu
    refine fin hx hy rx ry (rc_mixed I (by omega) (fun xs ys z => ?_) (fun xs ys z => ?_) hx hy rx ry)
    · rw [z.1] at hd; simp [dT] at hd
    · rw [z.1] at hd; simp [dT] at hd
  | succ n ih =>
    intro A x y v w u u' hd hx hy rx ry hu
    refine fin hx hy rx ry ?_
    by_cases c1 : ∃ xs ys, x = .tup xs ∧ y = .tup ys
    · obtain ⟨xs, ys, rfl, rfl⟩ := c1
      obtain ⟨a, vs, rfl, q1, h1⟩ := hx
      obtain ⟨b, ws, rfl, q2, h2⟩ := hy
      cases rx; cases ry
      obtain ⟨its, r1, p1, _⟩ := I.tuple q1
      obtain ⟨js, r2, p2, _⟩ := I.tuple q2
      have := SeqAt.RcAt.tuples p1 p2 (A := A) (by omega) (items_eq A.in1 r1 r2 h1 h2 fun j x y v w u u' e1 e2 k1 k2 k3 k4 => (ih A.in1 x y v w u u' (by
        have := dT_mem (List.mem_of_getElem? e1)
        simp only [dT] at hd; omega) k1 k2 k3 k4 (by show A.units + 1 + n < cLine; omega)).2)
      rw [eqT, eqTs_range]
      have l1 := r1.length; have l2 := r2.length; have l3 := h1.length; have l4 := h2.length
      have s1 : its.toArray.size = xs.length := by simp; omega
      have s2 : js.toArray.size = ys.length := by simp; omega
      rw [s1, s2] at this
      exact this
    · by_cases c2 : ∃ xs ys, x = .lst xs ∧ y = .lst ys
      · obtain ⟨xs, ys, rfl, rfl⟩ := c2
        obtain ⟨a, vs, rfl, q1, h1⟩ := hx
        obtain ⟨b, ws, rfl, q2, h2⟩ := hy
        cases rx; cases ry
        obtain ⟨its, r1, p1, _⟩ := I.list q1
        obtain ⟨js, r2, p2, _⟩ := I.list q2
        have l1 := r1.length; have l2 := r2.length; have l3 := h1.length; have l4 := h2.length
        have s1 : its.toArray.size = xs.length := by simp; omega
        have s2 : js.toArray.size = ys.length := by simp; omega
        rw [eqT, eqTs_range]
        by_cases hl : xs.length = ys.length
        · have := SeqAt.RcAt.lists p1.isList p2.isList (A := A) (by rw [s1, s2]; exact hl) (by omega) (items_eq A.in1 r1 r2 h1 h2 fun j x y v w u u' e1 e2 k1 k2 k3 k4 => (ih A.in1 x y v w u u' (by
            have := dT_mem (List.mem_of_getElem? e1)
            simp only [dT] at hd; omega) k1 k2 k3 k4 (by show A.units + 1 + n < cLine; omega)).2)
          rw [s1] at this
          rw [← hl, Nat.min_self, beq_self_eq_true, Bool.and_true]
          exact this
        · have := SeqAt.RcAt.lists_lengths p1.isList p2.isList (A := A) (by rw [s1, s2]; simpa using hl) (by omega)
          rw [show (xs.length == ys.length) = false by simpa using hl, Bool.and_false]
          exact this
      · exact rc_mixed I (by omega) (fun xs ys z => c1 ⟨xs, ys, z⟩) (fun xs ys z => c2 ⟨xs, ys, z⟩) hx hy rx ry
theorem rcn_all (I : Inv X pins σ H s) {A : Around} {x y : T} {v w : V} {u u' : Value} (n : Nat) (hd : dT x ≤ n) (hx : Rq X.K H x v) (hy : Rq X.K H y w) (rx : RelV v u) (ry : RelV w u') (hu : A.units + n < cLine) : SeqAt.RcNeAt A s u u' (!(eqT x y)) := by
  by_cases c1 : ∃ xs ys, x = .tup xs ∧ y = .tup ys
  · obtain ⟨xs, ys, rfl, rfl⟩ := c1
    obtain ⟨a, vs, rfl, q1, h1⟩ := hx
    obtain ⟨b, ws, rfl, q2, h2⟩ := hy
    cases rx; cases ry
    obtain ⟨its, r1, p1, _⟩ := I.tuple q1
    obtain ⟨js, r2, p2, _⟩ := I.tuple q2
    have := SeqAt.RcNeAt.tuples p1 p2 (A := A) (by omega) (items_eq A.in1 r1 r2 h1 h2 fun j x y v w u u' e1 e2 k1 k2 k3 k4 => (rc_all I (n - 1) A.in1 x y v w u u' (by
      have := dT_mem (List.mem_of_getElem? e1)
      simp only [dT] at hd; omega) k1 k2 k3 k4 (by show A.units + 1 + (n - 1) < cLine; simp only [dT] at hd; omega)).2)
    rw [eqT, eqTs_range]
    have l1 := r1.length; have l2 := r2.length; have l3 := h1.length; have l4 := h2.length
    have s1 : its.toArray.size = xs.length := by simp; omega
    have s2 : js.toArray.size = ys.length := by simp; omega
    rw [s1, s2] at this
    exact this
  · by_cases c2 : ∃ xs ys, x = .lst xs ∧ y = .lst ys
    · obtain ⟨xs, ys, rfl, rfl⟩ := c2
      obtain ⟨a, vs, rfl, q1, h1⟩ := hx
      obtain ⟨b, ws, rfl, q2, h2⟩ := hy
      cases rx; cases ry
      obtain ⟨its, r1, p1, _⟩ := I.list q1
      obtain ⟨js, r2, p2, _⟩ := I.list q2
      have l1 := r1.length; have l2 := r2.length; have l3 := h1.length; have l4 := h2.length
      have s1 : its.toArray.size = xs.length := by simp; omega
      have s2 : js.toArray.size = ys.length := by simp; omega
      rw [eqT, eqTs_range]
      by_cases hl : xs.length = ys.length
      · have := SeqAt.RcNeAt.lists p1.isList p2.isList (A := A) (by rw [s1, s2]; exact hl) (by omega) (items_eq A.in1 r1 r2 h1 h2 fun j x y v w u u' e1 e2 k1 k2 k3 k4 => (rc_all I (n - 1) A.in1 x y v w u u' (by
          have := dT_mem (List.mem_of_getElem? e1)
          simp only [dT] at hd; omega) k1 k2 k3 k4 (by show A.units + 1 + (n - 1) < cLine; simp only [dT] at hd; omega)).2)
        rw [s1] at this
        rw [← hl, Nat.min_self, beq_self_eq_true, Bool.and_true]
        exact this
      · have := SeqAt.RcNeAt.lists_lengths p1.isList p2.isList (A := A) (by rw [s1, s2]; simpa using hl) (by omega)
        rw [show (xs.length == ys.length) = false by simpa using hl, Bool.and_false]
        exact this
    · exact rcn_mixed I (by omega) (fun xs ys z => c1 ⟨xs, ys, z⟩) (fun xs ys z => c2 ⟨xs, ys, z⟩) hx hy rx ry
end
section
variable {X : Cx} {K : PySem.W.Frag} {pos : Pos} {a b c e o : Expr} {es : List Expr} {Fa Fb Fo : FE} {Fr : FA}
noncomputable def rEqT (K : PySem.W.Frag) (ng : Bool) : R2 := fun x y H Q => ∃ t u, Rq K H t x ∧ Rq K H u y ∧ dT t ≤ 60 ∧ Q (.bl (if ng then !(eqT t u) else eqT t u)) H
theorem op_eqT {k : Nat} (hr : Room k X.A) : OpR X (compareOp .Eq) (rEqT X.K false) := by
  intro pins s σ H x y v u Q I rx ry h
  obtain ⟨t, w, h1, h2, hd, q⟩ := h
  exact (rc_all I 60 X.A t w x y v u hd h1 h2 rx ry (by have := hr.units; omega)).1 X.prog X.w X.xe _ (fin_bl I q rfl)
theorem op_neT {k : Nat} (hr : Room k X.A) : OpR X (compareOp .NotEq) (rEqT X.K true) := by
  intro pins s σ H x y v u Q I rx ry h
  obtain ⟨t, w, h1, h2, hd, q⟩ := h
  exact rcn_all I 60 hd h1 h2 rx ry (by have := hr.units; omega) X.prog X.w X.xe _ (fin_bl I q rfl)
noncomputable def t2 (x y : Option T) (k : T → T → Prop) : Prop := match x, y with
  | some t, some u => k t u
  | _, _ => False
theorem t2.ex {x y : Option T} {k : T → T → Prop} (h : t2 x y k) : ∃ t u, x = some t ∧ y = some u ∧ k t u := by
  unfold t2 at h; split at h
  · exact ⟨_, _, rfl, rfl, h⟩
  · exact h.elim
noncomputable def fEq (Fa Fb : FE) : FE := fun E Q => Fa E fun x E1 => Fb E1 fun y E2 => t2 (vl E2 x) (vl E2 y) fun t u => dT t ≤ 60 ∧ Q (.p (.bl (eqT t u))) E2
noncomputable def fNe (Fa Fb : FE) : FE := fun E Q => Fa E fun x E1 => Fb E1 fun y E2 => t2 (vl E2 x) (vl E2 y) fun t u => dT t ≤ 60 ∧ Q (.p (.bl (!(eqT t u)))) E2
theorem fe_eq {k : Nat} (eK : X.K = K) (hr : Room k X.A) (ha : QE X a (simE K Fa)) (hb : QE X b (simE K Fb)) (hm : behindInMarks .Eq b = false) : QE X (.Compare a [.Eq] [b] pos) (simE K (fEq Fa Fb)) := by
  subst eK
  refine (qe_cmpR (op_eqT hr) ha hb hm).le fun σ H Q hl h => two (Fa := Fa) (Fb := Fb) h fun B S E x y v w H2 Q' hS re rx ry q lk => ?_
  obtain ⟨t, u, e1, e2, hd, q⟩ := q.ex
  exact ⟨t, u, (re.vl rx e1).rq, (re.vl ry e2).rq, hd, lk _ _ _ _ _ q .refl re rfl⟩
end
end L2
set_option Elab.async false
set_option linter.all false
set_option maxRecDepth 100000
set_option maxHeartbeats 4000000
namespace L2
open PySem PySem.Spec PyProof.Rows
section
variable {X : Cx} {K : PySem.W.Frag} {pos : Pos} {a b c e o : Expr} {es : List Expr} {Fa Fb Fc Fo : FE} {Fr : FA}
theorem ft_cmp {op : CmpOp} {r : R2} {F : FE} (ho : OpR X (compareOp op) r) (ha : QE X a (simE K Fa)) (hb : QE X b (simE K Fb)) (hm : behindInMarks op b = false) (k : ∀ σ H Q, simE K F σ H Q → tOp r (simE K Fa) (simE K Fb) σ H Q) : QT X (.Compare a [op] [b] pos) (simB K (bVal F)) :=
  (qt_cmpR ho ha hb hm).le fun σ H Q z => k _ _ _ (b_of z)
theorem ft_cp {op : CmpOp} {g : Int → Int → Bool} (ho : OpR X (compareOp op) (rI0 fun i j => .bl (g i j))) (ha : QE X a (simE K Fa)) (hb : QE X b (simE K Fb)) (hm : behindInMarks op b = false) : QT X (.Compare a [op] [b] pos) (simB K (bVal (fCp g Fa Fb))) :=
  ft_cmp ho ha hb hm fun σ H Q h => two (Fa := Fa) (Fb := Fb) h fun B S E x y v w H2 Q' hS re rx ry q lk => by
    obtain ⟨i, j, e1, e2, q⟩ := i2.ex q
    exact ⟨i, j, re.int rx e1, re.int ry e2, lk _ _ _ _ _ q .refl re rfl⟩
theorem ft_eq {k : Nat} (eK : X.K = K) (hr : Room k X.A) (ha : QE X a (simE K Fa)) (hb : QE X b (simE K Fb)) (hm : behindInMarks .Eq b = false) : QT X (.Compare a [.Eq] [b] pos) (simB K (bVal (fEq Fa Fb))) := by
  subst eK
  refine ft_cmp (op_eqT hr) ha hb hm fun σ H Q h => two (Fa := Fa) (Fb := Fb) h fun B S E x y v w H2 Q' hS re rx ry q lk => ?_
  obtain ⟨t, u, e1, e2, hd, q⟩ := t2.ex q
  exact ⟨t, u, (re.vl rx e1).rq, (re.vl ry e2).rq, hd, lk _ _ _ _ _ q .refl re rfl⟩
theorem ft_ne {k : Nat} (eK : X.K = K) (hr : Room k X.A) (ha : QE X a (simE K Fa)) (hb : QE X b (simE K Fb)) (hm : behindInMarks .NotEq b = false) : QT X (.Compare a [.NotEq] [b] pos) (simB K (bVal (fNe Fa Fb))) := by
  subst eK
  refine ft_cmp (op_neT hr) ha hb hm fun σ H Q h => two (Fa := Fa) (Fb := Fb) h fun B S E x y v w H2 Q' hS re rx ry q lk => ?_
  obtain ⟨t, u, e1, e2, hd, q⟩ := t2.ex q
  exact ⟨t, u, (re.vl rx e1).rq, (re.vl ry e2).rq, hd, lk _ _ _ _ _ q .refl re rfl⟩
noncomputable def isNon : T → Bool
  | .non => true
  | _ => false
theorem non_v {H : Hp} {t : T} {v : V} (h : Rq K H t v) : decide (v = .non) = isNon t := by
  cases t with
  | non => cases h; rfl
  | bl _ => cases h; rfl
  | int _ => cases h; rfl
  | str _ => cases h; rfl
  | tup _ => obtain ⟨_, _, e, _⟩ := h; subst e; rfl
  | lst _ => obtain ⟨_, _, e, _⟩ := h; subst e; rfl
noncomputable def fIsN (ng : Bool) (Fa : FE) : FE := fun E Q => Fa E fun x E1 => o1 (vl E1 x) fun t => Q (.p (.bl (if ng then !(isNon t) else isNon t))) E1
theorem isN_sim {σ : St} {H : Hp} {Q : VK} (h : simE K (fIsN false Fa) σ H Q) : tOp (fun x y H Q => y = .non ∧ Q (.bl (decide (x = .non))) H) (simE K Fa) (tC .non) σ H Q :=
  one (Fa := Fa) h fun B S E x v H2 Q' hS re rx q lk => by
    obtain ⟨t, e1, q⟩ := o1.ex q
    exact ⟨rfl, by rw [non_v (re.vl rx e1).rq]; exact lk _ _ _ _ _ q .refl re rfl⟩
theorem ft_isN {j p2} (ha : QE X a (simE K Fa)) (hm : behindInMarks .Is (.Constant .none j p2) = false) : QT X (.Compare a [.Is] [.Constant .none j p2] pos) (simB K (bVal (fIsN false Fa))) := (qt_cmpR op_isN ha qe_non hm).le fun _ _ _ h => isN_sim (b_of h)
noncomputable def kdT : T → String
  | .non => "NoneType"
  | .bl _ => "bool"
  | .int _ => "int"
  | .str _ => "str"
  | .tup _ => "tuple"
  | .lst _ => "list"
theorem kd_v {H : Hp} {t : T} {v : V} (h : Rq K H t v) : Kd K H v (kdT t) := by
  cases t with
  | non => cases h; exact .non
  | bl _ => cases h; exact .bl _
  | int _ => cases h; exact .int _
  | str _ => cases h; exact .str _
  | tup _ => obtain ⟨_, _, e, h, _⟩ := h; subst e; exact .tup h
  | lst _ => obtain ⟨_, _, e, h, _⟩ := h; subst e; exact .lst h
noncomputable def isL : T → Bool
  | .lst _ => true
  | _ => false
noncomputable def isT : T → Bool
  | .tup _ => true
  | _ => false
noncomputable def isS : T → Bool
  | .str _ => true
  | _ => false
noncomputable def isB : T → Bool
  | .bl _ => true
  | _ => false
noncomputable def isI : T → Bool
  | .int _ => true
  | .bl _ => true
  | _ => false
theorem k_list : ∀ t, isL t = isi (kdT t) "list" := by intro t; cases t <;> simp [isL, isi, kdT]
theorem k_tuple : ∀ t, isT t = isi (kdT t) "tuple" := by intro t; cases t <;> simp [isT, isi, kdT]
theorem k_str : ∀ t, isS t = isi (kdT t) "str" := by intro t; cases t <;> simp [isS, isi, kdT]
theorem k_bool : ∀ t, isB t = isi (kdT t) "bool" := by intro t; cases t <;> simp [isB, isi, kdT]
theorem k_int : ∀ t, isI t = isi (kdT t) "int" := by intro t; cases t <;> simp [isI, isi, kdT]
noncomputable def fIsi (f : T → Bool) (Fa : FE) : FE := fun E Q => Fa E fun x E1 => o1 (vl E1 x) fun t => Q (.p (.bl (f t))) E1
noncomputable def fIsi2 (f g : T → Bool) (Fa : FE) : FE := fun E Q => Fa E fun x E1 => o1 (vl E1 x) fun t => Q (.p (.bl (f t || g t))) E1
theorem fe_isi {x : Str} {T1 : String} {f : T → Bool} {p p1 : Pos} (kf : ∀ t, f t = isi (kdT t) T1) (eK : X.K = K) (hg : Gl X "isinstance") (hm : X.mg "isinstance" = none) (ha : QE X a (simE K Fa)) (h1 : Gl X x) (m1 : X.mg x = none) (b1 : bootBuiltins x = some (.type T1)) (hT : T1 ∈ tys) (n1 : x ≠ "__name__" := by decide) (d1 : (x == ("__debug__" : Str)) = false := by decide) (hs : isStar a = false := by rfl) (hns : noStar [a, .Name x p1] = true := by rfl) :
    QE X (.Call (.Name "isinstance" p) [a, .Name x p1] [] pos) (simE K (fIsi f Fa)) := by
  subst eK
  refine (qe_callBS call_isi hg hm boot_isinstance (qc ha (qc (qe_bltn (v := .ty T1) h1 m1 b1 rfl n1 d1) qa_nil) hs) (by decide) (by decide) hns).le fun σ H Q hl h => one (Fa := Fa) h fun B S E x v H2 Q' hS re rx q lk => ?_
  obtain ⟨t, e1, q⟩ := o1.ex q
  rw [kf] at q
  exact ⟨v, _, T1, rfl, kd_v (re.vl rx e1).rq, hT, lk _ _ _ _ _ q .refl re rfl⟩
theorem fe_isi2 {x1 x2 : Str} {T1 T2 : String} {f g : T → Bool} {p p1 p2 p3 : Pos} {k : Nat} (kf : ∀ t, f t = isi (kdT t) T1) (kg : ∀ t, g t = isi (kdT t) T2) (eK : X.K = K) (hg : Gl X "isinstance") (hm : X.mg "isinstance" = none) (he : QE X e (simE K Fa)) (h1 : Gl X x1) (m1 : X.mg x1 = none) (b1 : bootBuiltins x1 = some (.type T1)) (h2 : Gl X x2) (m2 : X.mg x2 = none) (b2 : bootBuiltins x2 = some (.type T2))
    (hT1 : T1 ∈ tys) (hT2 : T2 ∈ tys) (hs : isStar e = false := by rfl) (n1 : x1 ≠ "__name__" := by decide) (d1 : (x1 == ("__debug__" : Str)) = false := by decide) (n2 : x2 ≠ "__name__" := by decide) (d2 : (x2 == ("__debug__" : Str)) = false := by decide) :
    QE X (.Call (.Name "isinstance" p) [e, .Tuple [.Name x1 p1, .Name x2 p2] k p3] [] pos) (simE K (fIsi2 f g Fa)) := by
  subst eK
  refine (qe_isi2 hg hm he h1 m1 b1 h2 m2 b2 hs n1 d1 n2 d2).le fun σ H Q hl h => one (Fa := Fa) h fun B S E x v H2 Q' hS re rx q lk => ?_
  obtain ⟨t, e1, q⟩ := o1.ex q
  rw [kf, kg] at q
  refine ⟨_, kd_v (re.vl rx e1).rq, hT1, hT2, fun p hp => ?_⟩
  have s : ∀ b o, H2 b = some o → (upd H2 p (.tup [.ty T1, .ty T2])) b = some o := fun b o e => by rw [upd_ne (ne_of_none e hp)]; exact e
  exact lk _ _ _ _ _ q ⟨Kp.upd hp, [], by simp⟩ (re.kept s) rfl
noncomputable def cutT (xs : List T) (lo hi : Option Int) : List T := (xs.drop (HT.sIx xs.length 0 lo)).take (HT.sIx xs.length xs.length hi - HT.sIx xs.length 0 lo)
theorem cut_rp {H : Hp} {O : Addr → Prop} {xs : List T} {vs : List V} {lo hi : Option Int} (h : Rps K H O xs vs) : Rps K H O (cutT xs lo hi) (cutV vs lo hi) := by
  unfold cutT cutV
  rw [h.length]
  exact (h.drop _).take _
noncomputable abbrev FO := En → (Option Int → En → Prop) → Prop
noncomputable def simO (K : PySem.W.Frag) (F : FO) : TO := fun σ H Q => ∃ B S E Q', (∃ τ, S = σ ++ τ) ∧ RE K B H S E ∧ F E Q' ∧ ∀ b E' H' S', Q' b E' → Gr B H S E H' S' E' → RE K B H' S' E' → Q b H'
theorem QO.le {e : Option Expr} {t t' : TO} (h : QO X e t) (m : ∀ σ H Q, t' σ H Q → t σ H Q) : QO X e t' := ⟨fun pins s σ H Q I z => h.h pins s σ H Q I (m σ H Q z)⟩
noncomputable def oNone : FO := fun E Q => Q none E
noncomputable def oSome (Fa : FE) : FO := fun E Q => Fa E fun x E1 => i1 (vl E1 x) fun i => Q (some i) E1
theorem fo_none : QO X none (simO K oNone) := qo_none.le fun σ H Q ⟨B, S, E, Q', hS, re, hF, lk⟩ => lk _ _ _ _ hF .refl re
theorem fo_some (h : QE X e (simE K Fa)) : QO X (some e) (simO K (oSome Fa)) := (qo_some h).le fun σ H Q ⟨B, S, E, Q', hS, re, hF, lk⟩ => ⟨B, S, E, _, hS, re, hF, fun r E1 v H1 S1 q g re1 rr => by
  obtain ⟨i, e1, q⟩ := i1.ex q
  exact ⟨i, re1.int rr e1, lk _ _ _ _ q g re1⟩⟩
variable {Gl' Gh : FO}
noncomputable def fSlL (Fa : FE) (Gl' Gh : FO) : FE := fun E Q => Fa E fun x E1 => Gl' E1 fun lo E2 => Gh E2 fun hi E3 => match vl E3 x with
  | some (.lst xs) => Q (.s E3.length) (E3 ++ [some (.o false (cutT xs lo hi))])
  | _ => False
theorem fe_sliceL {lo hi : Option Expr} {p2 : Pos} (eK : X.K = K) (he : QE X e (simE K Fa)) (hl : QO X lo (simO K Gl')) (hu : QO X hi (simO K Gh)) : QE X (.Subscript e (.Slice lo hi none p2) pos) (simE K (fSlL Fa Gl' Gh)) := by
  subst eK
  refine (qe_slice sl_list he hl hu).le fun σ H Q _ ⟨B, S, E, Q', ⟨τ, hS⟩, re, hF, lk⟩ => ⟨B, S, E, _, ⟨τ, hS⟩, re, hF, fun x E1 v H1 S1 q g1 re1 rx => ?_⟩
  obtain ⟨τ1, hS1⟩ := g1.pre
  refine ⟨B, S1, E1, _, ⟨τ ++ τ1, by rw [hS1, hS, List.append_assoc]⟩, re1, q, fun l E2 H2 S2 q2 g2 re2 => ?_⟩
  obtain ⟨τ2, hS2⟩ := g2.pre
  refine ⟨B, S2, E2, _, ⟨τ ++ τ1 ++ τ2, by rw [hS2, hS1, hS, List.append_assoc, List.append_assoc, List.append_assoc]⟩, re2, q2, fun h E3 H3 S3 q3 g3 re3 => ?_⟩
  have rx3 := (rx.step g2).step g3
  split at q3
  · rename_i xs e1
    obtain ⟨a, vs, e2, sq, rs⟩ := re3.vl rx3 e1
    refine ⟨a, vs, e2, sq, fun p hp => ?_⟩
    obtain ⟨g, re'⟩ := re3.lst hp (cut_rp (lo := l) (hi := h) rs)
    exact lk _ _ _ _ _ q3 (((g1.trans g2).trans g3).trans g) re' (by rw [← re3.len]; exact get_last)
  · exact q3.elim
noncomputable def ownOf (E : En) : R → Option (List T)
  | .s j => match E[j]? with
    | some (some (.o _ xs)) => some xs
    | _ => none
  | _ => none
theorem RE.ownOf {B : Addr → Prop} {H : Hp} {S : St} {E : En} (re : RE K B H S E) {r : R} {v : V} {xs : List T} (h : RR K B H S E r v) (e : L2.ownOf E r = some xs) : ∃ j k a vs, r = .s j ∧ E[j]? = some (some (.o k xs)) ∧ S[j]? = some (some (.ref a)) ∧ v = .ref a ∧ H a = some (.lst vs) ∧ Rps K H (Ow B S E) xs vs := by
  cases r with
  | p _ => cases e
  | s j =>
    cases q : E[j]? with
    | none => simp only [L2.ownOf, q] at e; cases e
    | some u =>
      cases u with
      | none => simp only [L2.ownOf, q] at e; cases e
      | some u =>
        cases u with
        | p _ => simp only [L2.ownOf, q] at e; cases e
        | o k ys =>
          simp only [L2.ownOf, q] at e; cases e
          obtain ⟨a, vs, h1, h2, h3, _⟩ := re.own j k xs q
          have h' : S[j]? = some (some v) := h
          rw [h'] at h1; cases h1
          exact ⟨j, k, a, vs, rfl, q, h', rfl, h2, h3⟩
noncomputable def l2 (x y : Option (List T)) (k : List T → List T → Prop) : Prop := match x, y with
  | some t, some u => k t u
  | _, _ => False
theorem l2.ex {x y : Option (List T)} {k : List T → List T → Prop} (h : l2 x y k) : ∃ t u, x = some t ∧ y = some u ∧ k t u := by
  unfold l2 at h; split at h
  · exact ⟨_, _, rfl, rfl, h⟩
  · exact h.elim
noncomputable def fCat (Fa Fb : FE) : FE := fun E Q => Fa E fun x E1 => Fb E1 fun y E2 => l2 (ownOf E2 x) (ownOf E2 y) fun xs ys => xs.length + ys.length ≤ 1000 ∧ Q (.s E2.length) (E2 ++ [some (.o false (xs ++ ys))])
theorem fe_cat (ha : QE X a (simE K Fa)) (hb : QE X b (simE K Fb)) : QE X (.BinOp a .Add b pos) (simE K (fCat Fa Fb)) := by
  refine (qe_op op_cat ha hb).le fun σ H Q hl h => two (Fa := Fa) (Fb := Fb) h fun B S E x y v w H2 Q' hS re rx ry q lk => ?_
  obtain ⟨xs, ys, e1, e2, hz, q⟩ := l2.ex q
  obtain ⟨j, k, p, vs, _, _, _, rfl, h2, h3⟩ := re.ownOf rx e1
  obtain ⟨j', k', p', vs', _, _, _, rfl, h2', h3'⟩ := re.ownOf ry e2
  refine ⟨p, p', vs, vs', rfl, rfl, h2, h2', by rw [h3.length, h3'.length]; exact Nat.le_of_lt (small1000 hz), fun r hr => ?_⟩
  obtain ⟨g, re'⟩ := re.lst hr (h3.append h3')
  exact lk _ _ _ _ _ q g re' (by rw [← re.len]; exact get_last)
noncomputable def repT (k : Int) (xs : List T) : List T := (List.replicate k.toNat xs).flatten
theorem rep_rp {H : Hp} {O : Addr → Prop} {xs : List T} {vs : List V} (h : Rps K H O xs vs) : ∀ n : Nat, Rps K H O (List.replicate n xs).flatten (List.replicate n vs).flatten
  | 0 => by simp [Rps]
  | n + 1 => by rw [List.replicate_succ, List.replicate_succ, List.flatten_cons, List.flatten_cons]; exact h.append (rep_rp h n)
noncomputable def fRep (Fa Fb : FE) : FE := fun E Q => Fa E fun x E1 => Fb E1 fun y E2 => o1 (ownOf E2 x) fun xs => i1 (vl E2 y) fun k => (-(2 ^ 63) ≤ k ∧ k < 2 ^ 63 ∧ xs.length * k.toNat ≤ 1000) ∧ Q (.s E2.length) (E2 ++ [some (.o false (repT k xs))])
theorem fe_rep (ha : QE X a (simE K Fa)) (hb : QE X b (simE K Fb)) : QE X (.BinOp a .Mult b pos) (simE K (fRep Fa Fb)) := by
  refine (qe_op op_rep ha hb).le fun σ H Q hl h => two (Fa := Fa) (Fb := Fb) h fun B S E x y v w H2 Q' hS re rx ry q lk => ?_
  obtain ⟨xs, e1, q⟩ := o1.ex q
  obtain ⟨k, e2, ⟨c1, c2, c3⟩, q⟩ := i1.ex q
  obtain ⟨j, kk, p, vs, _, _, _, rfl, h2, h3⟩ := re.ownOf rx e1
  refine ⟨p, k, vs, rfl, re.int ry e2, h2, c1, c2, by rw [h3.length]; exact Nat.le_of_lt (small1000 c3), fun r hr => ?_⟩
  obtain ⟨g, re'⟩ := re.lst hr (rep_rp h3 k.toNat)
  exact lk _ _ _ _ _ q g re' (by rw [← re.len]; exact get_last)
noncomputable def fListOf (Fr : FA) : FE := fun E Q => Fr E fun rs E1 => match rs with
  | [x] => o1 ((vl E1 x).bind seqT) fun xs => Q (.s E1.length) (E1 ++ [some (.o false xs)])
  | _ => False
theorem fe_listOf {n : Nat} {p : Pos} (eK : X.K = K) (hg : Gl X "list") (hm : X.mg "list" = none) (ha : QA X (e :: es) (simA K n Fr)) (hs : noStar (e :: es) = true := by rfl) : QE X (.Call (.Name "list" p) (e :: es) [] pos) (simE K (fListOf Fr)) := by
  subst eK
  refine (qe_callTyS call_list_of hg hm (by decide +kernel) ha (by decide) (by decide) hs).le fun σ H Q hl h => args (Fr := Fr) h fun B S E rs vs H2 Q' hS re rr hn q lk => ?_
  match rs, rr, q with
  | [x], ⟨v, ws, e1, h1, h2⟩, q =>
    cases h2; subst e1
    obtain ⟨xs, e2, q⟩ := o1.ex q
    obtain ⟨t, e3, e2⟩ := Option.bind_eq_some_iff.mp e2
    have rt := re.vl h1 e3
    have : ∃ p us, v = .ref p ∧ (SqL X.K H2 p us ∨ SqT X.K H2 p us) ∧ Rps X.K H2 (Ow B S E) xs us := by
      cases t with
      | tup ys => cases e2; obtain ⟨p, us, e, sq, rs⟩ := rt; exact ⟨p, us, e, .inr sq, rs⟩
      | lst ys => cases e2; obtain ⟨p, us, e, sq, rs⟩ := rt; exact ⟨p, us, e, .inl sq, rs⟩
      | _ => cases e2
    obtain ⟨p, us, rfl, sq, rs⟩ := this
    refine ⟨p, us, rfl, sq, fun r hr => ?_⟩
    obtain ⟨g, re'⟩ := re.lst hr rs
    exact lk _ _ _ _ _ q g re' (by rw [← re.len]; exact get_last)
  | [], _, q => exact q.elim
  | _ :: _ :: _, _, q => exact q.elim
noncomputable def blsOf : List T → Option (List Bool)
  | [] => some []
  | .bl b :: xs => (blsOf xs).map (b :: ·)
  | _ => none
theorem bls_rp {H : Hp} {O : Addr → Prop} : ∀ {xs : List T} {vs : List V} {bs : List Bool}, Rps K H O xs vs → blsOf xs = some bs → vs = bs.map V.bl
  | [], _, _, h, e => by cases e; exact h
  | .bl b :: xs, _, bs, ⟨v, r, e1, h1, h2⟩, e => by
    cases q : blsOf xs with
    | none => rw [blsOf, q] at e; cases e
    | some cs =>
      rw [blsOf, q] at e; cases e
      cases h1
      rw [e1, bls_rp h2 q]; rfl
  | .non :: _, _, _, _, e => by cases e
  | .int _ :: _, _, _, _, e => by cases e
  | .str _ :: _, _, _, _, e => by cases e
  | .tup _ :: _, _, _, _, e => by cases e
  | .lst _ :: _, _, _, _, e => by cases e
noncomputable def fAll (Fr : FA) : FE := fun E Q => Fr E fun rs E1 => match rs with
  | [x] => (match vl E1 x with
    | some (.lst xs) => o1 (blsOf xs) fun bs => Q (.p (.bl (bs.all id))) E1
    | _ => False)
  | _ => False
theorem fe_all {n : Nat} {p : Pos} (eK : X.K = K) (hc : X.calm = true) (hg : Gl X "all") (hm : X.mg "all" = none) (ha : QA X (e :: es) (simA K n Fr)) (hs : noStar (e :: es) = true := by rfl) : QE X (.Call (.Name "all" p) (e :: es) [] pos) (simE K (fAll Fr)) := by
  subst eK
  refine (qe_callBS (call_allB hc) hg hm boot_all ha (by decide) (by decide) hs).le fun σ H Q hl h => args (Fr := Fr) h fun B S E rs vs H2 Q' hS re rr hn q lk => ?_
  match rs, rr, q with
  | [x], ⟨v, ws, e1, h1, h2⟩, q =>
    cases h2; subst e1
    simp only at q
    split at q
    · rename_i xs e2
      obtain ⟨p, us, rfl, sq, rs⟩ := re.vl h1 e2
      obtain ⟨bs, e3, q⟩ := o1.ex q
      refine ⟨p, bs, rfl, by rw [← bls_rp rs e3]; exact sq, lk _ _ _ _ _ q .refl re rfl⟩
    · exact q.elim
  | [], _, q => exact q.elim
  | _ :: _ :: _, _, q => exact q.elim
noncomputable def fMeth1 (f : List T → R → En → Option (List T)) (Fo : FE) (Fr : FA) : FE := fun E Q => Fo E fun o E1 => o1 (ownOf E1 o) fun _ => Fr E1 fun rs E2 => match o, rs with
  | .s j, [r] => (match E2[j]? with
    | some (some (.o k xs)) => o1 (f xs r E2) fun ys => ys.length ≤ 1000 ∧ Q (.p .non) (E2.set j (some (.o k ys)))
    | _ => False)
  | _, _ => False
noncomputable def appF (xs : List T) (r : R) (E : En) : Option (List T) := match r with
  | .p t => some (xs ++ [t])
  | _ => none
noncomputable def extF (xs : List T) (r : R) (E : En) : Option (List T) := (ownOf E r).map (xs ++ ·)
noncomputable def fMeth0 (f : List T → List T) (Fo : FE) : FE := fun E Q => Fo E fun o E1 => match o with
  | .s j => (match E1[j]? with
    | some (some (.o k xs)) => Q (.p .non) (E1.set j (some (.o k (f xs))))
    | _ => False)
  | _ => False
theorem meth1 {f : List T → R → En → Option (List T)} {r : V → List V → Hp → VK → Prop} {n : Nat} {σ : St} {H : Hp} {Q : VK} (eK : X.K = K) (h : simE K (fMeth1 f Fo Fr) σ H Q)
    (hr : ∀ (B : Addr → Prop) (S : St) (E : En) (H2 : Hp) (xs ys : List T) (rr : R) (y : V) (p : Addr) (vs : List V) (Q : VK), RE K B H2 S E → RR K B H2 S E rr y → f xs rr E = some ys → H2 p = some (.lst vs) → Rps K H2 (Ow B S E) xs vs → ys.length ≤ 1000 →
      (∀ ws, Rps K H2 (Ow B S E) ys ws → Q .non (upd H2 p (.lst ws))) → r (.ref p) [y] H2 Q) : tBM X.K "list" r (simE K Fo) (simA K n Fr) σ H Q := by
  subst eK
  obtain ⟨B, S, E, Q', ⟨τ, hS⟩, re, hF, lk⟩ := h
  refine ⟨B, S, E, _, ⟨τ, hS⟩, re, hF, fun oo E1 v H1 S1 q g1 re1 rx => ?_⟩
  obtain ⟨τ1, hS1⟩ := g1.pre
  obtain ⟨xs0, e0, q⟩ := o1.ex q
  obtain ⟨j, k, p, vs, rfl, hE, hSj, rfl, h2, h3⟩ := re1.ownOf rx e0
  refine ⟨.inl ⟨rfl, vs, SqL.of h2⟩, B, S1, E1, _, ⟨τ ++ τ1, by rw [hS1, hS, List.append_assoc]⟩, re1, q, fun rs E2 us H2 S2 q2 g2 re2 rr hn => ?_⟩
  have hSj2 : S2[j]? = some (some (.ref p)) := pre_get g2.pre hSj
  match rs, rr, q2 with
  | [r'], ⟨y, ws, e1, k1, k2⟩, q2 =>
    cases k2; subst e1
    simp only at q2
    split at q2
    · rename_i k2 xs hE2
      obtain ⟨ys, e3, hz, q2⟩ := o1.ex q2
      obtain ⟨p', vs2, z1, z2, z3, _⟩ := re2.own j k2 xs hE2
      rw [hSj2] at z1; cases z1
      refine hr B S2 E2 H2 xs ys r' y p vs2 Q re2 k1 e3 z2 z3 hz fun ws hw => ?_
      obtain ⟨g3, re3⟩ := re2.put hE2 hSj2 hw
      exact lk _ _ _ _ _ q2 ((g1.trans g2).trans g3) re3 rfl
    · exact q2.elim
  | [], _, q2 => exact q2.elim
  | _ :: _ :: _, _, q2 => exact q2.elim
theorem fe_append {n : Nat} {ap : Pos} (eK : X.K = K) (ho : QE X o (simE K Fo)) (ha : QA X [e] (simA K n Fr)) (hbase : attributeBase o "append" X.env (eval o X.env) = eval o X.env := by rfl) (hline : (ap.endLine == pos.line) = true := by rfl) (hs : isStar e = false := by rfl) :
    QE X (.Call (.Attribute o "append" ap) [e] [] pos) (simE K (fMeth1 appF Fo Fr)) :=
  (qe_append ho ha hbase hline hs).le fun σ H Q hl h => meth1 eK h fun B S E H2 xs ys rr y p vs Q re rx e hp hv hz k => by
    cases rr with
    | s _ => cases e
    | p t =>
      cases e
      refine ⟨p, vs, y, rfl, rfl, hp, ?_, k _ (hv.append ⟨y, [], rfl, rx, rfl⟩)⟩
      rw [hv.length]
      rw [List.length_append] at hz
      exact small1000 (by simp at hz; omega)
theorem fe_extend {n : Nat} {ap : Pos} (eK : X.K = K) (ho : QE X o (simE K Fo)) (ha : QA X [e] (simA K n Fr)) (hbase : attributeBase o "extend" X.env (eval o X.env) = eval o X.env := by rfl) (hline : (ap.endLine == pos.line) = true := by rfl) (hs : isStar e = false := by rfl) :
    QE X (.Call (.Attribute o "extend" ap) [e] [] pos) (simE K (fMeth1 extF Fo Fr)) :=
  QE.le (t := tBM X.K "list" rExtend (simE K Fo) (simA K n Fr)) ⟨pe_bm PySem.F.plainAttrs_list PySem.F.slot_list_extend PySem.F.type_list_extend mt_extend ho.h ha.h hbase (by rw [star_ok hs]; rfl) hline (star_ok hs) (star_any rfl)⟩ fun σ H Q hl h => meth1 eK h fun B S E H2 xs ys rr y p vs Q re rx e hp hv hz k => by
    unfold extF at e
    cases q : ownOf E rr with
    | none => rw [q] at e; cases e
    | some zs =>
      rw [q] at e; cases e
      obtain ⟨j, kk, p', vs', _, _, _, rfl, h2, h3⟩ := re.ownOf rx q
      refine ⟨p, p', vs, vs', rfl, rfl, hp, h2, ?_, k _ (hv.append h3)⟩
      rw [hv.length, h3.length]
      rw [List.length_append] at hz
      exact Nat.le_of_lt (small1000 hz)
theorem meth0 {f : List T → List T} {r : V → List V → Hp → VK → Prop} {σ : St} {H : Hp} {Q : VK} (eK : X.K = K) (h : simE K (fMeth0 f Fo) σ H Q)
    (hr : ∀ (O : Addr → Prop) (H2 : Hp) (xs : List T) (p : Addr) (vs : List V) (Q : VK), H2 p = some (.lst vs) → Rps K H2 O xs vs → (∀ ws, Rps K H2 O (f xs) ws → Q .non (upd H2 p (.lst ws))) → r (.ref p) [] H2 Q) : tBM0 X.K "list" r (simE K Fo) σ H Q := by
  subst eK
  refine one (Fa := Fo) h fun B S E x v H2 Q' hS re rx q lk => ?_
  split at q
  · rename_i j
    split at q
    · rename_i k xs hE
      have rx' : S[j]? = some (some v) := rx
      obtain ⟨p, vs, z1, z2, z3, _⟩ := re.own j k xs hE
      rw [rx'] at z1; cases z1
      refine ⟨.inl ⟨rfl, vs, SqL.of z2⟩, hr _ H2 xs p vs Q z2 z3 fun ws hw => ?_⟩
      obtain ⟨g3, re3⟩ := re.put hE rx' hw
      exact lk _ _ _ _ _ q g3 re3 rfl
    · exact q.elim
  · exact q.elim
theorem fe_clear {ap : Pos} (eK : X.K = K) (ho : QE X o (simE K Fo)) (hbase : attributeBase o "clear" X.env (eval o X.env) = eval o X.env := by rfl) (hline : (ap.endLine == pos.line) = true := by rfl) :
    QE X (.Call (.Attribute o "clear" ap) [] [] pos) (simE K (fMeth0 (fun _ => []) Fo)) :=
  QE.le (t := tBM0 X.K "list" rClear (simE K Fo)) ⟨pe_bm0 PySem.F.plainAttrs_list PySem.F.slot_list_clear PySem.F.type_list_clear mt_clear ho.h hbase hline⟩ fun σ H Q hl h => meth0 eK h fun O H2 xs p vs Q hp hv k => ⟨p, vs, rfl, rfl, hp, k _ rfl⟩
end
end L2
set_option Elab.async false
set_option linter.all false
set_option maxRecDepth 100000
set_option maxHeartbeats 4000000
namespace L2
open PySem PySem.Spec PyProof.Rows
noncomputable abbrev IsTupN (h : Heap) (T : Addr) (xs : Array Value) : Prop := h.get? T = some { cls := .type "tuple", data := .seq xs }
end L2
set_option Elab.async false
set_option linter.all false
set_option maxRecDepth 100000
set_option maxHeartbeats 4000000
namespace L2
open PySem PySem.Spec PyProof.Rows
structure ZQ where
  κ : Bool
  a : Addr
  it : Addr
  items : Array Value
structure ZA (z TI TO : Addr) (ps : List ZQ) : Prop where
  tz : TI ≠ z
  oz : TO ≠ z
  to : TI ≠ TO
  iz : ∀ p ∈ ps, p.it ≠ z ∧ p.it ≠ TI ∧ p.it ≠ TO
  az : ∀ p ∈ ps, p.a ≠ z ∧ p.a ≠ TO
  ai : ∀ p ∈ ps, ∀ q ∈ ps, p.a ≠ q.it
  ii : ∀ (i j : Nat) (p q : ZQ), ps[i]? = some p → ps[j]? = some q → p.it = q.it → i = j
section
variable {prog : Program} {w : World} {A : Around} {E : Value → Shared → Prop} {s : Shared}
theorem forIn_wp {α β : Type} {M : Model} {body : α → β → Sem (ForInStep β)} {b0 : β} : ∀ (xs : List α) (W : Nat → Shared → Prop) (s : Shared) (Q : β → Shared → Prop),
    (∀ j x s, xs[j]? = some x → W j s → wpAny M A (body x b0) (fun r s' => r = .yield b0 ∧ W (j + 1) s') E s) → W 0 s → (∀ s', W xs.length s' → Q b0 s') → wpAny M A (forIn xs b0 body) Q E s
  | [], W, s, Q, _, h0, hq => by
    rw [List.forIn_nil]
    exact wpAny_pure (hq s h0)
  | x :: xs, W, s, Q, hs, h0, hq => by
    rw [List.forIn_cons]
    refine wpAny_bind (thn (hs 0 x s rfl h0) fun r s' ⟨e, h1⟩ => ?_)
    subst e
    exact forIn_wp xs (fun j => W (j + 1)) s' Q (fun j y s'' hy hw => hs (j + 1) y s'' (by simpa using hy) hw) h1 (fun s'' h => hq s'' (by simpa using h))
theorem forIn_raise {α β : Type} {M : Model} {body : α → β → Sem (ForInStep β)} {b0 : β} : ∀ (m : Nat) (xs : List α) (W : Nat → Shared → Prop) (s : Shared) (Q : β → Shared → Prop) (y : α), xs[m]? = some y →
    (∀ j x s, j < m → xs[j]? = some x → W j s → wpAny M A (body x b0) (fun r s' => r = .yield b0 ∧ W (j + 1) s') E s) → W 0 s → (∀ s', W m s' → wpAny M A (body y b0) (fun _ _ => False) E s') → wpAny M A (forIn xs b0 body) Q E s
  | m, [], W, s, Q, y, hy, _, _, _ => by simp at hy
  | 0, x :: xs, W, s, Q, y, hy, hs, h0, hm => by
    rw [List.forIn_cons]
    simp at hy; subst hy
    exact wpAny_bind (thn (hm s h0) fun _ _ z => z.elim)
  | m + 1, x :: xs, W, s, Q, y, hy, hs, h0, hm => by
    rw [List.forIn_cons]
    refine wpAny_bind (thn (hs 0 x s (by omega) rfl h0) fun r s' ⟨e, h1⟩ => ?_)
    subst e
    exact forIn_raise m xs (fun j => W (j + 1)) s' Q y (by simpa using hy) (fun j z s'' hj hz hw => hs (j + 1) z s'' (by omega) (by simpa using hz) hw) h1 hm
noncomputable def ZW (s : Shared) (z TI TO : Addr) (ps : List ZQ) (k j : Nat) (s' : Shared) : Prop := ∃ (h : Heap) (tk : Nat), s' = { s with heap := h, toks := tk } ∧ IsZip h z TI TO .ellipsis ∧
  (∃ cur : Array Value, IsTupN h TO cur ∧ cur.size = ps.length ∧ ∀ (l : Nat) (q : ZQ), l < j → ps[l]? = some q → ∃ x, q.items[k]? = some x ∧ cur[l]? = some x) ∧
  (∀ (l : Nat) (q : ZQ), ps[l]? = some q → IterK q.κ h q.it q.a (if l < j then k + 1 else k) ∧ SeqK q.κ h q.a q.items) ∧
  (∀ c o, c ≠ z → c ≠ TO → (∀ q ∈ ps, c ≠ q.it) → s.heap.get? c = some o → h.get? c = some o) ∧ h.objs.size = s.heap.objs.size
theorem SeqK.at {κ : Bool} {h h' : Heap} {a : Addr} {its : Array Value} (x : SeqK κ h a its) (e : ∀ o, h.get? a = some o → h'.get? a = some o) : SeqK κ h' a its := by
  cases κ
  · exact Heap.IsList.at x e
  · exact Heap.IsTuple.at x e
theorem mem_at {ps : List ZQ} {l : Nat} {q : ZQ} (h : ps[l]? = some q) : q ∈ ps := List.mem_of_getElem? h
theorem zstep {z TI TO : Addr} {ps : List ZQ} {k j : Nat} {q : ZQ} (hA : A.handled = none) (ap : ZA z TI TO ps) (hl : ps.length ≤ 1000) (hq : ps[j]? = some q) (hk : k < q.items.size) {s' : Shared} (W : ZW s z TI TO ps k j s') {Q : Option Value → Shared → Prop}
    (g : ∀ x s2, (∃ (h : Heap) (tk : Nat), s2 = { s with heap := h, toks := tk } ∧ q.items[k]? = some x ∧ IsZip h z TI TO .ellipsis ∧
        (∃ cur : Array Value, IsTupN h TO cur ∧ cur.size = ps.length ∧ ∀ (l : Nat) (q : ZQ), l < j → ps[l]? = some q → ∃ x, q.items[k]? = some x ∧ cur[l]? = some x) ∧
        (∀ (l : Nat) (q : ZQ), ps[l]? = some q → IterK q.κ h q.it q.a (if l < j + 1 then k + 1 else k) ∧ SeqK q.κ h q.a q.items) ∧
        (∀ c o, c ≠ z → c ≠ TO → (∀ q ∈ ps, c ≠ q.it) → s.heap.get? c = some o → h.get? c = some o) ∧ h.objs.size = s.heap.objs.size) → Q (some x) s2) :
    wpAny (model prog w) A (Builtin.SmallTypes.nextOf (.ref q.it) >>= fun x => pure (some x)) Q E s' := by
  obtain ⟨h, tk, rfl, hz, ⟨cur, c1, c2, c3⟩, hi, kp, szh⟩ := W
  have hqm := mem_at hq
  have D := drawsK (prog := prog) (w := w) q.κ hA q.it q.a (ap.ai q hqm q hqm) q.items
  obtain ⟨i1, i2⟩ := hi j q hq
  rw [if_neg (Nat.lt_irrefl j)] at i1
  refine wpAny_bind (D.item k _ _ _ hk ⟨i1, i2⟩ fun x hb tb px gb sb => wpAny_pure (g x _ ⟨hb, tb, rfl, px, ?_, ⟨cur, ?_, c2, c3⟩, fun l p hp => ?_, fun c o n1 n2 n3 e => ?_, ?_⟩))
  · exact sb.extBut _ _ (Ne.symm (ap.iz q hqm).1) hz
  · exact sb.extBut _ _ (Ne.symm (ap.iz q hqm).2.2) c1
  · by_cases e : l = j
    · subst e
      rw [hq] at hp; cases hp
      rw [if_pos (Nat.lt_succ_self _)]
      exact gb
    · obtain ⟨a1, a2⟩ := hi l p hp
      have ne : p.it ≠ q.it := fun z => e (ap.ii l j p q hp hq z)
      have el : (if l < j + 1 then k + 1 else k) = (if l < j then k + 1 else k) := by
        by_cases c : l < j
        · rw [if_pos c, if_pos (by omega)]
        · rw [if_neg c, if_neg (by omega)]
      rw [el]
      exact ⟨a1.at fun o x => sb.extBut _ _ ne x, a2.at fun o x => sb.extBut _ _ (ap.ai p (mem_at hp) q hqm) x⟩
  · exact sb.extBut _ _ (n3 q hqm) (kp c o n1 n2 n3 e)
  · rw [sb.1]; exact szh
theorem zipN_draw {z TI TO : Addr} {ps : List ZQ} {k : Nat} {old : Array Value} {Q : Value → Shared → Prop} (hA : A.handled = none) (ap : ZA z TI TO ps) (hne : ps ≠ []) (hl : ps.length ≤ 1000)
    (gz : IsZip s.heap z TI TO .none) (gI : IsTupN s.heap TI (ps.map fun p => Value.ref p.it).toArray) (gO : IsTupN s.heap TO old) (ho : old.size = ps.length)
    (gi : ∀ p ∈ ps, IterK p.κ s.heap p.it p.a k ∧ SeqK p.κ s.heap p.a p.items) (gk : ∀ p ∈ ps, k < p.items.size)
    (gq : ∀ (xs : List Value) h' tk, xs.length = ps.length → (∀ (l : Nat) (q : ZQ), ps[l]? = some q → ∃ x, q.items[k]? = some x ∧ xs[l]? = some x) → IsZip h' z TI TO (rawInt s.heap.objs.size) → (∃ cur : Array Value, IsTupN h' TO cur ∧ cur.size = ps.length) →
      (∀ p ∈ ps, IterK p.κ h' p.it p.a (k + 1)) → IsTupN h' s.heap.objs.size xs.toArray → h'.objs.size = s.heap.objs.size + 1 →
      (∀ c o, c ≠ z → c ≠ TO → (∀ q ∈ ps, c ≠ q.it) → s.heap.get? c = some o → h'.get? c = some o) → Q (.ref s.heap.objs.size) { s with heap := h', toks := tk }) :
    wpAny (model prog w) A (Builtin.«zip.__next__» ⟨[.ref z], []⟩) (fun fin s' => ∃ v, fin = .done (.ret v) ∧ Q v s') E s := by
  show wpAny _ _ (field (.ref z) 2 >>= _) _ _ _
  refine wpAny_bind (wpAny_field gz rfl (x := .bool false) rfl ?_)
  show wpAny _ _ (field (.ref z) 3 >>= _) _ _ _
  refine wpAny_bind (wpAny_field gz rfl (x := .ref TI) rfl (wpAny_bind (wpAny_seqItems gI rfl ?_)))
  have hem : ((ps.map fun p => Value.ref p.it).toArray).isEmpty = false := by
    cases ps with
    | nil => exact absurd rfl hne
    | cons p r => simp
  simp only [hem, Bool.false_eq_true, if_false]
  refine wpAny_bind ?_
  unfold Builtin.SmallTypes.ownedTupleIsFree
  refine wpAny_bind (wpAny_field gz rfl (x := .none) rfl (wpAny_pure ?_))
  simp only [if_true]
  refine wpAny_bind (wpAny_rule (wpAny_bind (wpAny_field gz rfl (x := .ref TO) rfl (wpAny_bind (wpAny_setField_rec gz (by simp) fun ha za sa => ?_)))))
  have za' : IsZip ha z TI TO .ellipsis := za
  refine wpAny_bind ?_
  have W0 : ZW s z TI TO ps k 0 { s with heap := ha } := by
    refine ⟨ha, s.toks, rfl, za', ⟨old, sa.extBut _ _ ap.oz gO, ho, fun l q h => absurd h (Nat.not_lt_zero _)⟩, fun l q hq => ?_, fun c o n1 n2 n3 e => sa.extBut _ _ n1 e, sa.1⟩
    obtain ⟨g1, g2⟩ := gi q (mem_at hq)
    rw [if_neg (Nat.not_lt_zero _)]
    exact ⟨g1.at fun o e => sa.extBut _ _ (ap.iz q (mem_at hq)).1 e, g2.at fun o e => sa.extBut _ _ (ap.az q (mem_at hq)).1 e⟩
  refine forIn_wp _ (ZW s z TI TO ps k) _ _ (fun j x s' hx hW => ?_) W0 (fun s' hW => ?_)
  · have hxq : ∃ q, ps[j]? = some q ∧ x = (Value.ref q.it, j) := by
      rw [List.getElem?_zipIdx] at hx
      simp only [List.getElem?_map, Option.map_map] at hx
      cases q : ps[j]? with
      | none => simp [q] at hx
      | some p => simp [q] at hx; exact ⟨p, rfl, hx.symm⟩
    obtain ⟨q, hq, rfl⟩ := hxq
    have hj : j < ps.length := (List.getElem?_eq_some_iff.mp hq).1
    refine wpAny_bind (wpAny_onRaise ?_)
    show wpAny _ _ (Builtin.SmallTypes.nextOf (.ref q.it) >>= _) _ _ _
    refine zstep hA ap hl hq (gk q (mem_at hq)) hW fun x s2 ⟨h, tk, es, px, hz, ⟨cur, c1, c2, c3⟩, hi, kp, szh⟩ => ?_
    subst es
    have c1' : h.get? TO = some { cls := .type "tuple", data := .seq cur } := c1
    refine wpAny_bind (wpAny_seqItems c1' rfl (wpAny_bind (wpAny_updateSeq c1' rfl ?_ (by rw [c2]; exact Nat.le_of_lt (small1000 hl)) (by simp; rw [c2]; exact Nat.le_succ_of_le (Nat.le_of_lt (small1000 hl))))))
    refine wpAny_bind (wpAny_letGo (wpAny_pure ⟨rfl, ?_⟩))
    have su : Heap.SameBut TO h (h.update TO (Obj.mapSeq (·.setIfInBounds j x))) := Heap.SameBut.update ..
    have gu : IsTupN (h.update TO (Obj.mapSeq (·.setIfInBounds j x))) TO (cur.setIfInBounds j x) := by
      show (h.update TO (Obj.mapSeq (·.setIfInBounds j x))).get? TO = _
      rw [Heap.get?_update_self _ c1' rfl]
      simp [Obj.mapSeq]
    refine ⟨_, tk, rfl, su.extBut _ _ (Ne.symm ap.oz) hz, ⟨_, gu, by simp [c2], fun l p hl' hp => ?_⟩, fun l p hp => ?_, fun c o n1 n2 n3 e => su.extBut _ _ n2 (kp c o n1 n2 n3 e), by rw [su.1]; exact szh⟩
    · by_cases e : l = j
      · subst e
        rw [hq] at hp; cases hp
        exact ⟨x, px, by rw [Array.getElem?_setIfInBounds_self_of_lt (by rw [c2]; exact hj)]⟩
      · obtain ⟨y, y1, y2⟩ := c3 l p (by omega) hp
        exact ⟨y, y1, by rw [Array.getElem?_setIfInBounds_ne (fun z => e z.symm)]; exact y2⟩
    · obtain ⟨a1, a2⟩ := hi l p hp
      exact ⟨a1.at fun o e => su.extBut _ _ (ap.iz p (mem_at hp)).2.2 e, a2.at fun o e => su.extBut _ _ (ap.az p (mem_at hp)).2 e⟩
  · obtain ⟨he, tk, rfl, hz, ⟨cur, c1, c2, c3⟩, hi, kp, szh⟩ := hW
    have ll : (List.zipIdx (ps.map fun p => Value.ref p.it).toArray.toList).length = ps.length := by simp
    have c1' : he.get? TO = some { cls := .type "tuple", data := .seq cur } := c1
    refine wpAny_bind (wpAny_seqItems c1' rfl (wpAny_bind (wpAny_newTuple ?_ (by simp; rw [c2]; exact Nat.le_of_lt (small1000 hl)))))
    have zlt : z < he.objs.size := Heap.lt_size hz
    show wpAny _ _ (Builtin.SmallTypes.ownedTupleHandOut (.ref z) (.ref he.objs.size) >>= _) _ _ _
    refine wpAny_bind ?_
    unfold Builtin.SmallTypes.ownedTupleHandOut
    have zf : IsZip (he.push { cls := .type "tuple", data := .seq cur.toList.toArray }) z TI TO .ellipsis := Heap.get?_push_of_some _ hz
    refine wpAny_bind (wpAny_setField_rec zf (by simp) fun hg zg sg => ?_)
    have zg' : IsZip hg z TI TO (rawInt he.objs.size) := zg
    refine wpAny_setField_rec zg' (by simp) fun hh zh sh => ?_
    have zh' : IsZip hh z TI TO (rawInt he.objs.size) := zh
    have up : ∀ c o, c ≠ z → he.get? c = some o → hh.get? c = some o := fun c o q e => sh.extBut _ _ q (sg.extBut _ _ q (Heap.get?_push_of_some _ e))
    have gTh : IsTupN hh he.objs.size cur.toList.toArray := sh.extBut _ _ (Nat.ne_of_gt zlt) (sg.extBut _ _ (Nat.ne_of_gt zlt) (Heap.get?_push_size _ rfl))
    have szz : hh.objs.size = he.objs.size + 1 := by rw [sh.1, sg.1, Heap.size_push]
    rw [szh] at zh' gTh szz
    refine wpAny_pure ⟨_, rfl, ?_⟩
    show Q (.ref he.objs.size) _
    rw [szh]
    refine gq cur.toList hh tk (by simp [c2]) (fun l q hq => ?_) zh' ⟨cur, up _ _ ap.oz c1, c2⟩ (fun p hp => ?_) gTh szz fun c o n1 n2 n3 e => up c o n1 (kp c o n1 n2 n3 e)
    · obtain ⟨x, x1, x2⟩ := c3 l q (by rw [ll]; exact (List.getElem?_eq_some_iff.mp hq).1) hq
      exact ⟨x, x1, by simpa using x2⟩
    · obtain ⟨l, hl'⟩ := List.getElem?_of_mem hp
      obtain ⟨a1, _⟩ := hi l p hl'
      rw [ll, if_pos (List.getElem?_eq_some_iff.mp hl').1] at a1
      exact a1.at fun o e => up _ _ (ap.iz p hp).1 e
theorem zipN_stop {z TI TO : Addr} {ps : List ZQ} {k m : Nat} {p : ZQ} {old : Array Value} {Q : Fin → Shared → Prop} (hA : A.handled = none) (ap : ZA z TI TO ps) (hl : ps.length ≤ 1000)
    (gz : IsZip s.heap z TI TO .none) (gI : IsTupN s.heap TI (ps.map fun p => Value.ref p.it).toArray) (gO : IsTupN s.heap TO old) (ho : old.size = ps.length)
    (gi : ∀ p ∈ ps, IterK p.κ s.heap p.it p.a k ∧ SeqK p.κ s.heap p.a p.items) (hm : ps[m]? = some p) (hpk : p.items.size = k) (gk : ∀ (j : Nat) (q : ZQ), j < m → ps[j]? = some q → k < q.items.size)
    (ge : ∀ h' tk e, (∀ c o, c ≠ z → c ≠ TO → (∀ q ∈ ps, c ≠ q.it) → s.heap.get? c = some o → h'.get? c = some o) → (∃ o, h'.get? e = some o ∧ o.cls = .type "StopIteration") → E (.ref e) { s with heap := h', toks := tk }) :
    wpAny (model prog w) A (Builtin.«zip.__next__» ⟨[.ref z], []⟩) Q E s := by
  show wpAny _ _ (field (.ref z) 2 >>= _) _ _ _
  refine wpAny_bind (wpAny_field gz rfl (x := .bool false) rfl ?_)
  show wpAny _ _ (field (.ref z) 3 >>= _) _ _ _
  refine wpAny_bind (wpAny_field gz rfl (x := .ref TI) rfl (wpAny_bind (wpAny_seqItems gI rfl ?_)))
  have hem : ((ps.map fun p => Value.ref p.it).toArray).isEmpty = false := by
    cases ps with
    | nil => simp at hm
    | cons p r => simp
  simp only [hem, Bool.false_eq_true, if_false]
  refine wpAny_bind ?_
  unfold Builtin.SmallTypes.ownedTupleIsFree
  refine wpAny_bind (wpAny_field gz rfl (x := .none) rfl (wpAny_pure ?_))
  simp only [if_true]
  refine wpAny_bind (wpAny_rule (wpAny_bind (wpAny_field gz rfl (x := .ref TO) rfl (wpAny_bind (wpAny_setField_rec gz (by simp) fun ha za sa => ?_)))))
  have za' : IsZip ha z TI TO .ellipsis := za
  refine wpAny_bind ?_
  have W0 : ZW s z TI TO ps k 0 { s with heap := ha } := by
    refine ⟨ha, s.toks, rfl, za', ⟨old, sa.extBut _ _ ap.oz gO, ho, fun l q h => absurd h (Nat.not_lt_zero _)⟩, fun l q hq => ?_, fun c o n1 n2 n3 e => sa.extBut _ _ n1 e, sa.1⟩
    obtain ⟨g1, g2⟩ := gi q (mem_at hq)
    rw [if_neg (Nat.not_lt_zero _)]
    exact ⟨g1.at fun o e => sa.extBut _ _ (ap.iz q (mem_at hq)).1 e, g2.at fun o e => sa.extBut _ _ (ap.az q (mem_at hq)).1 e⟩
  have atj : ∀ {j : Nat} {x : Value × Nat}, (List.zipIdx (ps.map fun p => Value.ref p.it).toArray.toList)[j]? = some x → ∃ q, ps[j]? = some q ∧ x = (Value.ref q.it, j) := fun {j x} hx => by
    rw [List.getElem?_zipIdx] at hx
    simp only [List.getElem?_map, Option.map_map] at hx
    cases q : ps[j]? with
    | none => simp [q] at hx
    | some p => simp [q] at hx; exact ⟨p, rfl, hx.symm⟩
  refine forIn_raise m _ (ZW s z TI TO ps k) _ _ (Value.ref p.it, m) (by rw [List.getElem?_zipIdx]; simp [hm]) (fun j x s' hjm hx hW => ?_) W0 (fun s' hW => ?_)
  · obtain ⟨q, hq, rfl⟩ := atj hx
    have hj : j < ps.length := (List.getElem?_eq_some_iff.mp hq).1
    refine wpAny_bind (wpAny_onRaise ?_)
    show wpAny _ _ (Builtin.SmallTypes.nextOf (.ref q.it) >>= _) _ _ _
    refine zstep hA ap hl hq (gk j q hjm hq) hW fun x s2 ⟨h, tk, es, px, hz, ⟨cur, c1, c2, c3⟩, hi, kp, szh⟩ => ?_
    subst es
    have c1' : h.get? TO = some { cls := .type "tuple", data := .seq cur } := c1
    refine wpAny_bind (wpAny_seqItems c1' rfl (wpAny_bind (wpAny_updateSeq c1' rfl ?_ (by rw [c2]; exact Nat.le_of_lt (small1000 hl)) (by simp; rw [c2]; exact Nat.le_succ_of_le (Nat.le_of_lt (small1000 hl))))))
    refine wpAny_bind (wpAny_letGo (wpAny_pure ⟨rfl, ?_⟩))
    have su : Heap.SameBut TO h (h.update TO (Obj.mapSeq (·.setIfInBounds j x))) := Heap.SameBut.update ..
    have gu : IsTupN (h.update TO (Obj.mapSeq (·.setIfInBounds j x))) TO (cur.setIfInBounds j x) := by
      show (h.update TO (Obj.mapSeq (·.setIfInBounds j x))).get? TO = _
      rw [Heap.get?_update_self _ c1' rfl]
      simp [Obj.mapSeq]
    refine ⟨_, tk, rfl, su.extBut _ _ (Ne.symm ap.oz) hz, ⟨_, gu, by simp [c2], fun l p hl' hp => ?_⟩, fun l p hp => ?_, fun c o n1 n2 n3 e => su.extBut _ _ n2 (kp c o n1 n2 n3 e), by rw [su.1]; exact szh⟩
    · by_cases e : l = j
      · subst e
        rw [hq] at hp; cases hp
        exact ⟨x, px, by rw [Array.getElem?_setIfInBounds_self_of_lt (by rw [c2]; exact hj)]⟩
      · obtain ⟨y, y1, y2⟩ := c3 l p (by omega) hp
        exact ⟨y, y1, by rw [Array.getElem?_setIfInBounds_ne (fun z => e z.symm)]; exact y2⟩
    · obtain ⟨a1, a2⟩ := hi l p hp
      exact ⟨a1.at fun o e => su.extBut _ _ (ap.iz p (mem_at hp)).2.2 e, a2.at fun o e => su.extBut _ _ (ap.az p (mem_at hp)).2 e⟩
  · obtain ⟨h, tk, rfl, hz, _, hi, kp, szh⟩ := hW
    have hpm := mem_at hm
    have D := drawsK (prog := prog) (w := w) p.κ hA p.it p.a (ap.ai p hpm p hpm) p.items
    obtain ⟨i1, i2⟩ := hi m p hm
    rw [if_neg (Nat.lt_irrefl m)] at i1
    refine wpAny_bind (wpAny_onRaise ?_)
    show wpAny _ _ (Builtin.SmallTypes.nextOf (.ref p.it) >>= _) _ _ _
    refine wpAny_bind (D.done _ _ _ (by rw [hpk]; exact ⟨i1, i2⟩) fun hb e sb he => ?_)
    obtain ⟨oe, q1, q2⟩ := he
    have sb' : Heap.ExtBut p.it h hb := sb
    have zb : IsZip hb z TI TO .ellipsis := sb' _ _ (Ne.symm (ap.iz p hpm).1) hz
    have hez : e ≠ z := fun x => by subst x; rw [zb] at q1; cases q1; simp at q2
    exact wpAny_setField_rec zb (by simp) fun hc _ sc => ge hc tk e (fun c o c1 c2 c3 x => sc.extBut _ _ c1 (sb' _ _ (c3 p hpm) (kp c o c1 c2 c3 x))) ⟨oe, sc.extBut _ _ hez q1, q2⟩
end
noncomputable def SqK (κ : Bool) (K : PySem.W.Frag) (H : Hp) (a : Addr) (xs : List V) : Prop := match κ with
  | true => SqT K H a xs
  | false => SqL K H a xs
section
variable {X : Cx} {pins : List (Addr × Obj)} {σ : St} {H : Hp} {s : Shared}
theorem Inv.sqK (I : Inv X pins σ H s) {κ : Bool} {a : Addr} {xs : List V} (h : SqK κ X.K H a xs) : ∃ its : List Value, Vals xs its ∧ SeqK κ s.heap a its.toArray := by
  cases κ
  · obtain ⟨its, r, p, _⟩ := I.list h
    exact ⟨its, r, p.isList⟩
  · obtain ⟨its, r, p, _⟩ := I.tuple h
    exact ⟨its, r, p⟩
theorem Inv.sqK_inj (I : Inv X pins σ H s) {κ : Bool} {a : Addr} {xs ys : List V} (h : SqK κ X.K H a xs) (h' : SqK κ X.K H a ys) : xs = ys := by
  cases κ
  · exact I.list_inj h h'
  · exact I.tuple_inj h h'
theorem Inv.notfp (I : Inv X pins σ H s) {κ : Bool} {a b : Addr} {xs : List V} (h : SqK κ X.K H a xs) (f : FpOk X pins H b) : a ≠ b := by
  have kk : ∀ {o : Obj}, X.K.lookup a = some o → a ≠ b := fun {o} hk z => by
    have hb : X.base.get? a = some o := I.mod.kin a o hk
    subst z
    rcases f.2.2.2.1 with z | z
    · exact I.ok.noex a o hb z
    · exact absurd (Nat.lt_of_lt_of_le (Nat.lt_of_lt_of_le (Heap.lt_size hb) I.ok.bsz) z) (Nat.lt_irrefl _)
  have hh : ∀ {u : HO}, Rd H a u → a ≠ b := fun {u} r z => by
    subst z
    have := f.1
    rcases r with r | ⟨o, r⟩
    · rw [this] at r; cases r
    · rw [this] at r; cases r
  cases κ
  · rcases h with h | ⟨o, its, n, hk, _⟩
    · exact hh h
    · exact kk hk
  · rcases h with h | ⟨o, its, n, hk, _⟩
    · exact hh h
    · exact kk hk
theorem exQ (I : Inv X pins σ H s) : ∀ (ps : List (Bool × Addr)) (its : List Addr), its.length = ps.length → (∀ p ∈ ps, ∃ xs, SqK p.1 X.K H p.2 xs) →
    ∃ qs : List ZQ, qs.map (fun q => (q.κ, q.a)) = ps ∧ qs.map (·.it) = its ∧ ∀ q ∈ qs, SeqK q.κ s.heap q.a q.items ∧ ∃ xs, SqK q.κ X.K H q.a xs ∧ Vals xs q.items.toList
  | [], [], _, _ => ⟨[], rfl, rfl, fun q h => absurd h (by simp)⟩
  | [], _ :: _, e, _ => by simp at e
  | _ :: _, [], e, _ => by simp at e
  | p :: ps, it :: its, e, h => by
    obtain ⟨qs, h1, h2, h3⟩ := exQ I ps its (by simpa using e) fun q hq => h q (by simp [hq])
    obtain ⟨xs, hx⟩ := h p (by simp)
    obtain ⟨vs, r, sk⟩ := I.sqK hx
    refine ⟨⟨p.1, p.2, it, vs.toArray⟩ :: qs, by simp [h1], by simp [h2], fun q hq => ?_⟩
    rcases List.mem_cons.mp hq with rfl | hq
    · exact ⟨sk, xs, hx, by simpa using r⟩
    · exact h3 q hq
end
noncomputable def Itn (K : PySem.W.Frag) (ps : List (Bool × Addr)) : It :=
  ⟨fun i H => ∀ p ∈ ps, ∃ xs x, SqK p.1 K H p.2 xs ∧ xs[i]? = some x,
   fun i H v H' => ∃ (q : Addr) (ys : List V), v = .ref q ∧ H q = none ∧ H' = upd H q (.tup ys) ∧ ys.length = ps.length ∧ ∀ (j : Nat) (p : Bool × Addr) (y : V), ps[j]? = some p → ys[j]? = some y → ∀ xs, SqK p.1 K H p.2 xs → xs[i]? = some y,
   fun i H => (∀ p ∈ ps, ∃ xs, SqK p.1 K H p.2 xs) ∧ ∃ (m : Nat) (p : Bool × Addr), ps[m]? = some p ∧ (∃ xs, SqK p.1 K H p.2 xs ∧ xs.length = i) ∧ ∀ (j : Nat) (q : Bool × Addr), j < m → ps[j]? = some q → ∃ xs x, SqK q.1 K H q.2 xs ∧ xs[i]? = some x⟩
noncomputable def ZT (z TI TO : Addr) (ps : List (Bool × Addr)) (its : List Addr) (i : Nat) (h : Heap) : Prop := IsZip h z TI TO .none ∧ IsTupN h TI (its.map Value.ref).toArray ∧ (∃ old : Array Value, IsTupN h TO old ∧ old.size = ps.length) ∧
  ∀ (j : Nat) (p : Bool × Addr) (it : Addr), ps[j]? = some p → its[j]? = some it → IterK p.1 h it p.2 i
theorem turn_zipN {P : Program} {w : World} {K : PySem.W.Frag} {elts : List Expr} {x1} {tpos : Pos} (z TI TO : Addr) (ps : List (Bool × Addr)) (its : List Addr) (hl : its.length = ps.length) (hne : ps ≠ []) (hz : ps.length ≤ 1000) (nd : (z :: TI :: TO :: its).Nodup) :
    Turn P w K (.Tuple elts x1 tpos) (Itn K ps) (z :: TI :: TO :: its) z (ZT z TI TO ps its) := by
  simp only [List.nodup_cons, List.mem_cons, not_or] at nd
  obtain ⟨⟨n1, n2, n3⟩, ⟨n4, n5⟩, n6, n7⟩ := nd
  have apart : ∀ {X : Cx} {pins : List (Addr × Obj)} {σ : St} {H : Hp} {s : Shared} {qs : List ZQ}, Inv X pins σ H s → (∀ c ∈ z :: TI :: TO :: its, FpOk X pins H c) → qs.map (·.it) = its → (∀ q ∈ qs, ∃ xs, SqK q.κ X.K H q.a xs) → ZA z TI TO qs := by
    intro X pins σ H s qs I hf e1 hq
    have mi : ∀ q ∈ qs, q.it ∈ its := fun q hq => by rw [← e1]; exact List.mem_map_of_mem hq
    refine ⟨fun e => n1 e.symm, fun e => n2 e.symm, n4, fun p hp => ⟨fun e => n3 (e ▸ mi p hp), fun e => n5 (e ▸ mi p hp), fun e => n6 (e ▸ mi p hp)⟩, fun p hp => ?_, fun p hp q hq' => ?_, fun i j p q hi hj e => ?_⟩
    · obtain ⟨xs, hx⟩ := hq p hp
      exact ⟨I.notfp hx (hf z (by simp)), I.notfp hx (hf TO (by simp))⟩
    · obtain ⟨xs, hx⟩ := hq p hp
      exact I.notfp hx (hf q.it (by simp [mi q hq']))
    · have hi' : its[i]? = some p.it := by rw [← e1, List.getElem?_map, hi]; rfl
      have hj' : its[j]? = some q.it := by rw [← e1, List.getElem?_map, hj]; rfl
      exact (List.getElem?_inj (List.getElem?_eq_some_iff.mp hi').1 n7).mp (by rw [hi', hj', e])
  refine ⟨by simp, fun i h st c hc => ?_, fun i h h' st k => ?_, ?_, ?_, fun _ _ _ _ _ st h => wpAny_pyIter_zip st.1 h⟩
  · obtain ⟨s1, s2, ⟨old, s3, _⟩, s4⟩ := st
    simp only [List.mem_cons] at hc
    rcases hc with rfl | rfl | rfl | hc
    · exact ⟨_, s1, fun v z => by cases z⟩
    · exact ⟨_, s2, fun v z => by cases z⟩
    · exact ⟨_, s3, fun v z => by cases z⟩
    · obtain ⟨j, hj⟩ := List.getElem?_of_mem hc
      have hjl : j < ps.length := by rw [← hl]; exact (List.getElem?_eq_some_iff.mp hj).1
      exact (s4 j _ c (List.getElem?_eq_getElem hjl) hj).obj
  · obtain ⟨s1, s2, ⟨old, s3, s3'⟩, s4⟩ := st
    exact ⟨k z (by simp) _ s1, k TI (by simp) _ s2, ⟨old, k TO (by simp) _ s3, s3'⟩, fun j p it hp hit => (s4 j p it hp hit).at fun o e => k it (by simp [List.mem_of_getElem? hit]) o e⟩
  · intro X hP hw hK hc i pins s σ H E I hf st hg
    subst hP hw hK
    obtain ⟨s1, s2, ⟨old, s3, s3'⟩, s4⟩ := st
    obtain ⟨qs, e1, e2, h3⟩ := exQ I ps its hl fun p hp => let ⟨xs, _, h, _⟩ := hg p hp; ⟨xs, h⟩
    have hlq : qs.length = ps.length := by rw [← e1, List.length_map]
    have ap := apart I hf e2 fun q hq => let ⟨_, xs, h, _⟩ := h3 q hq; ⟨xs, h⟩
    have hA : X.A.in1.handled = none := I.ok.hd hc
    have hzz : s.TypeIs (.ref z) "zip" := ⟨_, s1, rfl⟩
    have atp : ∀ {j : Nat} {q : ZQ}, qs[j]? = some q → ps[j]? = some (q.κ, q.a) ∧ its[j]? = some q.it := fun {j q} h => ⟨by rw [← e1, List.getElem?_map, h]; rfl, by rw [← e2, List.getElem?_map, h]; rfl⟩
    have gi : ∀ q ∈ qs, IterK q.κ s.heap q.it q.a i ∧ SeqK q.κ s.heap q.a q.items := fun q hq => by
      obtain ⟨j, hj⟩ := List.getElem?_of_mem hq
      exact ⟨s4 j _ _ (atp hj).1 (atp hj).2, (h3 q hq).1⟩
    have gk : ∀ q ∈ qs, i < q.items.size := fun q hq => by
      obtain ⟨j, hj⟩ := List.getElem?_of_mem hq
      obtain ⟨xs, x, q1, q2⟩ := hg _ (List.mem_of_getElem? (atp hj).1)
      obtain ⟨_, ys, r1, r2⟩ := h3 q hq
      rw [I.sqK_inj q1 r1] at q2
      have := (List.getElem?_eq_some_iff.mp q2).1
      have := r2.length
      simp at this
      omega
    have gI : IsTupN s.heap TI (qs.map fun p => Value.ref p.it).toArray := by
      have : (qs.map fun p => Value.ref p.it) = its.map Value.ref := by rw [← e2, List.map_map]; rfl
      rw [this]; exact s2
    unfold pyNext
    refine wpAny_bind (wpAny_attempt (wpAny_callSpecial?_slot (name := Str.ofString "__next__") hzz F.slot_zip_next (wpAny_call_entry F.slot_zip_next hzz F.entry_zip_next
      (zipN_draw hA ap (fun z => by rw [z] at hlq; exact hne (List.eq_nil_of_length_eq_zero (by simpa using hlq.symm))) (by omega) s1 gI s3 (by omega) gi gk fun vs h' tk lv pv zz zo g1 zt sz kp => wpAny_pure ?_) (F.args_zip_next_1 _))))
    refine ⟨_, rfl, wpAny_letOwnedTupleGo_zip zz fun h2 z2 sb => ?_⟩
    have hzn : z ≠ s.heap.objs.size := Nat.ne_of_lt (Heap.lt_size s1)
    have kk : ∀ c o, c ∉ z :: TI :: TO :: its → s.heap.get? c = some o → h2.get? c = some o := fun c o hc q => by
      simp only [List.mem_cons, not_or] at hc
      refine sb.extBut c o hc.1 (kp c o hc.1 hc.2.2.1 (fun q' hq' e => hc.2.2.2 ?_) q)
      rw [e, ← e2]; exact List.mem_map_of_mem hq'
    -- the items, as they are told
    obtain ⟨ys, hys, ry⟩ : ∃ ys : List V, (ys.length = ps.length ∧ ∀ (j : Nat) (p : Bool × Addr) (y : V), ps[j]? = some p → ys[j]? = some y → ∀ xs, SqK p.1 X.K H p.2 xs → xs[i]? = some y) ∧ Vals ys vs := by
      have key : ∀ (n : Nat) (rs : List ZQ) (us : List Value), rs.length = n → us.length = n → (∀ q ∈ rs, ∃ xs, SqK q.κ X.K H q.a xs ∧ Vals xs q.items.toList) → (∀ (l : Nat) (q : ZQ), rs[l]? = some q → ∃ x, q.items[i]? = some x ∧ us[l]? = some x) →
          ∃ ys : List V, ys.length = n ∧ Vals ys us ∧ ∀ (j : Nat) (q : ZQ) (y : V), rs[j]? = some q → ys[j]? = some y → ∀ xs, SqK q.κ X.K H q.a xs → xs[i]? = some y := by
        intro n
        induction n with
        | zero =>
          intro rs us h1 h2 _ _
          refine ⟨[], rfl, ?_, fun j q y hq => ?_⟩
          · rw [List.eq_nil_of_length_eq_zero h2]; exact .nil
          · rw [List.eq_nil_of_length_eq_zero h1] at hq; simp at hq
        | succ n ih =>
          intro rs us h1 h2 h4 h5
          match rs, us, h1, h2 with
          | q :: rs, u :: us, h1, h2 =>
            obtain ⟨ys, l1, l2, l3⟩ := ih rs us (by simpa using h1) (by simpa using h2) (fun q' hq' => h4 q' (by simp [hq'])) (fun l q' hq' => by have := h5 (l + 1) q' (by simpa using hq'); simpa using this)
            obtain ⟨xs, a1, a2⟩ := h4 q (by simp)
            obtain ⟨x, b1, b2⟩ := h5 0 q rfl
            simp at b2; subst b2
            have b1' : q.items.toList[i]? = some u := by simpa using b1
            have hi : i < xs.length := by rw [a2.length]; exact (List.getElem?_eq_some_iff.mp b1').1
            obtain ⟨u', c1, c2⟩ := a2.get (List.getElem?_eq_getElem hi)
            rw [b1'] at c1; cases c1
            refine ⟨xs[i] :: ys, by simp [l1], .cons c2 l2, fun j q' y hq hy zs hz' => ?_⟩
            cases j with
            | zero =>
              simp at hq hy; subst hq; subst hy
              rw [I.sqK_inj hz' a1]
              exact List.getElem?_eq_getElem hi
            | succ j => exact l3 j q' y (by simpa using hq) (by simpa using hy) zs hz'
      obtain ⟨ys, l1, l2, l3⟩ := key qs.length qs vs rfl lv (fun q hq => (h3 q hq).2) pv
      refine ⟨ys, ⟨by omega, fun j p y hp hy xs hx => ?_⟩, l2⟩
      have hjl : j < qs.length := by rw [hlq]; exact (List.getElem?_eq_some_iff.mp hp).1
      have hq := List.getElem?_eq_getElem hjl
      have := (atp hq).1
      rw [hp] at this; cases this
      exact l3 j _ y hq hy xs hx
    have new : ObjOk X.prog X.w (upd H s.heap.objs.size (.tup ys)) h2 s.heap.objs.size (.tup ys) :=
      ⟨by rw [hys.1]; exact Nat.le_of_lt (small1000 hz), vs, ry, ⟨_, sb.extBut _ _ (Ne.symm hzn) zt, rfl, _, rfl⟩⟩
    have up : ∀ {c : Addr} {o : Obj}, c ≠ z → h'.get? c = some o → h2.get? c = some o := fun hc q => sb.extBut _ _ hc q
    refine ⟨.ref s.heap.objs.size, upd H s.heap.objs.size (.tup ys), I.turnedLaid (t' := tk) (ch := z :: TI :: TO :: its) kk hf (Nat.le_refl _) new, rfl,
      ⟨_, ys, rfl, I.hok.fresh (Nat.le_refl _), rfl, hys.1, hys.2⟩, ⟨z2, up (fun e => n1 e.symm) (kp _ _ (fun e => n1 e.symm) n4 (fun q hq => fun e => (ap.iz q hq).2.1 e.symm) s2), ?_, fun j p it hp hit => ?_⟩, fun c hc => ?_⟩
    · obtain ⟨cur, u1, u2⟩ := zo
      exact ⟨cur, up ap.oz u1, by omega⟩
    · have hjl : j < qs.length := by rw [hlq]; exact (List.getElem?_eq_some_iff.mp hp).1
      have hq := List.getElem?_eq_getElem hjl
      have q1 := (atp hq).1; have q2 := (atp hq).2
      rw [hp] at q1; cases q1
      rw [hit] at q2; cases q2
      exact (g1 _ (List.getElem_mem hjl)).at fun o e => up (ap.iz _ (List.getElem_mem hjl)).1 e
    · have hlt : c < s.heap.objs.size := by
        simp only [List.mem_cons] at hc
        rcases hc with rfl | rfl | rfl | hc
        · exact Heap.lt_size s1
        · exact Heap.lt_size s2
        · exact Heap.lt_size s3
        · obtain ⟨j, hj⟩ := List.getElem?_of_mem hc
          have hjl : j < ps.length := by rw [← hl]; exact (List.getElem?_eq_some_iff.mp hj).1
          obtain ⟨o, e, _⟩ := (s4 j _ c (List.getElem?_eq_getElem hjl) hj).obj
          exact Heap.lt_size e
      rw [upd_ne (Nat.ne_of_lt hlt)]
      exact (hf c hc).1
  · intro X hP hw hK hc i pins s σ H E I hf st hg
    subst hP hw hK
    obtain ⟨hall, m, pm, hm, ⟨xm, hxm, hlm⟩, hb⟩ := hg
    obtain ⟨s1, s2, ⟨old, s3, s3'⟩, s4⟩ := st
    obtain ⟨qs, e1, e2, h3⟩ := exQ I ps its hl hall
    have hlq : qs.length = ps.length := by rw [← e1, List.length_map]
    have ap := apart I hf e2 fun q hq => let ⟨_, xs, h, _⟩ := h3 q hq; ⟨xs, h⟩
    have hA : X.A.in1.handled = none := I.ok.hd hc
    have hzz : s.TypeIs (.ref z) "zip" := ⟨_, s1, rfl⟩
    have atp : ∀ {j : Nat} {q : ZQ}, qs[j]? = some q → ps[j]? = some (q.κ, q.a) ∧ its[j]? = some q.it := fun {j q} h => ⟨by rw [← e1, List.getElem?_map, h]; rfl, by rw [← e2, List.getElem?_map, h]; rfl⟩
    have gi : ∀ q ∈ qs, IterK q.κ s.heap q.it q.a i ∧ SeqK q.κ s.heap q.a q.items := fun q hq => by
      obtain ⟨j, hj⟩ := List.getElem?_of_mem hq
      exact ⟨s4 j _ _ (atp hj).1 (atp hj).2, (h3 q hq).1⟩
    have gI : IsTupN s.heap TI (qs.map fun p => Value.ref p.it).toArray := by
      have : (qs.map fun p => Value.ref p.it) = its.map Value.ref := by rw [← e2, List.map_map]; rfl
      rw [this]; exact s2
    have hml : m < qs.length := by rw [hlq]; exact (List.getElem?_eq_some_iff.mp hm).1
    have hqm := List.getElem?_eq_getElem hml
    have hpm : qs[m].items.size = i := by
      have q1 := (atp hqm).1
      rw [hm] at q1; cases q1
      obtain ⟨_, ys, r1, r2⟩ := h3 _ (List.getElem_mem hml)
      rw [I.sqK_inj hxm r1] at hlm
      have := r2.length
      simp at this
      omega
    have gk : ∀ (j : Nat) (q : ZQ), j < m → qs[j]? = some q → i < q.items.size := fun j q hj hq => by
      obtain ⟨xs, x, q1, q2⟩ := hb j _ hj (atp hq).1
      obtain ⟨_, ys, r1, r2⟩ := h3 q (mem_at hq)
      rw [I.sqK_inj q1 r1] at q2
      have := (List.getElem?_eq_some_iff.mp q2).1
      have := r2.length
      simp at this
      omega
    unfold pyNext
    refine wpAny_bind (wpAny_attempt (wpAny_callSpecial?_slot (name := Str.ofString "__next__") hzz F.slot_zip_next (wpAny_call_entry F.slot_zip_next hzz F.entry_zip_next
      (zipN_stop hA ap (by omega) s1 gI s3 (by omega) gi hqm hpm gk fun h' tk e kp he => ?_) (F.args_zip_next_1 _))))
    obtain ⟨o, ho, hco⟩ := he
    refine wpAny_bind (wpAny_isInstance (T := "StopIteration") (b := true) ⟨o, ho, hco⟩ isSubtype_stop (wpAny_pure ⟨rfl, ?_⟩))
    refine I.turnedL (t' := tk) (ch := z :: TI :: TO :: its) (fun c o hc q => ?_) hf
    simp only [List.mem_cons, not_or] at hc
    refine kp c o hc.1 hc.2.2.1 (fun q' hq' e => hc.2.2.2 ?_) q
    rw [e, ← e2]; exact List.mem_map_of_mem hq'
noncomputable def zip2T : List T → List T → List T
  | x :: xs, y :: ys => .tup [x, y] :: zip2T xs ys
  | _, _ => []
theorem zip2T_len : ∀ xs ys : List T, (zip2T xs ys).length = min xs.length ys.length
  | [], _ => by simp [zip2T]
  | _ :: _, [] => by simp [zip2T]
  | _ :: xs, _ :: ys => by simp [zip2T, zip2T_len xs ys]
theorem zip2T_at : ∀ {xs ys : List T} {i : Nat} {t : T}, (zip2T xs ys)[i]? = some t → ∃ x y, xs[i]? = some x ∧ ys[i]? = some y ∧ t = .tup [x, y]
  | [], _, _, _, h => by simp [zip2T] at h
  | _ :: _, [], _, _, h => by simp [zip2T] at h
  | x :: _, y :: _, 0, _, h => by simp [zip2T] at h; exact ⟨x, y, rfl, rfl, h.symm⟩
  | _ :: xs, _ :: ys, i + 1, t, h => by
    obtain ⟨x, y, h1, h2, h3⟩ := zip2T_at (xs := xs) (ys := ys) (i := i) (t := t) (by simpa [zip2T] using h)
    exact ⟨x, y, by simpa using h1, by simpa using h2, h3⟩
noncomputable def sqOf (κ : Bool) (xs : List T) : T := match κ with
  | true => .tup xs
  | false => .lst xs
theorem sq_rp {K : PySem.W.Frag} {H : Hp} {O : Addr → Prop} {κ : Bool} {xs : List T} {a : Addr} (h : Rp K H O (sqOf κ xs) (.ref a)) : ∃ vs, SqK κ K H a vs ∧ Rps K H O xs vs := by
  cases κ
  · obtain ⟨a', vs, e, h1, h2⟩ := Rp.sqL h; cases e; exact ⟨vs, h1, h2⟩
  · obtain ⟨a', vs, e, h1, h2⟩ := Rp.sqT h; cases e; exact ⟨vs, h1, h2⟩
theorem itn2_ok {K : PySem.W.Frag} {κ : Bool} {a b : Addr} {xs ys : List T} : ItOk K (Itn K [(κ, a), (κ, b)]) (zip2T xs ys) (fun H O => Rp K H O (sqOf κ xs) (.ref a) ∧ Rp K H O (sqOf κ ys) (.ref b)) := by
  refine ⟨fun H H' O O' k h => ⟨Rp.step k h.1, Rp.step k h.2⟩, fun i H O h hi => ?_, fun i H O x H' t h e hO y => ?_, fun H O h => ?_⟩
  · obtain ⟨vs, s1, r1⟩ := sq_rp h.1
    obtain ⟨ws, s2, r2⟩ := sq_rp h.2
    rw [zip2T_len] at hi
    intro p hp
    simp only [List.mem_cons, List.not_mem_nil, or_false] at hp
    rcases hp with rfl | rfl
    · exact ⟨vs, vs[i]'(by rw [r1.length]; omega), s1, List.getElem?_eq_getElem _⟩
    · exact ⟨ws, ws[i]'(by rw [r2.length]; omega), s2, List.getElem?_eq_getElem _⟩
  · obtain ⟨vs, s1, r1⟩ := sq_rp h.1
    obtain ⟨ws, s2, r2⟩ := sq_rp h.2
    obtain ⟨q, us, e1, hq, e2, lu, hu⟩ := y
    subst e1; subst e2
    obtain ⟨t1, t2, g1, g2, rfl⟩ := zip2T_at e
    obtain ⟨v1, a1, b1⟩ := r1.get g1
    obtain ⟨v2, a2, b2⟩ := r2.get g2
    match us, lu with
    | [u1, u2], _ =>
      have z1 := hu 0 _ u1 rfl rfl vs s1
      have z2 := hu 1 _ u2 rfl rfl ws s2
      rw [a1] at z1; cases z1
      rw [a2] at z2; cases z2
      have k : Kp O O H (upd H q (.tup [v1, v2])) := Kp.upd hq
      exact ⟨k, fun b o z => by rw [upd_ne (ne_of_none z hq)]; exact z, q, _, rfl, .inl ⟨fun z => hO q z hq, .inl upd_same⟩, v1, _, rfl, b1.step k, v2, _, rfl, b2.step k, rfl⟩
  · obtain ⟨vs, s1, r1⟩ := sq_rp h.1
    obtain ⟨ws, s2, r2⟩ := sq_rp h.2
    have l1 := r1.length; have l2 := r2.length
    refine ⟨fun p hp => ?_, ?_⟩
    · simp only [List.mem_cons, List.not_mem_nil, or_false] at hp
      rcases hp with rfl | rfl
      · exact ⟨vs, s1⟩
      · exact ⟨ws, s2⟩
    · rw [zip2T_len]
      by_cases c : xs.length ≤ ys.length
      · exact ⟨0, _, rfl, ⟨vs, s1, by omega⟩, fun j q hj => absurd hj (Nat.not_lt_zero _)⟩
      · refine ⟨1, _, rfl, ⟨ws, s2, by omega⟩, fun j q hj hq => ?_⟩
        obtain rfl : j = 0 := by omega
        cases hq
        exact ⟨vs, vs[min xs.length ys.length]'(by omega), s1, List.getElem?_eq_getElem _⟩
section
variable {X : Cx} {K : PySem.W.Frag} {pos : Pos} {Fr : FA}
noncomputable def iZ2 (K : PySem.W.Frag) (ta : TA) : TI := fun σ H R => ta σ H fun vs H1 => ∃ κ a b xs ys, vs = [.ref a, .ref b] ∧ SqK κ K H1 a xs ∧ SqK κ K H1 b ys ∧ R (Itn K [(κ, a), (κ, b)]) H1
theorem qi_z2 {l r : Expr} {ta : TA} {p tpos : Pos} {elts : List Expr} {x1} (hg : Gl X "zip") (hm : X.mg "zip" = none) (ha : QA X [l, r] ta) (hs : isStar l = false := by rfl) (hs2 : isStar r = false := by rfl) :
    QI X (.Tuple elts x1 tpos) (.Call (.Name "zip" p) [l, r] [] pos) (iZ2 X.K ta) := ⟨by
  intro pins s σ H R I h
  refine Call_ (ld_blt I hg hm boot_zip (PyProof.Rows.callWith_type1 (thn (ha.h pos pins s σ H _ I h) fun us s1 ⟨vs, H1, I1, r1, q1⟩ => ?_) (star_ok hs) (star_any (by simp only [noStar, hs2]; rfl))))
  obtain ⟨κ, a, b, xs, ys, rfl, ga, gb, q⟩ := q1
  obtain ⟨u, v, rfl, ru, rv⟩ := Vals.two r1
  cases ru
  cases rv
  obtain ⟨ia, ra, qa⟩ := I1.sqK ga
  obtain ⟨ib, rb, qb⟩ := I1.sqK gb
  have fin : ∀ h', IsZip h' (s1.heap.objs.size + 4) (s1.heap.objs.size + 2) (s1.heap.objs.size + 3) .none → IsPair h' (s1.heap.objs.size + 2) (.ref s1.heap.objs.size) (.ref (s1.heap.objs.size + 1)) → IsPair h' (s1.heap.objs.size + 3) .none .none →
      IterK κ h' s1.heap.objs.size a 0 → IterK κ h' (s1.heap.objs.size + 1) b 0 → (∀ c o, s1.heap.get? c = some o → h'.get? c = some o) →
      wpAny (model X.prog X.w) X.A (pyIter (.ref (s1.heap.objs.size + 4))) (PIE X pins σ (.Tuple elts x1 tpos) R) X.xe { s1 with heap := h' } := fun h' z1 z2 z3 z4 z5 kp => by
    refine wpAny_pyIter_zip z1 ?_
    refine ⟨s1.heap.objs.size + 4, _, _, _, H1, rfl, I1.kept (t' := s1.toks) kp, turn_zipN _ (s1.heap.objs.size + 2) (s1.heap.objs.size + 3) [(κ, a), (κ, b)] [s1.heap.objs.size, s1.heap.objs.size + 1] rfl (by simp) (by simp) (nd5 _), ⟨z1, z2, ⟨_, z3, rfl⟩, fun j pq it hp hit => ?_⟩, fun c hc => ?_, q⟩
    · match j, hp, hit with
      | 0, hp, hit => cases hp; cases hit; exact z4
      | 1, hp, hit => cases hp; cases hit; exact z5
    · have hle : s1.heap.objs.size ≤ c := ge5 hc
      exact I1.fpOk hle (I1.hok.fresh hle)
  cases κ
  · exact call_zip_2 qa qb fun h' z1 z2 z3 z4 z5 _ kp => fin h' z1 z2 z3 z4 z5 kp
  · exact call_zipT qa qb fun h' z1 z2 z3 z4 z5 kp => fin h' z1 z2 z3 z4 z5 kp⟩
noncomputable def iZip2 (Fr : FA) : FI := fun E Q => Fr E fun rs E1 => match rs with
  | [x, y] => (match vl E1 x, vl E1 y with
    | some (.lst xs), some (.lst ys) => Q (zip2T xs ys) (usd E1 x ++ usd E1 y) E1
    | some (.tup xs), some (.tup ys) => Q (zip2T xs ys) (usd E1 x ++ usd E1 y) E1
    | _, _ => False)
  | _ => False
theorem fi_zip2 {n : Nat} {l r : Expr} {p tpos : Pos} {elts : List Expr} {x1} (eK : X.K = K) (hg : Gl X "zip") (hm : X.mg "zip" = none) (ha : QA X [l, r] (simA K n Fr)) (hs : isStar l = false := by rfl) (hs2 : isStar r = false := by rfl) :
    QI X (.Tuple elts x1 tpos) (.Call (.Name "zip" p) [l, r] [] pos) (simI K (iZip2 Fr)) := by
  subst eK
  refine (qi_z2 hg hm ha hs hs2).le fun σ H R hn ⟨B, S, E, Q', hS, re, hF, lk⟩ => ⟨B, S, E, _, hS, re, hF, fun rs E1 vs H1 S1 q g re1 rr hn => ?_⟩
  match rs, rr, q with
  | [x, y], ⟨v, ws, e1, h1, u, ws', e2, h2, h3⟩, q =>
    cases h3; subst e2; subst e1
    have own : ∀ j ∈ usd E1 x ++ usd E1 y, ∃ k xs, E1[j]? = some (some (U.o k xs)) := fun j hj => by
      rcases List.mem_append.mp hj with h | h
      · exact usd_own j h
      · exact usd_own j h
    simp only at q
    split at q
    · rename_i xs ys e1 e2
      obtain ⟨a, vs, e3, sq1, r1⟩ := re1.vl h1 e1
      obtain ⟨b, us, e4, sq2, r2⟩ := re1.vl h2 e2
      refine ⟨false, a, b, vs, us, by rw [e3, e4], sq1, sq2, lk _ _ _ _ _ _ _ q g re1 itn2_ok own fun O k1 k2 => ?_⟩
      rw [← e3, ← e4]
      exact ⟨rd_of re1 h1 e1 O k1 fun j hj => k2 j (by simp [hj]), rd_of re1 h2 e2 O k1 fun j hj => k2 j (by simp [hj])⟩
    · rename_i xs ys e1 e2
      obtain ⟨a, vs, e3, sq1, r1⟩ := re1.vl h1 e1
      obtain ⟨b, us, e4, sq2, r2⟩ := re1.vl h2 e2
      refine ⟨true, a, b, vs, us, by rw [e3, e4], sq1, sq2, lk _ _ _ _ _ _ _ q g re1 itn2_ok own fun O k1 k2 => ?_⟩
      rw [← e3, ← e4]
      exact ⟨rd_of re1 h1 e1 O k1 fun j hj => k2 j (by simp [hj]), rd_of re1 h2 e2 O k1 fun j hj => k2 j (by simp [hj])⟩
    · exact q.elim
  | [], _, q => exact q.elim
  | [_], _, q => exact q.elim
  | _ :: _ :: _ :: _, _, q => exact q.elim
end
end L2
set_option Elab.async false
set_option linter.all false
set_option maxRecDepth 100000
set_option maxHeartbeats 4000000
namespace My
open PySem L2 PyProof.Rows
theorem gcd_step (x y : Nat) : Nat.gcd y (x % y) = Nat.gcd x y := by
  rw [Nat.gcd_comm x y, Nat.gcd_rec y x, Nat.gcd_comm]
noncomputable def lowN (n d : Int) : Int := (if 0 < d then n else -n) / ((Nat.gcd n.natAbs d.natAbs : Nat) : Int)
noncomputable def lowD (n d : Int) : Int := (if 0 < d then d else -d) / ((Nat.gcd n.natAbs d.natAbs : Nat) : Int)
theorem low_core {n d : Int} {g : Nat} (hd : 0 < d) (hg : g = Nat.gcd n.natAbs d.natAbs) : (n / (g : Int)).natAbs ≤ n.natAbs ∧ 1 ≤ d / (g : Int) ∧ d / (g : Int) ≤ d ∧ Nat.gcd (n / (g : Int)).natAbs (d / (g : Int)).natAbs = 1 := by
  have g0 : 0 < g := by rw [hg]; exact Nat.gcd_pos_of_pos_right _ (by omega)
  have dn : (g : Int) ∣ n := by rw [hg]; exact Int.ofNat_dvd_left.mpr (Nat.gcd_dvd_left _ _)
  have dd : (g : Int) ∣ d := by rw [hg]; exact Int.ofNat_dvd_left.mpr (Nat.gcd_dvd_right _ _)
  have en : (n / (g : Int)).natAbs = n.natAbs / g := by rw [Int.natAbs_ediv_of_dvd dn]; simp
  have ed : (d / (g : Int)).natAbs = d.natAbs / g := by rw [Int.natAbs_ediv_of_dvd dd]; simp
  refine ⟨by rw [en]; exact Nat.div_le_self _ _, ?_, ?_, ?_⟩
  · obtain ⟨k, hk⟩ := dd
    have hg' : (0 : Int) < g := by omega
    rw [hk, Int.mul_ediv_cancel_left _ (by omega)]
    rcases Int.lt_or_le 0 k with h | h
    · omega
    · have : (g : Int) * k ≤ 0 := Int.mul_nonpos_of_nonneg_of_nonpos (by omega) h
      omega
  · exact Int.ediv_le_self _ (by omega)
  · rw [en, ed, Nat.gcd_div (by rw [hg]; exact Nat.gcd_dvd_left _ _) (by rw [hg]; exact Nat.gcd_dvd_right _ _), ← hg, Nat.div_self g0]
theorem low_facts {n d : Int} (hd : d ≠ 0) : (lowN n d).natAbs ≤ n.natAbs ∧ 1 ≤ lowD n d ∧ lowD n d ≤ d.natAbs ∧ Nat.gcd (lowN n d).natAbs (lowD n d).natAbs = 1 := by
  unfold lowN lowD
  by_cases h : 0 < d
  · rw [if_pos h, if_pos h]
    have := low_core (n := n) (d := d) h rfl
    refine ⟨this.1, this.2.1, ?_, this.2.2.2⟩
    have := this.2.2.1
    omega
  · rw [if_neg h, if_neg h]
    have h' : 0 < -d := by omega
    have := low_core (n := -n) (d := -d) h' rfl
    simp only [Int.natAbs_neg] at this
    refine ⟨this.1, this.2.1, ?_, this.2.2.2⟩
    have := this.2.2.1
    omega
noncomputable abbrev Fr := Int × Int
structure Nrm (p : Fr) : Prop where
  d : 1 ≤ p.2
  g : Nat.gcd p.1.natAbs p.2.natAbs = 1
noncomputable def low (n d : Int) : Fr := (lowN n d, lowD n d)
noncomputable def fadd (p q : Fr) : Fr := low (p.1 * q.2 + q.1 * p.2) (p.2 * q.2)
noncomputable def fsub (p q : Fr) : Fr := low (p.1 * q.2 - q.1 * p.2) (p.2 * q.2)
noncomputable def fmul (p q : Fr) : Fr := low (p.1 * q.1) (p.2 * q.2)
noncomputable def fover (p q : Fr) : Fr := low (p.1 * q.2) (p.2 * q.1)
noncomputable def fneg (p : Fr) : Fr := (-p.1, p.2)
noncomputable def val (p : Fr) : Rat := (p.1 : Rat) / (p.2 : Rat)
theorem low_nrm {n d : Int} (hd : d ≠ 0) : Nrm (low n d) := ⟨(low_facts hd).2.1, (low_facts hd).2.2.2⟩
theorem low_cross {n d : Int} (hd : d ≠ 0) : lowN n d * d = n * lowD n d := by
  have dn : ((Nat.gcd n.natAbs d.natAbs : Nat) : Int) ∣ n := Int.ofNat_dvd_left.mpr (Nat.gcd_dvd_left _ _)
  have dd : ((Nat.gcd n.natAbs d.natAbs : Nat) : Int) ∣ d := Int.ofNat_dvd_left.mpr (Nat.gcd_dvd_right _ _)
  have g0 : ((Nat.gcd n.natAbs d.natAbs : Nat) : Int) ≠ 0 := by
    have := Nat.gcd_pos_of_pos_right n.natAbs (show 0 < d.natAbs by omega)
    omega
  unfold lowN lowD
  generalize ((Nat.gcd n.natAbs d.natAbs : Nat) : Int) = g at dn dd g0
  obtain ⟨k, hk⟩ := dn
  obtain ⟨m, hm⟩ := dd
  by_cases h : 0 < d
  · rw [if_pos h, if_pos h, hk, hm, Int.mul_ediv_cancel_left _ g0, Int.mul_ediv_cancel_left _ g0]
    grind
  · rw [if_neg h, if_neg h, hk, hm, ← Int.mul_neg, ← Int.mul_neg, Int.mul_ediv_cancel_left _ g0, Int.mul_ediv_cancel_left _ g0]
    grind
theorem val_low {n d : Int} (hd : d ≠ 0) : val (low n d) = (n : Rat) / (d : Rat) := by
  have h := low_cross (n := n) hd
  have h1 := (low_facts (n := n) hd).2.1
  have a1 : ((lowD n d : Int) : Rat) ≠ 0 := by
    have : lowD n d ≠ 0 := by omega
    exact_mod_cast this
  have a2 : (d : Rat) ≠ 0 := by exact_mod_cast hd
  have h' : ((lowN n d : Int) : Rat) * (d : Rat) = (n : Rat) * ((lowD n d : Int) : Rat) := by exact_mod_cast h
  show ((lowN n d : Int) : Rat) / ((lowD n d : Int) : Rat) = (n : Rat) / (d : Rat)
  grind
theorem Nrm.ne {p : Fr} (h : Nrm p) : p.2 ≠ 0 := by have := h.d; omega
theorem Nrm.neR {p : Fr} (h : Nrm p) : (p.2 : Rat) ≠ 0 := by have := h.ne; exact_mod_cast this
theorem mul_ne {p q : Fr} (hp : Nrm p) (hq : Nrm q) : p.2 * q.2 ≠ 0 := Int.mul_ne_zero hp.ne hq.ne
theorem val_add {p q : Fr} (hp : Nrm p) (hq : Nrm q) : val (fadd p q) = val p + val q := by
  have h1 := hp.neR
  have h2 := hq.neR
  unfold fadd
  rw [val_low (mul_ne hp hq)]
  unfold val
  push_cast
  grind
theorem val_sub {p q : Fr} (hp : Nrm p) (hq : Nrm q) : val (fsub p q) = val p - val q := by
  have h1 := hp.neR
  have h2 := hq.neR
  unfold fsub
  rw [val_low (mul_ne hp hq)]
  unfold val
  push_cast
  grind
theorem val_mul {p q : Fr} (hp : Nrm p) (hq : Nrm q) : val (fmul p q) = val p * val q := by
  have h1 := hp.neR
  have h2 := hq.neR
  unfold fmul
  rw [val_low (mul_ne hp hq)]
  unfold val
  push_cast
  grind
theorem val_neg {p : Fr} (hp : Nrm p) : val (fneg p) = - val p := by
  have h1 := hp.neR
  show ((-p.1 : Int) : Rat) / (p.2 : Rat) = - ((p.1 : Rat) / (p.2 : Rat))
  push_cast
  grind
theorem nrm_add {p q : Fr} (hp : Nrm p) (hq : Nrm q) : Nrm (fadd p q) := low_nrm (mul_ne hp hq)
theorem nrm_sub {p q : Fr} (hp : Nrm p) (hq : Nrm q) : Nrm (fsub p q) := low_nrm (mul_ne hp hq)
theorem nrm_mul {p q : Fr} (hp : Nrm p) (hq : Nrm q) : Nrm (fmul p q) := low_nrm (mul_ne hp hq)
theorem nrm_neg {p : Fr} (hp : Nrm p) : Nrm (fneg p) := ⟨hp.d, by show Nat.gcd (-p.1).natAbs p.2.natAbs = 1; rw [Int.natAbs_neg]; exact hp.g⟩
theorem nrm_int (n : Int) : Nrm (n, 1) := ⟨by show (1 : Int) ≤ 1; decide, by simp⟩
theorem val_inj {p q : Fr} (hp : Nrm p) (hq : Nrm q) (h : val p = val q) : p = q := by
  have h1 := hp.neR
  have h2 := hq.neR
  have e : p.1 * q.2 = q.1 * p.2 := by
    unfold val at h
    have h' : (p.1 : Rat) * q.2 = q.1 * p.2 := by grind
    exact_mod_cast h'
  have en : p.1.natAbs * q.2.natAbs = q.1.natAbs * p.2.natAbs := by rw [← Int.natAbs_mul, ← Int.natAbs_mul, e]
  have d1 : p.2.natAbs ∣ q.2.natAbs := by
    have : p.2.natAbs ∣ p.1.natAbs * q.2.natAbs := by rw [en]; exact Nat.dvd_mul_left _ _
    exact Nat.Coprime.dvd_of_dvd_mul_left (show Nat.Coprime p.2.natAbs p.1.natAbs by unfold Nat.Coprime; rw [Nat.gcd_comm]; exact hp.g) this
  have d2 : q.2.natAbs ∣ p.2.natAbs := by
    have : q.2.natAbs ∣ q.1.natAbs * p.2.natAbs := by rw [← en]; exact Nat.dvd_mul_left _ _
    exact Nat.Coprime.dvd_of_dvd_mul_left (show Nat.Coprime q.2.natAbs q.1.natAbs by unfold Nat.Coprime; rw [Nat.gcd_comm]; exact hq.g) this
  have ed : p.2.natAbs = q.2.natAbs := Nat.dvd_antisymm d1 d2
  have ed' : p.2 = q.2 := by have := hp.d; have := hq.d; omega
  have e2 : p.1 = q.1 := by
    rw [ed'] at e
    exact Int.eq_of_mul_eq_mul_right hq.ne e
  exact Prod.ext e2 ed'
theorem pow8 {x e : Nat} (h : x < 2 ^ e) (he : e ≤ 8000) : x < 2 ^ 8000 := Nat.lt_of_lt_of_le h (Nat.pow_le_pow_right (by decide) he)
theorem mul_pow {x y : Int} {e f : Nat} (hx : x.natAbs < 2 ^ e) (hy : y.natAbs < 2 ^ f) : (x * y).natAbs < 2 ^ (e + f) := by
  rw [Int.natAbs_mul, Nat.pow_add]
  exact Nat.mul_lt_mul'' hx hy
theorem add_pow {x y : Int} {e : Nat} (hx : x.natAbs < 2 ^ e) (hy : y.natAbs < 2 ^ e) : (x + y).natAbs < 2 ^ (e + 1) := by
  have := Int.natAbs_add_le x y
  rw [Nat.pow_succ]
  omega
theorem sub_pow {x y : Int} {e : Nat} (hx : x.natAbs < 2 ^ e) (hy : y.natAbs < 2 ^ e) : (x - y).natAbs < 2 ^ (e + 1) := by
  rw [Int.sub_eq_add_neg]
  exact add_pow hx (by rw [Int.natAbs_neg]; exact hy)
theorem val_over {p q : Fr} (hp : Nrm p) (hq : Nrm q) (h : q.1 ≠ 0) : val (fover p q) = val p / val q := by
  have h1 := hp.neR
  have h2 := hq.neR
  have h3 : (q.1 : Rat) ≠ 0 := by exact_mod_cast h
  unfold fover
  rw [val_low (Int.mul_ne_zero hp.ne h)]
  unfold val
  push_cast
  grind
theorem nrm_over {p q : Fr} (hp : Nrm p) (h : q.1 ≠ 0) : Nrm (fover p q) := low_nrm (Int.mul_ne_zero hp.ne h)
noncomputable def sz (p : Fr) : Nat := Nat.max (Nat.log2 p.1.natAbs) (Nat.log2 p.2.natAbs) + 1
theorem sz_n (p : Fr) : p.1.natAbs < 2 ^ sz p := Nat.lt_of_lt_of_le Nat.lt_log2_self (Nat.pow_le_pow_right (by decide) (Nat.succ_le_succ (Nat.le_max_left _ _)))
theorem sz_d (p : Fr) : p.2.natAbs < 2 ^ sz p := Nat.lt_of_lt_of_le Nat.lt_log2_self (Nat.pow_le_pow_right (by decide) (Nat.succ_le_succ (Nat.le_max_right _ _)))
theorem log_lt {n e : Nat} (h : n < 2 ^ e) (he : 1 ≤ e) : Nat.log2 n + 1 ≤ e := by
  by_cases c : n = 0
  · subst c
    have : Nat.log2 0 = 0 := by simp
    omega
  · exact (Nat.log2_lt c).mpr h
theorem sz_le {p : Fr} {e : Nat} (h1 : p.1.natAbs < 2 ^ e) (h2 : p.2.natAbs < 2 ^ e) (he : 1 ≤ e) : sz p ≤ e := by
  have a := log_lt h1 he
  have b := log_lt h2 he
  unfold sz
  have : Nat.max (Nat.log2 p.1.natAbs) (Nat.log2 p.2.natAbs) ≤ e - 1 := Nat.max_le.mpr ⟨by omega, by omega⟩
  omega
theorem sz_pos (p : Fr) : 1 ≤ sz p := by unfold sz; omega
theorem sz_low {n d : Int} {e : Nat} (hd : d ≠ 0) (h1 : n.natAbs < 2 ^ e) (h2 : d.natAbs < 2 ^ e) (he : 1 ≤ e) : sz (low n d) ≤ e := by
  have lf := low_facts (n := n) hd
  refine sz_le (Nat.lt_of_le_of_lt lf.1 h1) ?_ he
  show (lowD n d).natAbs < 2 ^ e
  omega
theorem sz_add {p q : Fr} (hp : Nrm p) (hq : Nrm q) : sz (fadd p q) ≤ sz p + sz q + 1 :=
  sz_low (mul_ne hp hq) (add_pow (mul_pow (sz_n p) (sz_d q)) (by rw [Nat.add_comm]; exact mul_pow (sz_n q) (sz_d p))) (Nat.lt_of_lt_of_le (mul_pow (sz_d p) (sz_d q)) (Nat.pow_le_pow_right (by decide) (by omega))) (by omega)
theorem sz_sub {p q : Fr} (hp : Nrm p) (hq : Nrm q) : sz (fsub p q) ≤ sz p + sz q + 1 :=
  sz_low (mul_ne hp hq) (sub_pow (mul_pow (sz_n p) (sz_d q)) (by rw [Nat.add_comm]; exact mul_pow (sz_n q) (sz_d p))) (Nat.lt_of_lt_of_le (mul_pow (sz_d p) (sz_d q)) (Nat.pow_le_pow_right (by decide) (by omega))) (by omega)
theorem sz_mul {p q : Fr} (hp : Nrm p) (hq : Nrm q) : sz (fmul p q) ≤ sz p + sz q :=
  sz_low (mul_ne hp hq) (mul_pow (sz_n p) (sz_n q)) (mul_pow (sz_d p) (sz_d q)) (by have := sz_pos p; omega)
theorem sz_over {p q : Fr} (hp : Nrm p) (h : q.1 ≠ 0) : sz (fover p q) ≤ sz p + sz q :=
  sz_low (Int.mul_ne_zero hp.ne h) (mul_pow (sz_n p) (sz_d q)) (mul_pow (sz_d p) (sz_n q)) (by have := sz_pos p; omega)
theorem sz_neg (p : Fr) : sz (fneg p) = sz p := by unfold sz fneg; simp
theorem loopT_inv {g : FG} {F : FS} {D : ET} {items : List T} {E : En} (W : Nat → En → Prop) (h0 : W 0 E)
    (hs : ∀ i x rest E, items[i]? = some x → W i E → (∀ E', W (i + 1) E' → loopT g F D rest E') → loopT g F D (x :: rest) E) (hd : ∀ E, W items.length E → D.nx E) : loopT g F D items E := by
  have key : ∀ n i E, items.length - i = n → i ≤ items.length → W i E → loopT g F D (items.drop i) E := by
    intro n
    induction n with
    | zero =>
      intro i E e hi h
      obtain rfl : i = items.length := by omega
      rw [List.drop_length]
      exact hd E h
    | succ n ih =>
      intro i E e hi h
      have hlt : i < items.length := by omega
      rw [List.drop_eq_getElem_cons hlt]
      exact hs i _ _ E (List.getElem?_eq_getElem hlt) h fun E' h' => ih (i + 1) E' (by omega) (by omega) h'
  exact key _ 0 E rfl (Nat.zero_le _) h0
theorem compL_inv {g : FG} {Fe : FE} {items : List T} {E : En} {Q : En → Prop} (W : Nat → En → Prop) (h0 : W 0 E)
    (hs : ∀ i x rest E, items[i]? = some x → W i E → (∀ E', W (i + 1) E' → compL g Fe rest E' Q) → compL g Fe (x :: rest) E Q) (hd : ∀ E, W items.length E → Q E) : compL g Fe items E Q := by
  have key : ∀ n i E, items.length - i = n → i ≤ items.length → W i E → compL g Fe (items.drop i) E Q := by
    intro n
    induction n with
    | zero =>
      intro i E e hi h
      obtain rfl : i = items.length := by omega
      rw [List.drop_length]
      exact hd E h
    | succ n ih =>
      intro i E e hi h
      have hlt : i < items.length := by omega
      rw [List.drop_eq_getElem_cons hlt]
      exact hs i _ _ E (List.getElem?_eq_getElem hlt) h fun E' h' => ih (i + 1) E' (by omega) (by omega) h'
  exact key _ 0 E rfl (Nat.zero_le _) h0
mutual
noncomputable def wT : L2.T → Nat
  | .tup xs => Nat.max xs.length (wTs xs)
  | .lst xs => Nat.max xs.length (wTs xs)
  | _ => 0
noncomputable def wTs : List L2.T → Nat
  | [] => 0
  | x :: xs => Nat.max (wT x) (wTs xs)
end
theorem wT_mem : ∀ {xs : List L2.T} {x : L2.T}, x ∈ xs → wT x ≤ wTs xs
  | y :: xs, x, h => by
    rw [wTs]
    rcases List.mem_cons.mp h with rfl | h
    · exact Nat.le_max_left _ _
    · exact Nat.le_trans (wT_mem h) (Nat.le_max_right _ _)
noncomputable def fr (p : Fr) : T := .tup [.int p.1, .int p.2]
noncomputable def vc (x y : Fr) : T := .tup [fr x, fr y]
theorem eq_fr (p q : Fr) : eqT (fr p) (fr q) = decide (p = q) := by
  rw [Bool.eq_iff_iff]
  simp [fr, L2.eqT, L2.eqTs, Prod.ext_iff]
theorem eq_vc (x y x' y' : Fr) : eqT (vc x y) (vc x' y') = decide (x = x' ∧ y = y') := by
  rw [Bool.eq_iff_iff]
  simp [vc, L2.eqT, L2.eqTs, eq_fr]
noncomputable def CMulA (i j : Int) : Prop := CMulB i j ∨ CMul i j
theorem op_mulA {X : Cx} : OpR X (binaryOp .Mult) (rI CMulA fun i j => .int (i * j)) := by
  intro pins s σ H x y v u Q I rx ry h
  obtain ⟨i, j, e1, e2, hc, q⟩ := h
  rcases hc with hc | hc
  · exact op_mulB pins s σ H x y v u Q I rx ry ⟨i, j, e1, e2, hc, q⟩
  · exact op_mul pins s σ H x y v u Q I rx ry ⟨i, j, e1, e2, hc, q⟩
theorem mulA {i j : Int} {e : Nat} (h1 : i.natAbs < 2 ^ e) (h2 : j.natAbs < 2 ^ e) (he : e ≤ 8000) : CMulA i j := .inl ⟨pow8 h1 he, pow8 h2 he⟩
theorem mulL {i j : Int} (h1 : i.natAbs < 2 ^ 60) : CMulA i j := .inr (.inl (by omega))
theorem mulR {i j : Int} (h1 : j.natAbs < 2 ^ 60) : CMulA i j := .inr (.inr (by omega))
theorem bt_int : bootBuiltins "int" = some (.type "int") := by decide +kernel
theorem bt_bool : bootBuiltins "bool" = some (.type "bool") := by decide +kernel
theorem bt_tuple : bootBuiltins "tuple" = some (.type "tuple") := by decide +kernel
theorem bt_list : bootBuiltins "list" = some (.type "list") := by decide +kernel
theorem bt_str : bootBuiltins "str" = some (.type "str") := by decide +kernel
structure Txt (mg : Str → Option Value) : Prop where
  n_isinstance : mg "isinstance" = none
  n_abs : mg "abs" = none
  n_divmod : mg "divmod" = none
  n_min : mg "min" = none
  n_max : mg "max" = none
  n_all : mg "all" = none
  n_len : mg "len" = none
  n_int : mg "int" = none
  n_bool : mg "bool" = none
  n_tuple : mg "tuple" = none
  n_list : mg "list" = none
  n_str : mg "str" = none
  n_range : mg "range" = none
  n_enumerate : mg "enumerate" = none
  n_zip : mg "zip" = none
structure Const (mg : Str → Option Value) (K : PySem.W.Frag) (x : Str) (t : L2.T) : Prop where
  ex : ∃ a, mg x = some (.ref a) ∧ ∀ H O, Rp K H O t (.ref a)
theorem fe_glob {X : Cx} {K : PySem.W.Frag} {x : Str} {t : L2.T} {pos : Pos} (hg : Gl X x) (c : Const X.mg K x t) (hd : (x == ("__debug__" : Str)) = false := by decide) : QE X (.Name x pos) (simE K (fC t)) := by
  obtain ⟨a, h1, h2⟩ := c.ex
  exact QE.le (t := tC (.ref a)) ⟨pe_glob (v := .ref a) hg h1 rfl hd⟩ fun σ H Q hl ⟨B, S, E, Q', hS, re, hF, lk⟩ => lk _ _ _ _ _ hF .refl re (h2 _ _)
theorem const_pair {K : PySem.W.Frag} {a : Addr} {od : Option Addr} {i j : Int} {t u : Tok} {n : Nat} {sl : Array (Option Value)} (h : K.lookup a = some ⟨.type "tuple", od, .seq #[.int i t, .int j u] n, sl⟩) (H : Hp) (O : Addr → Prop) : Rp K H O (.tup [.int i, .int j]) (.ref a) :=
  ⟨a, [.int i, .int j], rfl, .inr ⟨_, _, n, h, rfl, rfl, by show 2 ≤ sizeLine; decide, .cons ⟨t, rfl⟩ (.cons ⟨u, rfl⟩ .nil)⟩, _, _, rfl, rfl, _, _, rfl, rfl, rfl⟩
end My
set_option Elab.async false
set_option linter.all false
set_option maxRecDepth 100000
set_option maxHeartbeats 4000000
namespace My
open PySem L2 PyProof.Rows
section
variable {X : Cx} {K : PySem.W.Frag} {e : Expr} {te : TE} {st : Option Expr} {ts : TO} {pos p2 : Pos} {Fa : FE} {G : FO}
noncomputable def tRevL (K : PySem.W.Frag) (te : TE) (ts : TO) : TE := fun σ H Q => te σ H fun x H1 => ts σ H1 fun k H2 => k = some (-1) ∧ ∃ a xs, x = .ref a ∧ SqL K H2 a xs ∧ ∀ p, H2 p = none → Q (.ref p) (upd H2 p (.lst xs.reverse))
theorem pe_revL (he : PE X e te) (hk : PO X st ts) (hop : ∀ a b, ∃ ops, subscripted (.Slice none none st p2) false a b = operate ops (getItem a b)) : PE X (.Subscript e (.Slice none none st p2) pos) (tRevL X.K te ts) := by
  intro pins s σ H Q I h
  refine Subscript_ (thn (he pins s σ H _ I h) fun v s1 ⟨x, H1, I1, r1, q1⟩ => ?_)
  refine wpAny_Slice ?_
  rw [evalPart_none]
  refine wpAny_pure ?_
  refine wpAny_pure ?_
  refine thn (hk pins s1 σ H1 _ I1 q1) fun vk s2 ⟨k, H2, I2, pk, q2⟩ => ?_
  obtain ⟨rfl, a, xs, rfl, hx, q⟩ := q2
  have I4 : Inv X pins σ H2 { s2 with heap := s2.heap.push { cls := .type "slice", data := .fields #[.none, .none, vk] } } := I2.kept (t' := s2.toks) fun b ob q => Heap.get?_push_of_some _ q
  cases r1
  obtain ⟨its, r, ht, hz⟩ := I4.list hx
  have hlen := r.length
  have hg : wpAny (model X.prog X.w) X.A (getItem (.ref a) (.ref s2.heap.objs.size)) (EP X pins σ Q) X.xe { s2 with heap := s2.heap.push { cls := .type "slice", data := .fields #[.none, .none, vk] } } := by
    refine wpAny_getItem_list_slice ht.isList (Heap.IsSliceOf.new ..) .none .none pk (by decide) ?_ (by rw [List.size_toArray] <;> omega)
    rw [PySem.W.krv_pick]
    refine ⟨.ref _, _, I4.laid (t' := s2.toks) (o := .lst xs.reverse) (fun b ob q => Heap.get?_push_of_some _ q) (Nat.le_refl _) ?_, rfl, q _ (I4.hok.fresh (Nat.le_refl _))⟩
    exact ⟨by rw [List.length_reverse]; exact hz, _, 0, r.reverse, Heap.get?_push_size _ rfl⟩
  obtain ⟨ops, ho⟩ := hop (.ref a) (.ref s2.heap.objs.size)
  exact tail_any (ops := ops) ht.isList.typeIs slot_list_getitem.lookup hg ho
noncomputable def fRev (Fa : FE) (G : FO) : FE := fun E Q => Fa E fun x E1 => G E1 fun k E2 => k = some (-1) ∧ match vl E2 x with
  | some (.lst xs) => Q (.s E2.length) (E2 ++ [some (.o false xs.reverse)])
  | _ => False
theorem fe_revL (eK : X.K = K) (he : QE X e (simE K Fa)) (hk : QO X st (simO K G)) (hop : ∀ a b, ∃ ops, subscripted (.Slice none none st p2) false a b = operate ops (getItem a b) := by exact fun _ _ => ⟨_, by with_unfolding_all rfl⟩) : QE X (.Subscript e (.Slice none none st p2) pos) (simE K (fRev Fa G)) := by
  subst eK
  refine QE.le (t := tRevL X.K (simE X.K Fa) (simO X.K G)) ⟨pe_revL he.h hk.h hop⟩ fun σ H Q _ ⟨B, S, E, Q', ⟨τ, hS⟩, re, hF, lk⟩ => ⟨B, S, E, _, ⟨τ, hS⟩, re, hF, fun x E1 v H1 S1 q g1 re1 rx => ?_⟩
  obtain ⟨τ1, hS1⟩ := g1.pre
  refine ⟨B, S1, E1, _, ⟨τ ++ τ1, by rw [hS1, hS, List.append_assoc]⟩, re1, q, fun l E2 H2 S2 q2 g2 re2 => ?_⟩
  have rx2 := rx.step g2
  obtain ⟨hk1, q2⟩ := q2
  refine ⟨hk1, ?_⟩
  split at q2
  · rename_i xs e1
    obtain ⟨a, vs, e2, sq, rs⟩ := re2.vl rx2 e1
    refine ⟨a, vs, e2, sq, fun p hp => ?_⟩
    obtain ⟨g, re'⟩ := re2.lst hp rs.reverse
    exact lk _ _ _ _ _ q2 ((g1.trans g2).trans g) re' (by rw [← re2.len]; exact get_last)
  · exact q2.elim
end
end My
set_option Elab.async false
set_option linter.all false
set_option maxRecDepth 100000
set_option maxHeartbeats 4000000
namespace L2
open PySem PySem.Spec PyProof.Rows
theorem codeAny_compLoop_goI {prog : Program} {w : World} {A : Around} {R : Result → Shared → Prop} {s : Shared} {elt target iter c : Expr} {scope : Scope} {pos : Pos} {it acc : Value} {env : Env} (I : Nat → Shared → Prop)
    (turn : ∀ n s, I n s → wpAny (model prog w) A (pyNext it) (fun r s₁ => match r with
      | none => R (.ok .next) s₁
      | some v => wpAny (model prog w) A (letOwnedTupleGo target it v) (fun _ s₂ => wpAny (model prog w) A (assign target env v) (fun _ s₃ => wpAny (model prog w) A (isTrue c env (eval c env)) (fun ok s₃' => if ok = true then wpAny (model prog w) A (eval elt env) (fun x s₄ =>
          wpAny (model prog w) A (call (.builtin "list.append") [acc, x]) (fun _ s₅ => ∃ m, m < n ∧ I m s₅) (fun _ _ => False) s₄) (fun _ _ => False) s₃' else ∃ m, m < n ∧ I m s₃') (fun _ _ => False) s₃) (fun _ _ => False) s₂) (fun _ _ => False) s₁) (fun _ _ => False) s)
    (n : Nat) (h : I n s) : codeAny (model prog w) A (.compLoop (.ListComp elt [⟨target, iter, [c], 0⟩] scope pos) 0 it acc env) R s := by
  refine codeAny_loop rfl I (fun n s hI => ?_) n h
  show wpAny _ A ((compTurn (.ListComp elt [⟨target, iter, [c], 0⟩] scope pos) 0 it acc env).onRaise (fun x => do noteFrame x env; theTreesLotGoes x)) _ _ s
  refine wpAny_noted ?_
  rw [compTurn_list]
  refine wpAny_bind (wpAny_standAt (wpAny_bind (wpAny_mono (turn n s hI) (fun r s₁ h₁ => ?_) fun _ _ h' => h'.elim)))
  cases r with
  | none => exact wpAny_pure h₁
  | some v =>
    refine wpAny_bind (wpAny_mono h₁ (fun _ s₂ h₂ => wpAny_bind (wpAny_mono h₂ (fun _ s₃ h₃ => wpAny_bind (wpAny_mono (wpAny_tests_one h₃) (fun ok s₃' h₃' => ?_) fun _ _ h' => h'.elim)) fun _ _ h' => h'.elim)) fun _ _ h' => h'.elim)
    cases ok with
    | false => exact wpAny_pure ⟨rfl, h₃'⟩
    | true =>
      exact wpAny_bind (wpAny_bind (wpAny_mono h₃' (fun x s₄ h₄ => wpAny_bind (wpAny_mono h₄ (fun _ s₅ h₅ => wpAny_pure (wpAny_pure ⟨rfl, h₅⟩)) fun _ _ h' => h'.elim)) fun _ _ h' => h'.elim))
noncomputable def compWI (J : It) (D : Addr) (g : TG) (tb : TT) (te : TE) (Q : VK) (σ : St) (H : Hp) : Prop := ∃ W : Nat → Nat → St → Hp → Prop, (∃ m, W 0 m σ H) ∧ ∀ i m σ' H', W i m σ' H' →
  (J.stop i H' ∧ Q (.ref D) H') ∨ (J.go i H' ∧ ∀ x H2, J.yld i H' x H2 → g x σ' H2 fun σ3 H3 => tb σ3 H3 fun ok H3' => if ok = true then te σ3 H3' fun y H4 => ∃ ys, H4 D = some (.lst ys) ∧ ys.length < sizeLine ∧ ∃ m', m' < m ∧ W (i + 1) m' σ3 (upd H4 D (.lst (ys ++ [y]))) else ∃ m', m' < m ∧ W (i + 1) m' σ3 H3')
noncomputable def tCompI (t : Nat) (cap : List Nat) (wi : TI) (g : TG) (tb : TT) (te : TE) : TE := fun σ H Q => wi σ H fun J H1 => ∀ D, H1 D = none → compWI J D g tb te Q (capS t cap σ) (upd H1 D (.lst []))
section
variable {X : Cx}
theorem pe_compI {target elt iter c : Expr} {scope : Scope} {pos : Pos} {N' : List Str} {cap : List Nat} {t : Nat} {wi : TI} {g : TG} {tb : TT} {te : TE} (hc : X.calm = true) (S : CompOk X N' scope t cap) (hi : PI X target iter wi)
    (hg : ∀ C s3 H3 fp, PG (cxComp X N' scope C s3 H3 fp) target g) (hb : ∀ C s3 H3 fp, PT (cxComp X N' scope C s3 H3 fp) c tb) (he : ∀ C s3 H3 fp, PE (cxComp X N' scope C s3 H3 fp) elt te) (hs : ∀ x, foldedSetIterable iter X.env x = pure x := by intro _; rfl) :
    PE X (.ListComp elt [⟨target, iter, [c], 0⟩] scope pos) (tCompI t cap wi g tb te) := by
  intro pins s σ H Q I h
  rw [eval_ListComp]
  refine wpAny_comprehension_free (use := none) (cl := clOf scope X.env) rfl hs (closureFor_cl fun y hy hf => I.ok.has y.1 (S.free y hy hf)) S.kind S.names (thn (hi pins s σ H _ I h) fun v s1 h1 => thn h1 fun itv s2 h2 => ?_)
  obtain ⟨it, fp, tn, J, H2, e, I2, T, st2, f2, h2⟩ := h2
  subst e
  refine wpAny_newObj_type (wpAny_newFunctionEnv S.cell (by intro y hy; simp at hy) (fun h₁ hns₁ hsb₁ => ?_) S.kind)
  dsimp only at hns₁ hsb₁ ⊢
  obtain ⟨s3, hs3⟩ : ∃ s3 : Shared, s3 = { s2 with heap := s2.heap.push { cls := .type "list", dict := none, data := .seq ([] : List Value).toArray } } := ⟨_, rfl⟩
  have hD : H2 s2.heap.objs.size = none := I2.hok.fresh (Nat.le_refl _)
  have I3 : Inv X pins σ (upd H2 s2.heap.objs.size (.lst [])) s3 := by
    rw [hs3]
    exact I2.laid (t' := s2.toks) (fun b u e => Heap.get?_push_of_some _ e) (Nat.le_refl _) ⟨Nat.zero_le _, [], 0, .nil, Heap.get?_push_size _ rfl⟩
  have hsz3 : s3.heap.objs.size = s2.heap.objs.size + 1 := by rw [hs3]; exact Heap.size_push ..
  have old3 : ∀ b o, s2.heap.get? b = some o → s3.heap.get? b = some o := fun b o e => by rw [hs3]; exact Heap.get?_push_of_some _ e
  have hC : (s2.heap.push { cls := .type "list", dict := none, data := .seq ([] : List Value).toArray }).objs.size = s3.heap.objs.size := by rw [hs3]
  have f3 : ∀ b ∈ fp, FpOk X pins (upd H2 s2.heap.objs.size (.lst [])) b := fun b hb => by
    obtain ⟨o, ho, _⟩ := T.obj _ _ st2 b hb
    refine ⟨?_, (f2 b hb).2⟩
    rw [upd_ne (Nat.ne_of_lt (Heap.lt_size ho))]
    exact (f2 b hb).1
  have ob3 : ∀ b ∈ fp, ∃ o, s3.heap.get? b = some o := fun b hb => by
    obtain ⟨o, ho, _⟩ := T.obj _ _ st2 b hb
    exact ⟨o, old3 b o ho⟩
  have k1 : ∀ b o, s3.heap.get? b = some o → h₁.get? b = some o := fun b o e => by
    refine hsb₁.extBut b o ?_ ?_
    · rw [hC]; exact Nat.ne_of_lt (Heap.lt_size e)
    · rw [hs3] at e; exact Heap.get?_push_of_some _ e
  have hns : h₁.Ns s3.heap.objs.size fun _ => none := by
    rw [← hC]; exact hns₁
  have I4 := comp_enter (tk := s2.toks + ([] : List (Str × Value)).length) S I3 f3 ob3 hns k1
  have st4 : tn 0 h₁ := T.keep _ _ _ st2 fun b hb o e => k1 b o (old3 b o e)
  obtain ⟨W, ⟨m0, w0⟩, turn⟩ := h2 _ hD
  -- the block's context
  obtain ⟨X', hX'⟩ : ∃ X' : Cx, X' = cxComp X N' scope s3.heap.objs.size s3 (upd H2 s2.heap.objs.size (.lst [])) fp := ⟨_, rfl⟩
  have hg' : PG X' target g := by rw [hX']; exact hg _ _ _ _
  have he' : PE X' elt te := by rw [hX']; exact he _ _ _ _
  have hb' : PT X' c tb := by rw [hX']; exact hb _ _ _ _
  have stat : ∀ {H' : Hp}, (∀ b ∈ fp, H' b = none) → ∀ b ∈ fp, FpOk X' [] H' b := fun hn b hb => by
    obtain ⟨o, ho⟩ := ob3 b hb
    rw [hX']
    refine ⟨hn b hb, Nat.ne_of_lt (Heap.lt_size ho), ?_, .inl hb, fun x c e => (f3 b hb).2.2.2.2.1 x c (clOf_sub e), fun p hp => absurd (show p ∈ ([] : List (Addr × Obj)) from hp) (by simp)⟩
    intro hz
    rcases List.mem_cons.mp (I3.stkSub b hz) with z | z
    · exact (f3 b hb).2.1 z
    · exact (f3 b hb).2.2.1 z
  have hcalm : X'.calm = true := by rw [hX']; exact hc
  have loop : codeAny (model X.prog X.w) X.A (.compLoop (.ListComp elt [⟨target, iter, [c], 0⟩] scope pos) 0 (.ref it) (.ref s2.heap.objs.size) (compEnvC scope (clOf scope X.env) s3.heap.objs.size X.env))
      (compPost (model X.prog X.w) X.A X.xe none (EP X pins σ Q) (.ref s2.heap.objs.size) s3.heap.objs.size) { s3 with heap := h₁, toks := s2.toks + ([] : List (Str × Value)).length } := by
    refine codeAny_compLoop_goI (fun n s' => ∃ i σ' H', Inv X' [] σ' H' s' ∧ tn i s'.heap ∧ (∀ b ∈ fp, H' b = none) ∧ W i n σ' H') ?_ m0 ⟨0, capS t cap σ, _, by rw [hX']; exact I4, st4, fun b hb => (f3 b hb).1, w0⟩
    rintro n s5 ⟨i, σ5, H5, I5, st5, fr5, w5⟩
    rcases turn i n σ5 H5 w5 with ⟨stop, qn⟩ | ⟨go, step⟩
    · have q := T.done X' (by rw [hX']; rfl) (by rw [hX']; rfl) (by rw [hX']; rfl) hcalm i [] s5 σ5 H5 (fun _ _ => False) I5 (stat fr5) st5 stop
      have eA : X'.A = X.A := by rw [hX']; rfl
      rw [eA] at q
      refine thn q fun r s6 ⟨hr, I6⟩ => ?_
      subst hr
      obtain ⟨m, hn, _⟩ := I6.loc
      have hn' : s6.heap.Ns s3.heap.objs.size m := by rw [hX'] at hn; exact hn
      refine ⟨m, hn', fun h' hs' => ?_⟩
      have un6 : Un (frs X.stack) fp (upd H2 s2.heap.objs.size (.lst [])) H5 s3.heap s6.heap := by have := I6.base; rw [hX'] at this; exact this
      have hok6 : HOk X.prog X.w H5 s6.heap := by have := I6.hok; rw [hX'] at this; exact this
      have free6 : H5 s3.heap.objs.size = none := by have := I6.free; rw [hX'] at this; exact this
      have kp : ∀ b o, b ≠ s3.heap.objs.size → s6.heap.get? b = some o → h'.get? b = some o := fun b o hb e => hs'.extBut b o hb e
      have neC : ∀ {b : Addr} {o : Obj}, s3.heap.get? b = some o → b ≠ s3.heap.objs.size := fun e => Nat.ne_of_lt (Heap.lt_size e)
      have un7 : Un (frs X.stack) fp (upd H2 s2.heap.objs.size (.lst [])) H5 s3.heap h' :=
        ⟨fun b o e n1 n2 n3 => kp b o (neC e) (un6.keep b o e n1 n2 n3), fun b o e n1 n2 n3 => by obtain ⟨sl, z⟩ := un6.slot b o e n1 n2 n3; exact ⟨sl, kp b _ (neC e) z⟩, un6.free,
          fun b o e n3 => by obtain ⟨o', z⟩ := un6.there b o e n3; exact ⟨o', kp b _ (neC e) z⟩, un6.tups, un6.frzs, un6.tbls⟩
      have hok7 : HOk X.prog X.w H5 h' := fun b ob e => by
        refine (hok6 b ob e).stay (fun c w' hc' q => kp c w' ?_ q) (fun _ q => q) fun _ _ q => q
        rintro rfl
        rcases hc' with rfl | hc'
        · rw [free6] at e; cases e
        · rw [free6] at hc'; cases hc'
      refine ⟨.ref s2.heap.objs.size, H5, I3.call' (s' := { s6 with heap := h' }) (ch := fp) ?_ un7 hok7 I6.bare (fun b hb => ⟨(f3 b hb).2.2.2.1, (f3 b hb).2.1, (f3 b hb).2.2.2.2.1, (f3 b hb).2.2.2.2.2⟩), rfl, qn⟩
      show s6.os = s3.os
      have := I6.os
      rw [hX'] at this
      exact this
    · have q := T.item X' (by rw [hX']; rfl) (by rw [hX']; rfl) (by rw [hX']; rfl) hcalm i [] s5 σ5 H5 (fun _ _ => False) I5 (stat fr5) st5 go
      have eA : X'.A = X.A := by rw [hX']; rfl
      have eP : X'.prog = X.prog := by rw [hX']; rfl
      have eW : X'.w = X.w := by rw [hX']; rfl
      have eE : X'.env = compEnvC scope (clOf scope X.env) s3.heap.objs.size X.env := by rw [hX']; rfl
      have eX : X'.xe = fun _ _ => False := by rw [hX']; rfl
      rw [eA] at q
      refine thn q fun r s6 ⟨u, hr, h6⟩ => ?_
      subst hr
      refine thn h6 fun _ s7 ⟨x, H7, I7, r7, y7, st7, fr7⟩ => ?_
      have I7' := I7.pinned (stat fr7) (T.obj _ _ st7)
      have q8 := hg' _ s7 σ5 H7 x u _ I7' r7 (step x H7 y7)
      rw [eA, eP, eW, eE, eX] at q8
      refine thn q8 fun _ s8 ⟨σ8, H8, I8, w8⟩ => ?_
      have q8b := hb' _ s8 σ8 H8 _ I8 w8
      rw [eA, eP, eW, eE, eX] at q8b
      refine thn q8b fun ok s8 ⟨H8, I8, w8⟩ => ?_
      cases ok with
      | false =>
        obtain ⟨m', hm, w9⟩ := w8
        refine ⟨m', hm, i + 1, σ8, _, I8.unpinned, T.keep _ _ _ st7 fun b hb o e => (I8.pin (b, o) (List.mem_append_right _ (List.mem_append_right _ (mem_pinsAt hb e)))).1, fun b hb => ?_, w9⟩
        obtain ⟨o, e, d⟩ := T.obj _ _ st7 b hb
        exact (I8.pin (b, o) (List.mem_append_right _ (List.mem_append_right _ (mem_pinsAt hb e)))).2.1
      | true =>
        have q9 := he' _ s8 σ8 H8 _ I8 w8
        rw [eA, eP, eW, eE, eX] at q9
        refine thn q9 fun y s9 ⟨v9, H9, I9, r9, ys, hD9, hlt, m', hm, w9⟩ => ?_
        have q10 := mt_append (X := X') _ s9 σ8 H9 (.ref s2.heap.objs.size) [v9] (.ref s2.heap.objs.size) [y] (fun _ H10 => H10 = upd H9 s2.heap.objs.size (.lst (ys ++ [v9]))) I9 rfl (.cons r9 .nil) ⟨_, ys, v9, rfl, rfl, hD9, hlt, rfl⟩
        rw [eA, eP, eW, eX] at q10
        refine thn q10 fun _ s10 ⟨v10, H10, I10, r10, e10⟩ => ?_
        subst e10
        refine ⟨m', hm, i + 1, σ8, _, I10.unpinned, T.keep _ _ _ st7 fun b hb o e => (I10.pin (b, o) (List.mem_append_right _ (List.mem_append_right _ (mem_pinsAt hb e)))).1, fun b hb => ?_, w9⟩
        obtain ⟨o, e, d⟩ := T.obj _ _ st7 b hb
        exact (I10.pin (b, o) (List.mem_append_right _ (List.mem_append_right _ (mem_pinsAt hb e)))).2.1
  have es : ({ s2 with heap := h₁, toks := s2.toks + ([] : List (Str × Value)).length } : Shared) = { s3 with heap := h₁, toks := s2.toks + ([] : List (Str × Value)).length } := by rw [hs3]
  rw [es, hC]
  exact codeAny_compStart_list loop (T.self _ 0 _ _ _ st4 loop)
end
section
variable {X : Cx} {K : PySem.W.Frag} {pos : Pos} {I : FI} {g : FG} {Fb : FB} {Fe : FE}
noncomputable def compLI (g : FG) (Fb : FB) (Fe : FE) : List T → En → (En → Prop) → Prop
  | [], E, Q => Q E
  | x :: xs, E, Q => g x E fun E2 => Fb E2 fun b E2' => if b = true then Fe E2' fun r E3 => match r with
    | .p t => (match E3[E.length - 1]? with
      | some (some (.o false acc)) => acc.length < 1000 ∧ compLI g Fb Fe xs ((E3.set (E.length - 1) (some (.o false (acc ++ [t])))).take E.length) Q
      | _ => False)
    | .s _ => False
    else compLI g Fb Fe xs (E2'.take E.length) Q
noncomputable def fCompI (t : Nat) (cap : List (Nat × Bool)) (I : FI) (g : FG) (Fb : FB) (Fe : FE) : FE := fun E Q => I E fun items us E1 => cap.all (fun k => !(k.2 && us.contains k.1)) = true ∧
  compLI g Fb Fe items (capE t cap E1 ++ [some (.o false [])]) fun Ein => match Ein[t + cap.length]? with
    | some (some (.o false zs)) => noLs zs = true ∧ o1 (wback t cap Ein E1) fun E2 => Q (.s E2.length) (E2 ++ [some (.o false zs)])
    | _ => False
theorem comp_simI {scope : Scope} {N' : List Str} {cap : List (Nat × Bool)} {t : Nat} (S : CompOk X N' scope t (cap.map (·.1))) (ho : oneBox cap = true) (hnd : (cap.map (·.1)).Nodup) {σ : St} {H : Hp} {Q : VK} (hl : σ.length = X.N.length)
    (h : simE K (fCompI t cap I g Fb Fe) σ H Q) : tCompI t (cap.map (·.1)) (simI K I) (simG K g) (simB K Fb) (simE K Fe) σ H Q := by
  obtain ⟨B, S0, E, Q', hS, re, hF, lk⟩ := h
  refine ⟨B, S0, E, _, hS, re, hF, fun J items us E1 H1 S1 gd q g1 re1 ok' husO hgd D hD => ?_⟩
  obtain ⟨hus, q⟩ := q
  obtain ⟨τ0, hS0⟩ := hS
  obtain ⟨τ1, hS1⟩ := g1.pre
  have hS1' : ∃ τ, S1 = σ ++ τ := ⟨τ0 ++ τ1, by rw [hS1, hS0, List.append_assoc]⟩
  have atσ : ∀ {j k : Nat} {b : Bool} {v : V}, cap[j]? = some (k, b) → S1[k]? = some (some v) → σ[k]? = some (some v) := fun {j k b v} hj hv => by
    obtain ⟨x, _, hx, _⟩ := S.caps j k (by rw [List.getElem?_map, hj]; rfl)
    have hk : k < σ.length := by rw [hl]; exact (List.getElem?_eq_some_iff.mp hx).1
    obtain ⟨τ, rfl⟩ := hS1'
    rw [List.getElem?_append_left hk] at hv; exact hv
  have atC : ∀ {j k : Nat} {b : Bool} {v : V}, cap[j]? = some (k, b) → S1[k]? = some (some v) → (capS t (cap.map (·.1)) σ)[t + j]? = some (some v) := fun {j k b v} hj hv => by rw [capS_get hj, atσ hj hv]; rfl
  have backC : ∀ {j k : Nat} {b : Bool} {v : V}, cap[j]? = some (k, b) → (capS t (cap.map (·.1)) σ)[t + j]? = some (some v) → S1[k]? = some (some v) := fun {j k b v} hj hv => by
    rw [capS_get hj] at hv
    have : σ[k]? = some (some v) := by
      cases z : σ[k]? with
      | none => rw [z] at hv; cases hv
      | some y => rw [z] at hv; simpa using hv
    exact pre_get hS1' this
  obtain ⟨bx, hbx⟩ : ∃ bx : Option Addr, ∀ a : Addr, bx = some a ↔ ∃ (j k : Nat) (kk : Bool) (xs : List T), cap[j]? = some (k, true) ∧ E1[k]? = some (some (.o kk xs)) ∧ S1[k]? = some (some (.ref a)) := by
    by_cases hex : ∃ (a : Addr) (j k : Nat) (kk : Bool) (xs : List T), cap[j]? = some (k, true) ∧ E1[k]? = some (some (.o kk xs)) ∧ S1[k]? = some (some (.ref a))
    · obtain ⟨a, j, k, kk, xs, h1, h2, h3⟩ := hex
      refine ⟨some a, fun a' => ⟨fun z => (by cases z; exact ⟨j, k, kk, xs, h1, h2, h3⟩), fun ⟨j', k', kk', xs', p1, p2, p3⟩ => ?_⟩⟩
      have e1 := boxOf_only ho h1
      have e2 := boxOf_only ho p1
      rw [e1] at e2; cases e2
      rw [h3] at p3; cases p3; rfl
    · exact ⟨none, fun a => ⟨fun z => (by cases z), fun z => absurd ⟨a, z⟩ hex⟩⟩
  have bxOw : ∀ a, bx = some a → Ow B S1 E1 a := fun a z => by
    obtain ⟨j, k, kk, xs, _, h2, h3⟩ := (hbx a).mp z
    exact .inr ⟨k, kk, xs, h2, h3⟩
  -- an own list of the block is the box
  have capO : ∀ {i : Nat} {k : Bool} {xs : List T}, (capE t cap E1)[i]? = some (some (.o k xs)) → ∃ j m kk, i = t + j ∧ cap[j]? = some (m, true) ∧ E1[m]? = some (some (.o kk xs)) ∧ k = true := fun {i k xs} h => by
    obtain ⟨j, m, c, e1, e2, e3⟩ := capE_get h
    refine ⟨j, m, ?_⟩
    cases qE : E1[m]? with
    | none => rw [qE] at e3; cases e3
    | some u =>
      cases u with
      | none => rw [qE] at e3; cases e3
      | some u =>
        cases u with
        | p _ => rw [qE] at e3; cases e3
        | o kk ys =>
          rw [qE] at e3
          cases c
          · simp [capU] at e3
          · simp [capU] at e3
            obtain ⟨e4, e5⟩ := e3
            exact ⟨kk, e1, e2, by rw [e5], e4⟩
  have owIn : ∀ b, Ow (fun a => bx = some a) (capS t (cap.map (·.1)) σ) (capE t cap E1) b → bx = some b := fun b z => by
    rcases z with z | ⟨i, k, xs, h1, h2⟩
    · exact z
    obtain ⟨j, m, kk, e1, e2, e3, _⟩ := capO h1
    subst e1
    exact (hbx b).mpr ⟨j, m, kk, xs, e2, e3, backC e2 h2⟩
  have kl : Kp (Ow B S1 E1) (Ow (fun a => bx = some a) (capS t (cap.map (·.1)) σ) (capE t cap E1)) H1 H1 := Kp.less fun b z => bxOw b (owIn b z)
  have reIn : RE K (fun a => bx = some a) H1 (capS t (cap.map (·.1)) σ) (capE t cap E1) := by
    refine ⟨by simp [capS, capE], fun i u h => ?_, fun i k xs h => ?_, fun i j k l xs ys a h1 h2 h3 h4 => ?_, fun a z => re1.ow (bxOw a z)⟩
    · obtain ⟨j, m, c, e1, e2, e3⟩ := capE_get h
      subst e1
      cases qE : E1[m]? with
      | none => rw [qE] at e3; cases e3
      | some w =>
        cases w with
        | none => rw [qE] at e3; cases e3
        | some w =>
          cases w with
          | p w =>
            rw [qE] at e3; cases e3
            obtain ⟨v, h1, h2⟩ := re1.pure m _ qE
            exact ⟨v, atC e2 h1, h2.step kl⟩
          | o kk ys =>
            rw [qE] at e3
            cases c
            · simp [capU] at e3; subst e3
              obtain ⟨a, vs, h1, h2, h3, h4⟩ := re1.own m kk ys qE
              refine ⟨_, atC e2 h1, a, vs, rfl, .inl ⟨fun z => ?_, .inl h2⟩, h3.step kl⟩
              obtain ⟨j', k', kk', xs', p1, p2, p3⟩ := (hbx a).mp (owIn a z)
              have e4 := re1.inj m k' kk kk' ys xs' a qE p2 h1 p3
              subst e4
              have lt1 : j < (cap.map (·.1)).length := by rw [List.length_map]; exact (List.getElem?_eq_some_iff.mp e2).1
              have lt2 : j' < (cap.map (·.1)).length := by rw [List.length_map]; exact (List.getElem?_eq_some_iff.mp p1).1
              have : j = j' := (List.getElem?_inj lt1 hnd).mp (by rw [List.getElem?_map, List.getElem?_map, e2, p1]; rfl)
              subst this
              rw [e2] at p1; cases p1
            · simp [capU] at e3
    · obtain ⟨j, m, kk, e1, e2, e3, e4⟩ := capO h
      subst e1; subst e4
      obtain ⟨a, vs, h1, h2, h3, h4⟩ := re1.own m kk _ e3
      exact ⟨a, vs, atC e2 h1, h2, h3.step kl, ⟨fun _ => (hbx a).mpr ⟨j, m, kk, _, e2, e3, h1⟩, fun _ => rfl⟩⟩
    · obtain ⟨j1, m1, k1, e1, e2, _, _⟩ := capO h1
      obtain ⟨j2, m2, k2, e3, e4, _, _⟩ := capO h2
      have z1 := boxOf_only ho e2
      have z2 := boxOf_only ho e4
      rw [z1] at z2; cases z2
      rw [e1, e3]
  -- the accumulator gets a place
  obtain ⟨gD, reD⟩ := reIn.lst (ts := []) (vs := []) hD rfl
  have gd0 : gd (upd H1 D (.lst [])) (Ow (fun a => bx = some a) (capS t (cap.map (·.1)) σ ++ [some (.ref D)]) (capE t cap E1 ++ [some (.o false [])])) := by
    refine ok'.keep _ _ _ _ gD.kp (hgd _ (fun b z => bxOw b (owIn b z)) fun j hj a ha z => ?_)
    obtain ⟨j', k', kk', xs', p1, p2, p3⟩ := (hbx a).mp (owIn a z)
    obtain ⟨kj, xj, qj⟩ := husO j hj
    have ej := re1.inj j k' kj kk' xj xs' a qj p2 ha p3
    subst ej
    have := List.all_eq_true.mp hus (j, true) (List.mem_of_getElem? p1)
    simp [hj] at this
  have hn : (capS t (cap.map (·.1)) σ).length = t + cap.length := by simp [capS]
  have hnE : (capE t cap E1 ++ [some (U.o false [])]).length = t + cap.length + 1 := by simp [capE]; omega
  -- the turns
  refine ⟨fun i m σ' H' => m = items.length - i ∧ i ≤ items.length ∧ ∃ E', compLI g Fb Fe (items.drop i) E' (fun Ein => match Ein[t + cap.length]? with
      | some (some (.o false zs)) => noLs zs = true ∧ o1 (wback t cap Ein E1) fun E2 => Q' (.s E2.length) (E2 ++ [some (.o false zs)])
      | _ => False) ∧ σ'.length = t + cap.length ∧ E'.length = t + cap.length + 1 ∧ RE K (fun a => bx = some a) H' (σ' ++ [some (.ref D)]) E' ∧
      Gs (fun a => bx = some a) (upd H1 D (.lst [])) (capS t (cap.map (·.1)) σ ++ [some (.ref D)]) (capE t cap E1 ++ [some (.o false [])]) H' (σ' ++ [some (.ref D)]) E' ∧ gd H' (Ow (fun a => bx = some a) (σ' ++ [some (.ref D)]) E'),
    ⟨_, rfl, Nat.zero_le _, _, q, hn, hnE, reD, Kp.refl _ _, gd0⟩, ?_⟩
  rintro i m σ2 H2 ⟨rfl, hi', E3, q3, hl3, hE3, re3, g3, gd3⟩
  rcases Nat.lt_or_ge i items.length with hlt | hge
  · have hd : items.drop i = items[i] :: items.drop (i + 1) := List.drop_eq_getElem_cons hlt
    rw [hd] at q3
    refine .inr ⟨ok'.go i H2 _ gd3 hlt, fun x H4 y => ?_⟩
    obtain ⟨k4, s4, rp⟩ := ok'.yld i H2 _ x H4 _ gd3 (List.getElem?_eq_getElem hlt) (fun a z => by obtain ⟨vs, e⟩ := re3.ow z; rw [e]; intro z; cases z) y
    have re4 := re3.kept s4
    have gd4 := ok'.keep _ _ _ _ k4 gd3
    refine ⟨_, [some (.ref D)], E3, _, _, re4, rp, q3, fun σ5 H5 E5 q5 g5 re5 hl5 => ?_⟩
    have hE5 : E5.length = t + cap.length + 1 := by rw [← re5.len]; simp [hl5, hl3]
    refine ⟨_, σ5 ++ [some (.ref D)], E5, _, ⟨_, rfl⟩, re5, q5, fun ok E5' H5' S5' q5' g5' re5' => ?_⟩
    have ll : E5.length ≤ E5'.length := by
      obtain ⟨τ6, e6⟩ := g5'.pre
      rw [← re5.len, ← re5'.len, e6]; simp
    cases ok with
    | false =>
      have q5' : compLI g Fb Fe (items.drop (i + 1)) (E5'.take E3.length) _ := q5'
      obtain ⟨re8, ow8⟩ := re5'.cut (E := E5) (σ := σ5 ++ [some (.ref D)]) g5'.pre re5.len
      have eE : E5.length = E3.length := by omega
      rw [eE] at re8 ow8
      have gg : Gs (fun a => bx = some a) H4 (σ2 ++ [some (.ref D)]) E3 H5' (σ5 ++ [some (.ref D)]) (E5'.take E3.length) := (g5.trans g5'.kp).trans (Kp.less ow8)
      refine ⟨items.length - (i + 1), by omega, rfl, hlt, _, q5', by omega, ?_, re8, (g3.trans k4).trans gg, ok'.keep _ _ _ _ gg gd4⟩
      rw [List.length_take]
      omega
    | true =>
      obtain ⟨τ5, hτ5⟩ := g5'.pre
      refine ⟨_, S5', E5', _, ⟨some (.ref D) :: τ5, by rw [hτ5]; simp⟩, re5', q5', fun r E6 v H6 S6 q6 g6 re6 rr6 => ?_⟩
      have g6 := g5'.trans g6
      cases r with
      | s _ => exact q6.elim
      | p u =>
        simp only at q6
        have hlast : E3.length - 1 = t + cap.length := by omega
        rw [hlast] at q6
        split at q6
        · rename_i acc hacc
          obtain ⟨hlen, q6⟩ := q6
          obtain ⟨a6, ws, p1, p2, p3, p4⟩ := re6.own _ _ _ hacc
          have hS6 : S6[t + cap.length]? = some (some (.ref D)) := pre_get g6.pre (by rw [List.getElem?_append_right (by omega)]; simp [hl5, hl3])
          rw [hS6] at p1; cases p1
          obtain ⟨g7, re7⟩ := re6.put (ys := acc ++ [u]) (ws := ws ++ [v]) hacc hS6 (p3.append ⟨v, [], rfl, rr6, rfl⟩)
          obtain ⟨re8, ow8⟩ := re7.cut (E := E5) (σ := σ5 ++ [some (.ref D)]) (g6.trans g7).pre re5.len
          have eE : E5.length = E3.length := by omega
          rw [eE] at re8 ow8
          have gg : Gs (fun a => bx = some a) H4 (σ2 ++ [some (.ref D)]) E3 (upd H6 D (.lst (ws ++ [v]))) (σ5 ++ [some (.ref D)]) ((E6.set (t + cap.length) (some (.o false (acc ++ [u])))).take E3.length) := (g5.trans (g6.trans g7).kp).trans (Kp.less ow8)
          refine ⟨ws, p2, by rw [p3.length]; exact small1000 (Nat.le_of_lt hlen), items.length - (i + 1), by omega, rfl, hlt, _, q6, by omega, ?_, re8, (g3.trans k4).trans gg, ok'.keep _ _ _ _ gg gd4⟩
          rw [List.length_take, List.length_set]
          have : E5.length ≤ E6.length := by
            obtain ⟨τ6, e6⟩ := g6.pre
            rw [← re5.len, ← re6.len, e6]; simp
          omega
        · exact q6.elim
  · have ei : i = items.length := by omega
    subst ei
    rw [List.drop_length] at q3
    refine .inl ⟨ok'.stop H2 _ gd3, ?_⟩
    have q3' : (match E3[t + cap.length]? with
      | some (some (.o false zs)) => noLs zs = true ∧ o1 (wback t cap E3 E1) fun E2 => Q' (.s E2.length) (E2 ++ [some (.o false zs)])
      | _ => False) := q3
    split at q3'
    · rename_i zs hzs
      obtain ⟨hnl, q3'⟩ := q3'
      obtain ⟨E2, e2, q3'⟩ := q3'.ex
      obtain ⟨aD, ws, p1, p2, p3, p4⟩ := re3.own _ _ _ hzs
      have hSD : (σ2 ++ [some (V.ref D)])[t + cap.length]? = some (some (.ref D)) := by rw [List.getElem?_append_right (by omega)]; simp [hl3]
      rw [hSD] at p1; cases p1
      -- what is kept of the heap around
      have ow0 : ∀ b, Ow (fun a => bx = some a) (capS t (cap.map (·.1)) σ ++ [some (.ref D)]) (capE t cap E1 ++ [some (.o false [])]) b → bx = some b ∨ b = D := fun b z => by
        rcases gD.kp.new b z with z | z
        · exact .inl (owIn b z)
        · rcases reD.ow (by assumption) with ⟨us', hu⟩
          by_cases c : b = D
          · exact .inr c
          · rw [upd_ne c, z] at hu; cases hu
      have kept : ∀ b o, H1 b = some o → bx ≠ some b → H2 b = some o := fun b o e n => by
        refine g3.keep b o (by rw [upd_ne (ne_of_none e hD)]; exact e) fun z => ?_
        rcases ow0 b z with z | z
        · exact n z
        · exact ne_of_none e hD z
      have hk : ∀ b o, H1 b = some o → ¬ Ow B S1 E1 b → H2 b = some o := fun b o e n => kept b o e fun z => n (bxOw b z)
      have nD : H1 D = none := hD
      have lk1 := lk.step g1
      -- the names around
      have fin : ∀ {E2 : En}, RE K B H2 S1 E2 → (∀ b, Ow B S1 E2 b → Ow B S1 E1 b) →
          (∀ (i : Nat) (k : Bool) (xs : List T), E2[i]? = some (some (.o k xs)) → (E1[i]? = some (some (.o k xs)) ∧ ∀ a, S1[i]? = some (some (.ref a)) → H2 a = H1 a) ∨ ∀ a ws, S1[i]? = some (some (.ref a)) → H2 a = some (.lst ws) → Rps K H2 (LstOf H2) xs ws) →
          (∀ (i : Nat) (u : T), E2[i]? = some (some (.p u)) → E1[i]? = some (some (.p u))) → Q' (.s E2.length) (E2 ++ [some (.o false zs)]) → Q (.ref D) H2 := fun {E2} re' hw hE hP q => by
        refine told_ok re1 re' hk hw hE hP (r := .l zs) ⟨D, ws, rfl, hD, p2, Rps.noL (fun a z => ?_) hnl p3⟩ q lk1
        rcases z with ⟨us', z⟩ | z
        · by_cases c : bx = some a
          · exact re3.ow (.inl c)
          · exact ⟨us', kept a _ z c⟩
        · exact ⟨ws, by rw [z]; exact p2⟩
      unfold wback at e2
      cases qb : boxOf cap with
      | none =>
        rw [qb] at e2
        cases e2
        have nb : ∀ b, bx ≠ some b := fun b z => by
          obtain ⟨j, k, kk, xs, h1, _⟩ := (hbx b).mp z
          rw [boxOf_only ho h1] at qb; cases qb
        have same : ∀ b o, H1 b = some o → H2 b = some o := fun b o e => kept b o e (nb b)
        exact fin (re1.kept same) (fun b z => z) (fun i k xs h => .inl ⟨h, fun a ha => by
          obtain ⟨a', us', h1, h2, _⟩ := re1.own i k xs h
          rw [ha] at h1; cases h1
          rw [h2]; exact same _ _ h2⟩) (fun i u h => h) q3'
      | some jk =>
        obtain ⟨j, k⟩ := jk
        rw [qb] at e2
        have hj := boxOf_some qb
        simp only at e2
        split at e2
        · rename_i kb xs0 ys hE1 hEi
          split at e2
          · cases e2
            rename_i hny
            obtain ⟨a0, us0, h1, h2, h3, h4⟩ := re1.own k kb xs0 hE1
            have hbx0 : bx = some a0 := (hbx a0).mpr ⟨j, k, kb, xs0, hj, hE1, h1⟩
            obtain ⟨a', us1, r1, r2, r3, r4⟩ := re3.own _ true ys hEi
            have : bx = some a' := r4.mp rfl
            rw [hbx0] at this; cases this
            have ow1 : Ow B S1 E1 a0 := .inr ⟨k, kb, xs0, hE1, h1⟩
            have lts : ∀ b, Ow B S1 E1 b → LstOf H2 b := fun b z => by
              by_cases c : bx = some b
              · rw [hbx0] at c; cases c; exact ⟨us1, r2⟩
              · obtain ⟨us', e⟩ := re1.ow z
                exact ⟨us', kept b _ e c⟩
            have cont : Rps K H2 (LstOf H2) ys us1 := Rps.noL (fun _ z => z) hny r3
            have getE : ∀ {i : Nat} {u : U}, (E1.set k (some (.o kb ys)))[i]? = some (some u) → (i = k ∧ u = .o kb ys) ∨ (i ≠ k ∧ E1[i]? = some (some u)) := fun {i u} h => by
              by_cases c : i = k
              · subst c
                rw [List.getElem?_set_self (List.getElem?_eq_some_iff.mp hE1).1] at h
                cases h; exact .inl ⟨rfl, rfl⟩
              · rw [List.getElem?_set_ne (fun z => c z.symm)] at h; exact .inr ⟨c, h⟩
            have nk : ∀ {i : Nat} {l : Bool} {zs' : List T} {a : Addr}, i ≠ k → E1[i]? = some (some (.o l zs')) → S1[i]? = some (some (.ref a)) → bx ≠ some a := fun {i l zs' a} c z ha w => by
              rw [hbx0] at w; cases w
              exact c (re1.inj i k l kb zs' xs0 _ z hE1 ha h1)
            have owE : ∀ b, Ow B S1 (E1.set k (some (.o kb ys))) b → Ow B S1 E1 b := fun b z => by
              rcases z with z | ⟨i, l, zs', z1, z2⟩
              · exact .inl z
              rcases getE z1 with ⟨c, z⟩ | ⟨c, z⟩
              · subst c; exact .inr ⟨_, kb, xs0, hE1, z2⟩
              · exact .inr ⟨i, l, zs', z, z2⟩
            have kp : Kp (Ow B S1 E1) (Ow B S1 E1) H1 H2 := ⟨hk, fun b z => .inl z⟩
            refine fin (re1.step hk (by simp) (fun i u h => ?_) (fun i l zs' h => ?_) (fun a z => lts a (.inl z))) owE (fun i l zs' h => ?_) (fun i u h => ?_) q3'
            · rcases getE h with ⟨_, z⟩ | ⟨_, z⟩
              · cases z
              · exact z
            · rcases getE h with ⟨c, z⟩ | ⟨c, z⟩
              · cases z; subst c
                refine ⟨xs0, hE1, fun a ha => ?_⟩
                rw [h1] at ha; cases ha
                exact ⟨us1, r2, cont.step (Kp.less lts)⟩
              · refine ⟨zs', z, fun a ha => ?_⟩
                obtain ⟨a', us', p1', p2', p3', _⟩ := re1.own i l zs' z
                rw [ha] at p1'; cases p1'
                exact ⟨us', kept a _ p2' (nk c z ha), p3'.step kp⟩
            · rcases getE h with ⟨c, z⟩ | ⟨c, z⟩
              · cases z; subst c
                right
                intro a us2 ha hu
                rw [h1] at ha; cases ha
                rw [r2] at hu; cases hu
                exact cont
              · left
                refine ⟨z, fun a ha => ?_⟩
                obtain ⟨a', us', p1', p2', p3', _⟩ := re1.own i l zs' z
                rw [ha] at p1'; cases p1'
                rw [p2']; exact kept a _ p2' (nk c z ha)
            · rcases getE h with ⟨_, z⟩ | ⟨_, z⟩
              · cases z
              · exact z
          · cases e2
        · rename_i tp hE1
          cases e2
          have nb : ∀ b, bx ≠ some b := fun b z => by
            obtain ⟨j', k', kk, xs, h1, h2, _⟩ := (hbx b).mp z
            rw [boxOf_only ho h1] at qb; cases qb
            rw [hE1] at h2; cases h2
          have same : ∀ b o, H1 b = some o → H2 b = some o := fun b o e => kept b o e (nb b)
          exact fin (re1.kept same) (fun b z => z) (fun i k xs h => .inl ⟨h, fun a ha => by
            obtain ⟨a', us', h1, h2, _⟩ := re1.own i k xs h
            rw [ha] at h1; cases h1
            rw [h2]; exact same _ _ h2⟩) (fun i u h => h) q3'
        · cases e2
    · exact q3'.elim
theorem fe_compIf {target elt iter c : Expr} {scope : Scope} {N' : List Str} {cap : List (Nat × Bool)} {t : Nat} (hc : X.calm = true) (S : CompOk X N' scope t (cap.map (·.1))) (ho : oneBox cap = true) (hnd : (cap.map (·.1)).Nodup) (hi : QI X target iter (simI K I))
    (hg : ∀ C s3 H3 fp, QG (cxComp X N' scope C s3 H3 fp) target (simG K g)) (hb : ∀ C s3 H3 fp, QT (cxComp X N' scope C s3 H3 fp) c (simB K Fb)) (he : ∀ C s3 H3 fp, QE (cxComp X N' scope C s3 H3 fp) elt (simE K Fe)) (hs : ∀ x, foldedSetIterable iter X.env x = pure x := by intro _; rfl) :
    QE X (.ListComp elt [⟨target, iter, [c], 0⟩] scope pos) (simE K (fCompI t cap I g Fb Fe)) :=
  QE.le (t := tCompI t (cap.map (·.1)) (simI K I) (simG K g) (simB K Fb) (simE K Fe)) ⟨pe_compI hc S hi.h (fun C s3 H3 fp => (hg C s3 H3 fp).h) (fun C s3 H3 fp => (hb C s3 H3 fp).h) (fun C s3 H3 fp => (he C s3 H3 fp).h) hs⟩ fun σ H Q hl h => comp_simI S ho hnd hl h
end
end L2
set_option Elab.async false
set_option linter.all false
set_option maxRecDepth 100000
set_option maxHeartbeats 4000000
namespace L2
open PySem PySem.Spec PyProof.Rows
noncomputable def inT (t : T) (xs : List T) : Bool := xs.any fun y => eqT y t
section
variable {X : Cx} {K : PySem.W.Frag} {pos : Pos} {a b e o : Expr} {Fa Fb Fo : FE} {Fr : FA}
theorem any_T {H : Hp} {t : T} {e : Value → Bool} (he : ∀ (y : T) (w : V) (z : Value), Rq K H y w → RelV w z → e z = eqT y t) : ∀ {xs : List T} {vs : List V} {its : List Value}, Rqs K H xs vs → Vals vs its → its.any e = inT t xs ∧ ∀ z ∈ its, ∃ y ∈ xs, ∃ w, Rq K H y w ∧ RelV w z
  | [], _, _, h, r => by cases h; cases r; exact ⟨rfl, fun z hz => by cases hz⟩
  | y :: xs, _, _, h, r => by
    obtain ⟨v, ws, rfl, h1, h2⟩ := h
    cases r with
    | cons r1 r2 =>
      obtain ⟨q1, q2⟩ := any_T he h2 r2
      refine ⟨?_, fun z hz => ?_⟩
      · rw [List.any_cons, q1, he _ _ _ h1 r1]; rfl
      · rcases List.mem_cons.mp hz with rfl | hz
        · exact ⟨y, List.mem_cons_self .., v, h1, r1⟩
        · obtain ⟨y', h3, h4⟩ := q2 z hz
          exact ⟨y', List.mem_cons_of_mem _ h3, h4⟩
noncomputable def rInT (K : PySem.W.Frag) (ng : Bool) : R2 := fun x y H Q => ∃ t xs p vs, Rq K H t x ∧ y = .ref p ∧ SqL K H p vs ∧ Rqs K H xs vs ∧ dTs xs ≤ 50 ∧ Q (.bl (if ng then !(inT t xs) else inT t xs)) H
theorem in_core {k : Nat} (hr : Room k X.A) {pins : List (Addr × Obj)} {s : Shared} {σ : St} {H : Hp} (I : Inv X pins σ H s) {x : V} {v : Value} {t : T} {xs : List T} {vs : List V} {its : List Value} (ht : Rq X.K H t x) (rx : RelV x v) (hxs : Rqs X.K H xs vs) (r : Vals vs its) (hd : dTs xs ≤ 50) :
    ∃ e : Value → Bool, its.any e = inT t xs ∧ ∀ z ∈ its, SeqAt.EqAt X.A.in1 s z v (e z) := by
  obtain ⟨e, he⟩ : ∃ e : Value → Bool, ∀ (y : T) (w : V) (z : Value), Rq X.K H y w → RelV w z → e z = eqT y t := by
    refine ⟨fun z => @dite _ (∃ y w, Rq X.K H y w ∧ RelV w z) (Classical.propDecidable _) (fun h => eqT (Classical.choose h) t) (fun _ => false), fun y w z h1 h2 => ?_⟩
    have hex : ∃ y w, Rq X.K H y w ∧ RelV w z := ⟨y, w, h1, h2⟩
    show @dite _ (∃ y w, Rq X.K H y w ∧ RelV w z) (Classical.propDecidable _) (fun h => eqT (Classical.choose h) t) (fun _ => false) = _
    rw [dif_pos hex]
    obtain ⟨w', h3, h4⟩ := Classical.choose_spec hex
    have := rel_inj h2 h4
    subst this
    rw [Rq.inj I h3 h1]
  obtain ⟨q1, q2⟩ := any_T he hxs r
  refine ⟨e, q1, fun z hz => ?_⟩
  obtain ⟨y, hy, w, h1, h2⟩ := q2 z hz
  rw [he _ _ _ h1 h2]
  have := dT_mem hy
  exact (rc_all I 50 X.A.in1 y t w x z v (by omega) h1 ht h2 rx (by have := hr.units; show X.A.units + 1 + 50 < cLine; omega)).2
theorem op_ninT {k : Nat} (hr : Room k X.A) : OpR X (compareOp .NotIn) (rInT X.K true) := by
  intro pins s σ H x y v u Q I rx ry h
  obtain ⟨t, xs, p, vs, ht, rfl, hq, hxs, hd, q⟩ := h
  cases ry
  obtain ⟨its, r, pl, hz⟩ := I.list hq
  obtain ⟨e, q1, q2⟩ := in_core hr I ht rx hxs r hd
  refine SeqAt.notIn_listAt e pl.isList (fun w hw => q2 w (by simpa using hw)) ⟨.bl _, H, I, rfl, ?_⟩
  rw [show its.toArray.any e = its.any e by simp, q1]
  exact q
noncomputable def fIn (ng : Bool) (Fa Fb : FE) : FE := fun E Q => Fa E fun x E1 => Fb E1 fun y E2 => t2 (vl E2 x) (vl E2 y) fun t u => match u with
  | .lst xs => dTs xs ≤ 50 ∧ Q (.p (.bl (if ng then !(inT t xs) else inT t xs))) E2
  | _ => False
theorem ft_nin {k : Nat} (eK : X.K = K) (hr : Room k X.A) (ha : QE X a (simE K Fa)) (hb : QE X b (simE K Fb)) (hm : behindInMarks .NotIn b = false) : QT X (.Compare a [.NotIn] [b] pos) (simB K (bVal (fIn true Fa Fb))) := by
  subst eK
  refine ft_cmp (op_ninT hr) ha hb hm fun σ H Q h => two (Fa := Fa) (Fb := Fb) h fun B S E x y v w H2 Q' hS re rx ry q lk => ?_
  obtain ⟨t, u, e1, e2, q⟩ := t2.ex q
  split at q
  · rename_i xs
    obtain ⟨p, vs, e3, sq, rs⟩ := re.vl ry e2
    exact ⟨t, xs, p, vs, (re.vl rx e1).rq, e3, sq, rs.rq, q.1, lk _ _ _ _ _ q.2 .refl re rfl⟩
  · exact q.elim
noncomputable def rInsert : V → List V → Hp → VK → Prop := fun x vs H Q => ∃ (l : Addr) (xs : List V) (k : Int) (i : Nat) (y : V), x = .ref l ∧ vs = [.int k, y] ∧ k = (i : Int) ∧ H l = some (.lst xs) ∧ i ≤ xs.length ∧ xs.length < sizeLine ∧ i < 1000000 ∧ Q .non (upd H l (.lst (xs.take i ++ y :: xs.drop i)))
theorem mt_insert : MtM X "list.insert" rInsert := by
  intro pins s σ H x vs v us Q I rx rv h
  obtain ⟨l, xs, k, i, y, rfl, rfl, hk, hH, hi, hz, hi6, q⟩ := h
  cases rx
  obtain ⟨u, w, rfl, ru, rw'⟩ := Vals.two rv
  obtain ⟨t, rfl⟩ := ru
  obtain ⟨z, its, n, r, hl, e⟩ := I.lstM hH
  have hlen := r.length
  have hf : Builtin.List.listFitsIndex k = true := by
    rw [hk]
    unfold Builtin.List.listFitsIndex
    simp
    omega
  have hc : ¬ (!Builtin.List.listFitsIndex k) = true := by rw [hf]; decide
  have hs1 : its.toArray.size ≤ sizeLine := by rw [List.size_toArray, ← hlen]; exact Nat.le_of_lt hz
  have hset := I.lset (t' := s.toks) (its' := its.take i ++ w :: its.drop i) (ys := xs.take i ++ y :: xs.drop i) (f := fun ys => (ys.extract 0 (if k < 0 then (k + (ys.size : Int)).toNat else min k.toNat ys.size)).push w ++ ys.extract (if k < 0 then (k + (ys.size : Int)).toNat else min k.toNat ys.size)) hH e (by
    have e1 : (if k < 0 then (k + (its.toArray.size : Int)).toNat else min k.toNat its.toArray.size) = i := by
      rw [hk, if_neg (by omega), Int.toNat_natCast, List.size_toArray]
      omega
    show (its.toArray.extract 0 (if k < 0 then (k + (its.toArray.size : Int)).toNat else min k.toNat its.toArray.size)).push w ++ its.toArray.extract (if k < 0 then (k + (its.toArray.size : Int)).toNat else min k.toNat its.toArray.size) = _
    rw [e1]
    exact PySem.W.kl_ins_eq its i w) ((r.take i).append (.cons rw' (r.drop i))) (by
    have el : (xs.take i ++ y :: xs.drop i).length = xs.length + 1 := by
      rw [List.length_append, List.length_cons, List.length_take, List.length_drop]
      omega
    rw [el]
    exact hz)
  obtain ⟨arr, harr⟩ : ∃ arr : Array Value, arr = its.toArray := ⟨_, rfl⟩
  rw [← harr] at hs1 e
  have M := PySem.AutoSeq1.list_insert_list_int_val_1 l arr n k t w hc hs1
  refine call_meets PySem.F.slot_list_insert ⟨_, e, rfl⟩ PySem.F.entry_list_insert (PySem.F.args_list_insert_3 _ _ _) M ⟨e, ?_⟩
  exact ⟨.non, _, hset, rfl, q⟩
noncomputable def insA : List R → Option (Int × T)
  | [a, b] => (match a, b with
    | .p (.int i), .p t => some (i, t)
    | _, _ => none)
  | _ => none
theorem insA_ex {rs : List R} {i : Int} {t : T} (h : insA rs = some (i, t)) : rs = [.p (.int i), .p t] := by
  match rs, h with
  | [a, b], h =>
    unfold insA at h
    simp only at h
    split at h
    · cases h; rfl
    · cases h
noncomputable def fIns (Fo : FE) (Fr : FA) : FE := fun E Q => Fo E fun o E1 => o1 (ownOf E1 o) fun _ => Fr E1 fun rs E2 => match o with
  | .s j => (match E2[j]? with
    | some (some (.o k xs)) => o1 (insA rs) fun it => 0 ≤ it.1 ∧ it.1 ≤ (xs.length : Int) ∧ xs.length < 1000 ∧ Q (.p .non) (E2.set j (some (.o k (xs.take it.1.toNat ++ it.2 :: xs.drop it.1.toNat))))
    | _ => False)
  | _ => False
theorem fe_insert {n : Nat} {e1 e2 : Expr} {ap : Pos} (eK : X.K = K) (ho : QE X o (simE K Fo)) (ha : QA X [e1, e2] (simA K n Fr)) (hbase : attributeBase o "insert" X.env (eval o X.env) = eval o X.env := by rfl) (hline : (ap.endLine == pos.line) = true := by rfl) (hs : isStar e1 = false := by rfl) (hs2 : isStar e2 = false := by rfl) :
    QE X (.Call (.Attribute o "insert" ap) [e1, e2] [] pos) (simE K (fIns Fo Fr)) :=
  QE.le (t := tBM X.K "list" rInsert (simE K Fo) (simA K n Fr)) ⟨pe_bm PySem.F.plainAttrs_list PySem.F.slot_list_insert PySem.F.type_list_insert mt_insert ho.h ha.h hbase (by rw [star_ok hs, star_ok hs2]; rfl) hline (star_ok hs) (star_any (by simp [noStar, hs2]))⟩ fun σ H Q hl h => by
    subst eK
    obtain ⟨B, S, E, Q', ⟨τ, hS⟩, re, hF, lk⟩ := h
    refine ⟨B, S, E, _, ⟨τ, hS⟩, re, hF, fun oo E1 v H1 S1 q g1 re1 rx => ?_⟩
    obtain ⟨τ1, hS1⟩ := g1.pre
    obtain ⟨xs0, e0, q⟩ := o1.ex q
    obtain ⟨j, k, p, vs, rfl, hE, hSj, rfl, h2, h3⟩ := re1.ownOf rx e0
    refine ⟨.inl ⟨rfl, vs, SqL.of h2⟩, B, S1, E1, _, ⟨τ ++ τ1, by rw [hS1, hS, List.append_assoc]⟩, re1, q, fun rs E2 us H2 S2 q2 g2 re2 rr hn => ?_⟩
    have hSj2 : S2[j]? = some (some (.ref p)) := pre_get g2.pre hSj
    simp only at q2
    split at q2
    · rename_i k2' xs hE2
      obtain ⟨⟨i, t⟩, ea, i0, il, hz, q3⟩ := o1.ex q2
      obtain rfl := insA_ex ea
      obtain ⟨y, ws, rfl, k1, z, ws', rfl, k2, rfl⟩ := rr
      have i0 : 0 ≤ i := i0
      have il : i ≤ (xs.length : Int) := il
      obtain ⟨p', vs2, z1, z2, z3, _⟩ := re2.own j k2' xs hE2
      rw [hSj2] at z1; cases z1
      have vl := z3.length
      obtain ⟨g3, re3⟩ := re2.put (ys := xs.take i.toNat ++ t :: xs.drop i.toNat) (ws := vs2.take i.toNat ++ z :: vs2.drop i.toNat) hE2 hSj2 ((z3.take _).append ⟨z, _, rfl, k2, z3.drop _⟩)
      cases k1
      exact ⟨p, vs2, i, i.toNat, z, rfl, rfl, by omega, z2, by omega, by rw [vl]; exact small1000 (Nat.le_of_lt hz), by omega, lk _ _ _ _ _ q3 ((g1.trans g2).trans g3) re3 rfl⟩
    · exact q2.elim
end
end L2
set_option Elab.async false
set_option linter.all false
set_option maxRecDepth 100000
set_option maxHeartbeats 4000000
namespace L2
open PySem PySem.Spec PyProof.Rows
section
variable {K : PySem.W.Frag} {B : Addr → Prop} {H H' : Hp} {S S' : St} {E E' : En} {σ : St}
end
section
variable {X : Cx} {K : PySem.W.Frag} {pos : Pos} {es : List Expr} {Fr : FA}
end
section
variable {X : Cx} {K : PySem.W.Frag} {pos : Pos} {Fe : FE} {g : FG} {I : FI}
end
end L2
set_option Elab.async false
set_option linter.all false
set_option maxRecDepth 100000
set_option maxHeartbeats 4000000
namespace L2
open PySem PySem.Spec PyProof.Rows
section
variable {K : PySem.W.Frag} {B : Addr → Prop} {H H' : Hp} {S S' : St} {E E' : En} {σ : St}
end
section
variable {X : Cx} {K : PySem.W.Frag} {pos : Pos} {e : Expr} {es : List Expr} {Fr : FA} {F : FS} {body : List Stmt}
end
end L2
set_option Elab.async false
set_option linter.all false
set_option maxRecDepth 100000
set_option maxHeartbeats 4000000
namespace L2
open PySem PySem.Spec PyProof.Rows
section
variable {X : Cx} {K : PySem.W.Frag} {Fe : FE} {I : FI}
end
section
variable {P : Program} {w : World} {K : PySem.W.Frag} {mg : Str → Option Value} {base : Heap}
end
end L2
set_option Elab.async false
set_option linter.all false
set_option maxRecDepth 100000
set_option maxHeartbeats 4000000
namespace L2
open PySem PySem.Spec PyProof.Rows
section
variable {K : PySem.W.Frag} {H : Hp} {O O' : Addr → Prop}
end
section
variable {K : PySem.W.Frag} {B : Addr → Prop} {H H' : Hp} {S S' : St} {E E' : En} {σ : St}
end
section
variable {K : PySem.W.Frag} {H : Hp} {O : Addr → Prop}
end
section
variable {X : Cx} {K : PySem.W.Frag} {pos : Pos} {Fi F : FE} {l : List (Int × FE)}
end
end L2
set_option Elab.async false
set_option linter.all false
set_option maxRecDepth 100000
set_option maxHeartbeats 4000000
namespace L2
open PySem PySem.Spec PyProof.Rows
section
variable {X : Cx} {a : Expr} {pos : Pos} {K : PySem.W.Frag} {Fr : FA}
end
end L2
set_option Elab.async false
set_option linter.all false
set_option maxRecDepth 100000
set_option maxHeartbeats 4000000
namespace L2
open PySem PySem.Spec PyProof.Rows
section
variable {X : Cx} {e : Expr} {es : List Expr} {pos : Pos} {K : PySem.W.Frag} {Fr : FA}
end
end L2
set_option Elab.async false
set_option linter.all false
set_option maxRecDepth 100000
set_option maxHeartbeats 4000000
namespace HT
open PySem PySem.Spec PyProof.Rows
section
variable {prog : Program} {w : World} {A : Around} {E : Value → Shared → Prop} {s : Shared}
end
end HT
namespace HT
open PySem PySem.Spec PyProof.Rows
section
variable {prog : Program} {w : World} {A : Around} {E : Value → Shared → Prop} {s : Shared}
end
end HT
namespace L2
open PySem PySem.Spec PyProof.Rows
section
variable {X : Cx} {K : PySem.W.Frag} {a b e : Expr} {te : TE} {st : Option Expr} {ts : TO} {pos p2 : Pos} {Fa Fb : FE} {G Gl' Gh : FO}
end
end L2
set_option Elab.async false
set_option linter.all false
set_option maxRecDepth 100000
set_option maxHeartbeats 4000000
namespace L2
open PySem PySem.Spec PyProof.Rows
section
variable {X : Cx} {K : PySem.W.Frag} {e : Expr} {Fa : FE}
end
end L2
set_option Elab.async false
set_option linter.all false
set_option maxRecDepth 100000
set_option maxHeartbeats 4000000
namespace L2
open PySem PySem.Spec PyProof.Rows
section
variable {X : Cx} {pins : List (Addr × Obj)} {σ : St} {H : Hp} {s : Shared} {O : Addr → Prop}
end
section
variable {X : Cx} {K : PySem.W.Frag} {e : Expr} {es : List Expr} {pos : Pos} {Fr : FA}
end
end L2
set_option Elab.async false
set_option linter.all false
set_option maxRecDepth 100000
set_option maxHeartbeats 4000000
namespace L2
open PySem PySem.Spec PyProof.Rows
section
variable {X : Cx} {K : PySem.W.Frag} {o : Expr} {pos ap : Pos} {Fa : FE}
end
end L2
set_option Elab.async false
set_option linter.all false
set_option maxRecDepth 100000
set_option maxHeartbeats 4000000
namespace L2
open PySem PySem.Spec PyProof.Rows
section
variable {K : PySem.W.Frag} {H : Hp} {O : Addr → Prop}
end
section
variable {X : Cx} {K : PySem.W.Frag} {pos : Pos} {Fi F : FE} {l : List (Str × FE)}
end
end L2
set_option Elab.async false
set_option linter.all false
set_option maxRecDepth 100000
set_option maxHeartbeats 4000000
namespace L2
open PySem PySem.Spec PyProof.Rows
section
variable {X : Cx} {tg : Expr}
end
section
variable {X : Cx} {K : PySem.W.Frag} {a b c : Expr} {pos : Pos} {Fr : FA}
end
end L2
set_option Elab.async false
set_option linter.all false
set_option maxRecDepth 100000
set_option maxHeartbeats 4000000
namespace L2
open PySem PySem.Spec PyProof.Rows
section
variable {K : PySem.W.Frag} {B : Addr → Prop} {H : Hp} {S : St} {E : En} {σ : St}
end
section
variable {X : Cx} {K : PySem.W.Frag} {a b : Expr} {pos : Pos} {Fr : FA}
end
end L2
set_option Elab.async false
set_option linter.all false
set_option maxRecDepth 100000
set_option maxHeartbeats 4000000
namespace L2
open PySem PySem.Spec PyProof.Rows
section
variable {X : Cx} {e : Expr} {es : List Expr} {pos : Pos} {K : PySem.W.Frag} {Fr : FA}
end
end L2
set_option Elab.async false
set_option linter.all false
set_option maxRecDepth 100000
set_option maxHeartbeats 4000000
namespace L2
open PySem PySem.Spec PyProof.Rows
section
variable {X : Cx} {K : PySem.W.Frag} {pos pos' : Pos} {Fi : FE} {x k1 v1 k2 v2 : Str} {i : Expr} {ty : TE}
end
end L2
set_option Elab.async false
set_option linter.all false
set_option maxRecDepth 100000
set_option maxHeartbeats 4000000
namespace My
open PySem L2 PyProof.Rows
noncomputable def top (i : Nat) : Stmt := PySem.Challenge.pw_sidecut_k08_units_between.main.body.getD i (.Pass ⟨0, 0, 0, 0⟩)
section
variable {P : Program} {w : World} {K : PySem.W.Frag} {mg : Str → Option Value} {base : Heap}
structure Bx (xs : List T) (n : Int) : Prop where
  ex : ∃ A B c : Int, xs = [.int A, .int B, .int c] ∧ 0 ≤ A ∧ 0 ≤ B ∧ B < 2147483647 ∧ 0 ≤ c ∧ c ≤ n
theorem Bx.mono {xs : List T} {n m : Int} (b : Bx xs n) (h : n ≤ m) : Bx xs m := let ⟨A, B, c, h1, h2, h3, h4, h5, h6⟩ := b; ⟨A, B, c, h1, h2, h3, h4, h5, by omega⟩
noncomputable def tTake : SpT := fun as Q => ∃ (xs : List T) (m n : Int), as = [.b xs, .v (.int m)] ∧ Bx xs n ∧ n ≤ 1000000 ∧ 1 ≤ m ∧ m < 2 ^ 200 ∧ ∀ r ys, 0 ≤ r → r < m → Bx ys (n + 1) → Q (.v (.int r)) ys
noncomputable abbrev s_take : Stmt := top 24
theorem sc_take : FnScope ["_law_box", "_law_many", "_law_once", "_law_found"] ["_law_box", "_law_many"] (defScope s_take) := ⟨rfl, rfl, rfl, by decide +kernel, rfl, by decide +kernel, by decide +kernel⟩
theorem ok_take {f : Addr} {fd : FuncData} (F : Fun K "_law_take" "_law_take" s_take f fd) (TX : Txt mg)   : FnOk P w K mg base CX0 1 f fd ["_law_box", "_law_many"] (spOf K tTake) := by
  refine F.okT sc_take ?len (fun cdv A outer s H E hr => (fb_cons (fs_if (ft_cp op_gt (fe_ix rfl (fv 0) fe_int (fun _ _ => rfl)) fe_int (nomark _)) (fb_cons (fs_asg (fe_divmod rfl TX.n_divmod (fc (fe_ix rfl (fv 0) fe_int (fun _ _ => rfl)) (fc (fv 1) fa_nil))) (fg_tup (n := 2) rfl rfl (fgs_cons (fg_sub (fv 0) fe_int) (fgs_cons (fg_name (i := 3) sc_take.nd rfl (Or.inl rfl)) fgs_nil))))
  (fb_one (fs_ret (fv 3)))) fb_nil)
  (fb_cons (fs_asg (fe_opI0 op_add (fe_ix rfl (fv 0) fe_int (fun _ _ => rfl)) fe_int) (fg_sub (fv 0) fe_int))
  (fb_cons (fs_set (i := 2) sc_take.nd rfl (Or.inl rfl) (fe_opI op_mod (fe_opI op_pow (fe_opI0 op_add (fe_ix rfl (fv 0) fe_int (fun _ _ => rfl)) (fe_opI op_mulA fe_int (fe_ix rfl (fv 0) fe_int (fun _ _ => rfl)))) fe_int) fe_int))
  (fb_one (fs_ret (fe_opI op_mod (fe_opI op_fdivZ (fe_opI op_mod (fe_opI0 op_add (fe_opI op_mulA (fv 2) fe_int) (fe_opI op_mulA (fe_opI op_mulA (fe_ix rfl (fv 0) fe_int (fun _ _ => rfl)) (fe_ix rfl (fv 0) fe_int (fun _ _ => rfl))) fe_int)) fe_int) fe_int) (fv 1)))))))) ?rd
  case len => rintro as Q ⟨xs, m, n, rfl, _⟩; rfl
  case rd =>
    rintro as Q ⟨xs, m, n, rfl, ⟨A, B, c, rfl, hA, hB, hB2, hc, hcn⟩, hn, h1, h2, k⟩
    show if decide (0 < A) = true then _ else _
    by_cases hA0 : 0 < A
    · rw [decide_eq_true hA0, if_pos rfl]
      refine ⟨⟨by omega, h2⟩, ⟨rfl, k _ _ (Int.emod_nonneg _ (by omega)) (Int.emod_lt_of_pos _ (by omega)) ⟨_, _, _, rfl, Int.ediv_nonneg hA (by omega), hB, hB2, hc, by omega⟩⟩⟩
    · rw [decide_eq_false hA0, if_neg (by decide)]
      have p5 : CPow (B + 39373 * (c + 1)) 5 := ⟨by decide, by decide, by omega⟩
      have o1 : 0 ≤ (B + 39373 * (c + 1)) ^ (5 : Int).toNat % 2147483647 := Int.emod_nonneg _ (by decide)
      have o2 : (B + 39373 * (c + 1)) ^ (5 : Int).toNat % 2147483647 < 2147483647 := Int.emod_lt_of_pos _ (by decide)
      have d64 : CDivZ (((B + 39373 * (c + 1)) ^ (5 : Int).toNat % 2147483647 * 48271 + (c + 1) * (c + 1) * 7919) % 2147483629) 64 := ⟨by decide, Nat.lt_of_lt_of_le (show (64 : Int).natAbs < 2 ^ 7 by decide) (Nat.pow_le_pow_right (by decide) (by decide))⟩
      refine ⟨mulL (by decide), p5, (by show (0 : Int) < 2147483647; decide), ?_⟩
      refine ⟨mulR (by decide), mulL (by omega), mulR (by decide), ?_⟩
      refine ⟨(by show (0 : Int) < 2147483629; decide), d64, (by show (0 : Int) < m; omega), ⟨rfl, ?_⟩⟩
      exact k _ _ (Int.emod_nonneg _ (by omega)) (Int.emod_lt_of_pos _ (by omega)) ⟨_, _, _, rfl, hA, hB, hB2, by omega, by omega⟩
noncomputable def intsT (ns : List Int) : List T := ns.map T.int
theorem intsT_at {ns : List Int} {k : Int} (h0 : 0 ≤ k) (h1 : k < (ns.length : Int)) : ∃ z, atI (intsT ns) k = some (.int z) := by
  have hk : k.toNat < ns.length := by omega
  refine ⟨ns[k.toNat], ?_⟩
  have e3 : k = ((k.toNat : Nat) : Int) := by omega
  have z := atI_nat (xs := intsT ns) (j := k.toNat) (v := T.int ns[k.toNat]) (by rw [intsT, List.getElem?_map, List.getElem?_eq_getElem hk]; rfl)
  rw [← e3] at z
  exact z
noncomputable def tBoxOf : SpT := fun as Q => ∃ (ns : List Int) (k : Int), as = [.v (.lst (intsT ns)), .v (.int k)] ∧ 0 ≤ k ∧ k ≤ 1000 ∧ ∀ xs, Bx xs 0 → noLs xs = true → Q (.l xs) []
noncomputable abbrev s_box_of : Stmt := top 23
theorem sc_box_of : FnScope ["_law_script", "_law_k", "_law_cell"] ["_law_script", "_law_k"] (defScope s_box_of) := ⟨rfl, rfl, rfl, by decide +kernel, rfl, by decide +kernel, by decide +kernel⟩
theorem ok_box_of {f : Addr} {fd : FuncData} (F : Fun K "_law_box_of" "_law_box_of" s_box_of f fd) (TX : Txt mg)   : FnOk P w K mg base CX0 1 f fd ["_law_script", "_law_k"] (spOf K tBoxOf) := by
  refine F.okT sc_box_of ?len (fun cdv A outer s H E hr => (fb_cons (fs_set (i := 2) sc_box_of.nd rfl (Or.inl rfl) fe_int)
  (fb_cons (fs_if (ft_cp op_lt (fv 1) (fe_len rfl rfl TX.n_len (fc (fv 0) fa_nil)) (nomark _)) (fb_one (fs_set (i := 2) sc_box_of.nd rfl (Or.inl rfl) (fe_ix rfl (fv 0) (fv 1) (fun _ _ => rfl)))) fb_nil)
  (fb_one (fs_ret (fe_lst (fc (fe_opI op_mulA (fe_abs rfl TX.n_abs (fc (fv 2) fa_nil)) (fe_intB rfl TX.n_int (fc (fe_cp op_ge (fe_abs rfl TX.n_abs (fc (fv 2) fa_nil)) (fe_opI op_pow fe_int fe_int) (nomark _)) fa_nil))) (fc (fe_opI op_mod (fe_opI0 op_add (fv 2) (fe_opI op_mulA (fe_opI op_mulA fe_int (fv 1)) (fv 1))) fe_int) (fc fe_int fa_nil))))))))) ?rd
  case len => rintro as Q ⟨ns, k, rfl, _⟩; rfl
  case rd =>
    rintro as Q ⟨ns, k, rfl, h0, h1, q⟩
    have p10 : CPow 10 18 := ⟨by decide, by decide, by decide⟩
    have bx : ∀ z : Int, Bx [.int ((z.natAbs : Int) * (if decide ((10 : Int) ^ (18 : Int).toNat ≤ (z.natAbs : Int)) = true then 1 else 0)), .int ((z + 7919 * k * k) % 2147483647), .int 0] 0 := fun z =>
      ⟨_, _, _, rfl, Int.mul_nonneg (by omega) (by split <;> decide), Int.emod_nonneg _ (by decide), Int.emod_lt_of_pos _ (by decide), by decide, by decide⟩
    have k2 : (7919 * k).natAbs < 2 ^ 60 := by omega
    have one : ∀ z : Int, (if decide ((10 : Int) ^ (18 : Int).toNat ≤ (z.natAbs : Int)) = true then (1 : Int) else 0).natAbs < 2 ^ 60 := fun z => by split <;> decide
    have pm : (fun (_ j : Int) => 0 < j) 0 2147483647 := by show (0 : Int) < 2147483647; decide
    show if decide (k < ((intsT ns).length : Int)) = true then _ else _
    by_cases hk : k < ((intsT ns).length : Int)
    · rw [decide_eq_true hk, if_pos rfl]
      obtain ⟨z, hz⟩ := intsT_at (ns := ns) h0 (by simpa [intsT] using hk)
      show o1 (atI (intsT ns) k) _
      rw [hz]
      exact ⟨p10, mulR (one z), mulL (by decide), mulL k2, pm, ⟨rfl, q _ (bx z) rfl⟩⟩
    · rw [decide_eq_false hk, if_neg (by decide)]
      exact ⟨p10, mulR (one 0), mulL (by decide), mulL k2, pm, ⟨rfl, q _ (bx 0) rfl⟩⟩
noncomputable def tLow : SpT := fun as Q => ∃ (n d : Int), as = [.v (.int n), .v (.int d)] ∧ d ≠ 0 ∧ d.natAbs < 2 ^ 8000 ∧ Q (.v (fr (low n d))) []
theorem cdivZ {i : Int} {n d : Int} (hd : d ≠ 0) (hb : d.natAbs < 2 ^ 8000) : CDivZ i ((Nat.gcd n.natAbs d.natAbs : Nat) : Int) := by
  have h1 : 0 < Nat.gcd n.natAbs d.natAbs := Nat.gcd_pos_of_pos_right _ (by omega)
  have h2 : Nat.gcd n.natAbs d.natAbs ≤ d.natAbs := Nat.gcd_le_right _ (by omega)
  exact ⟨by omega, Nat.lt_of_le_of_lt (by omega) hb⟩
theorem fdivN (i : Int) (n : Nat) : i.fdiv (n : Int) = i / (n : Int) := Int.fdiv_eq_ediv_of_nonneg _ (by omega)
noncomputable abbrev s_lowest : Stmt := top 26
theorem sc_lowest : FnScope ["_law_n", "_law_d", "_law_one", "_law_other"] ["_law_n", "_law_d"] (defScope s_lowest) := ⟨rfl, rfl, rfl, by decide +kernel, rfl, by decide +kernel, by decide +kernel⟩
theorem ok_lowest {f : Addr} {fd : FuncData} (F : Fun K "_law_lowest" "_law_lowest" s_lowest f fd) (TX : Txt mg)   : FnOk P w K mg base CX0 1 f fd ["_law_n", "_law_d"] (spOf K tLow) := by
  refine F.okT sc_lowest ?len (fun cdv A outer s H E hr => (fb_cons (fs_par (i := 2) (j := 3) rfl sc_lowest.nd rfl rfl (by decide) rfl rfl (fc (fe_abs rfl TX.n_abs (fc (fv 0) fa_nil)) (fc (fe_abs rfl TX.n_abs (fc (fv 1) fa_nil)) fa_nil)) rfl)
  (fb_cons (fs_while PassesOwn.never (ft_cp op_gt (fv 3) fe_int (nomark _)) (fb_one (fs_par (i := 2) (j := 3) rfl sc_lowest.nd rfl rfl (by decide) rfl rfl (fc (fv 3) (fc (fe_opI op_mod (fv 2) (fv 3)) fa_nil)) rfl)))
  (fb_one (fs_ret (fe_if (ft_cp op_gt (fv 1) fe_int (nomark _)) (fe_tup (fc (fe_opI op_fdivZ (fv 0) (fv 2)) (fc (fe_opI op_fdivZ (fv 1) (fv 2)) fa_nil))) (fe_tup (fc (fe_opI op_fdivZ (fe_neg (fv 0)) (fv 2)) (fc (fe_opI op_fdivZ (fe_neg (fv 1)) (fv 2)) fa_nil))))))))) ?rd
  case len => rintro as Q ⟨n, d, rfl, _⟩; rfl
  case rd =>
    rintro as Q ⟨n, d, rfl, hd, hb, q⟩
    refine ⟨fun m E => ∃ x y : Nat, E = [some (.p (.int n)), some (.p (.int d)), some (.p (.int x)), some (.p (.int y))] ∧ m = y ∧ Nat.gcd x y = Nat.gcd n.natAbs d.natAbs, ⟨_, _, _, rfl, rfl, rfl⟩, ?_⟩
    rintro m E ⟨x, y, rfl, rfl, hg⟩
    show if decide ((0 : Int) < (m : Int)) = true then _ else _
    by_cases hy : (0 : Int) < (m : Int)
    · rw [decide_eq_true hy, if_pos rfl]
      exact ⟨hy, x % m, Nat.mod_lt _ (by omega), m, x % m, rfl, rfl, by rw [gcd_step]; exact hg⟩
    · rw [decide_eq_false hy, if_neg (by decide)]
      obtain rfl : m = 0 := by omega
      rw [Nat.gcd_zero_right] at hg
      subst hg
      show if decide (0 < d) = true then _ else _
      by_cases h : 0 < d
      · rw [decide_eq_true h, if_pos rfl]
        refine ⟨cdivZ hd hb, cdivZ hd hb, rfl, ?_⟩
        unfold low lowN lowD at q
        rw [if_pos h, if_pos h, ← fdivN, ← fdivN] at q
        exact q
      · rw [decide_eq_false h, if_neg (by decide)]
        refine ⟨cdivZ hd hb, cdivZ hd hb, rfl, ?_⟩
        unfold low lowN lowD at q
        rw [if_neg h, if_neg h, ← fdivN, ← fdivN] at q
        exact q
noncomputable def tCommon : SpT := fun as Q => ∃ (n d : Int), as = [.v (.int n), .v (.int d)] ∧ Q (.v (.int ((Nat.gcd n.natAbs d.natAbs : Nat) : Int))) []
noncomputable abbrev s_common_divisor : Stmt := top 1
theorem sc_common_divisor : FnScope ["one", "other"] ["one", "other"] (defScope s_common_divisor) := ⟨rfl, rfl, rfl, by decide +kernel, rfl, by decide +kernel, by decide +kernel⟩
theorem ok_common_divisor {f : Addr} {fd : FuncData} (F : Fun K "common_divisor" "common_divisor" s_common_divisor f fd) (TX : Txt mg)   : FnOk P w K mg base CX0 1 f fd ["one", "other"] (spOf K tCommon) := by
  refine F.okT sc_common_divisor ?len (fun cdv A outer s H E hr => (fb_cons (fs_par (i := 0) (j := 1) rfl sc_common_divisor.nd rfl rfl (by decide) rfl rfl (fc (fe_abs rfl TX.n_abs (fc (fv 0) fa_nil)) (fc (fe_abs rfl TX.n_abs (fc (fv 1) fa_nil)) fa_nil)) rfl)
  (fb_cons (fs_while PassesOwn.never (ft_ne rfl hr (fv 1) fe_int (nomark _)) (fb_one (fs_par (i := 0) (j := 1) rfl sc_common_divisor.nd rfl rfl (by decide) rfl rfl (fc (fv 1) (fc (fe_opI op_mod (fv 0) (fv 1)) fa_nil)) rfl)))
  (fb_one (fs_ret (fv 0)))))) ?rd
  case len => rintro as Q ⟨n, d, rfl, _⟩; rfl
  case rd =>
    rintro as Q ⟨n, d, rfl, q⟩
    refine ⟨fun m E => ∃ x y : Nat, E = [some (.p (.int x)), some (.p (.int y))] ∧ m = y ∧ Nat.gcd x y = Nat.gcd n.natAbs d.natAbs, ⟨_, _, _, rfl, rfl, rfl⟩, ?_⟩
    rintro m E ⟨x, y, rfl, rfl, hg⟩
    refine ⟨Nat.zero_le _, ?_⟩
    show if (!((m : Int) == 0)) = true then _ else _
    by_cases hy : m = 0
    · subst hy
      rw [if_neg (by decide)]
      rw [Nat.gcd_zero_right] at hg
      subst hg
      exact ⟨rfl, q⟩
    · rw [if_pos (by simpa using hy)]
      exact ⟨(by show (0 : Int) < (m : Int); omega), x % m, Nat.mod_lt _ (by omega), m, x % m, rfl, rfl, by rw [gcd_step]; exact hg⟩
noncomputable abbrev s_fraction : Stmt := top 2
theorem sc_fraction : FnScope ["n", "d", "divisor"] ["n", "d"] (defScope s_fraction) := ⟨rfl, rfl, rfl, by decide +kernel, rfl, by decide +kernel, by decide +kernel⟩
theorem ok_fraction {f : Addr} {fd : FuncData} (F : Fun K "fraction" "fraction" s_fraction f fd) (TX : Txt mg) (g_common_divisor : Fn P w K mg base 1 "common_divisor" ["one", "other"] (spOf K tCommon))  : FnOk P w K mg base CX0 2 f fd ["n", "d"] (spOf K tLow) := by
  refine F.okT sc_fraction ?len (fun cdv A outer s H E hr => (fb_cons (fs_assert (ft_ne rfl hr (fv 1) fe_int (nomark _)))
  (fb_cons (fs_set (i := 2) sc_fraction.nd rfl (Or.inl rfl) (fe_call g_common_divisor hr (by omega) rfl (fc (fv 0) (fc (fv 1) fa_nil))))
  (fb_cons (fs_if (ft_cp op_lt (fv 1) fe_int (nomark _)) (fb_one (fs_set (i := 2) sc_fraction.nd rfl (Or.inl rfl) (fe_neg (fv 2)))) fb_nil)
  (fb_one (fs_ret (fe_tup (fc (fe_opI op_fdivZ (fv 0) (fv 2)) (fc (fe_opI op_fdivZ (fv 1) (fv 2)) fa_nil))))))))) ?rd
  case len => rintro as Q ⟨n, d, rfl, _⟩; rfl
  case rd =>
    rintro as Q ⟨n, d, rfl, hd, hb, q⟩
    have hd' : (!(d == 0)) = true := by simpa using hd
    refine ⟨Nat.zero_le _, hd', n, d, rfl, ?_⟩
    have dn : ((Nat.gcd n.natAbs d.natAbs : Nat) : Int) ∣ n := Int.ofNat_dvd_left.mpr (Nat.gcd_dvd_left _ _)
    have dd : ((Nat.gcd n.natAbs d.natAbs : Nat) : Int) ∣ d := Int.ofNat_dvd_left.mpr (Nat.gcd_dvd_right _ _)
    have g0 : ((Nat.gcd n.natAbs d.natAbs : Nat) : Int) ≠ 0 := (cdivZ (i := 0) (n := n) hd hb).1
    have fneg : ∀ {g m : Int}, g ≠ 0 → g ∣ m → m.fdiv (-g) = (-m) / g := fun {g m} h0 hm => by
      obtain ⟨k, rfl⟩ := hm
      have e1 : g * k = (-g) * (-k) := by grind
      have e2 : -(g * k) = g * (-k) := by grind
      rw [e2, Int.mul_ediv_cancel_left _ h0, e1, Int.mul_fdiv_cancel_left _ (by omega)]
    show if decide (d < 0) = true then _ else _
    by_cases h : d < 0
    · rw [decide_eq_true h, if_pos rfl]
      have cz : ∀ i : Int, CDivZ i (-((Nat.gcd n.natAbs d.natAbs : Nat) : Int)) := fun i => ⟨by omega, by rw [Int.natAbs_neg]; exact (cdivZ (i := i) (n := n) hd hb).2⟩
      refine ⟨cz _, cz _, rfl, ?_⟩
      unfold low lowN lowD at q
      rw [if_neg (by omega), if_neg (by omega), ← fneg g0 dn, ← fneg g0 dd] at q
      exact q
    · rw [decide_eq_false h, if_neg (by decide)]
      refine ⟨cdivZ hd hb, cdivZ hd hb, rfl, ?_⟩
      unfold low lowN lowD at q
      rw [if_pos (by omega), if_pos (by omega), ← fdivN, ← fdivN] at q
      exact q
end
end My
set_option Elab.async false
set_option linter.all false
set_option maxRecDepth 100000
set_option maxHeartbeats 4000000
namespace My
open PySem L2 PyProof.Rows
section
variable {P : Program} {w : World} {K : PySem.W.Frag} {mg : Str → Option Value} {base : Heap}
theorem pl {x e f : Nat} (h : x < 2 ^ e) (k : e ≤ f) : x < 2 ^ f := Nat.lt_of_lt_of_le h (Nat.pow_le_pow_right (by decide) k)
noncomputable def tBin (op : Fr → Fr → Fr) : SpT := fun as Q => ∃ x y : Fr, as = [.v (fr x), .v (fr y)] ∧ Nrm x ∧ Nrm y ∧ sz x + sz y ≤ 7000 ∧ Q (.v (fr (op x y))) []
noncomputable abbrev s_added : Stmt := top 3
theorem sc_added : FnScope ["one", "other"] ["one", "other"] (defScope s_added) := ⟨rfl, rfl, rfl, by decide +kernel, rfl, by decide +kernel, by decide +kernel⟩
theorem ok_added {f : Addr} {fd : FuncData} (F : Fun K "added" "added" s_added f fd) (TX : Txt mg) (g_fraction : Fn P w K mg base 2 "fraction" ["n", "d"] (spOf K tLow))  : FnOk P w K mg base CX0 3 f fd ["one", "other"] (spOf K (tBin fadd)) := by
  refine F.okT sc_added ?len (fun cdv A outer s H E hr => (fb_one (fs_ret (fe_call g_fraction hr (by omega) rfl (fc (fe_opI0 op_add (fe_opI op_mulA (fe_ix rfl (fv 0) fe_int (fun _ _ => rfl)) (fe_ix rfl (fv 1) fe_int (fun _ _ => rfl))) (fe_opI op_mulA (fe_ix rfl (fv 1) fe_int (fun _ _ => rfl)) (fe_ix rfl (fv 0) fe_int (fun _ _ => rfl)))) (fc (fe_opI op_mulA (fe_ix rfl (fv 0) fe_int (fun _ _ => rfl)) (fe_ix rfl (fv 1) fe_int (fun _ _ => rfl))) fa_nil)))))) ?rd
  case len => rintro as Q ⟨x, y, rfl, _⟩; rfl
  case rd =>
    rintro as Q ⟨x, y, rfl, hx, hy, hs, q⟩
    have hd : (x.2 * y.2).natAbs < 2 ^ 8000 := pow8 (mul_pow (sz_d x) (sz_d y)) (by omega)
    exact ⟨mulA (e := 7000) (pl (sz_n x) (by omega)) (pl (sz_d y) (by omega)) (by decide), mulA (e := 7000) (pl (sz_n y) (by omega)) (pl (sz_d x) (by omega)) (by decide), mulA (e := 7000) (pl (sz_d x) (by omega)) (pl (sz_d y) (by omega)) (by decide), _, _, rfl, mul_ne hx hy, hd, rfl, q⟩
noncomputable abbrev s_taken : Stmt := top 4
theorem sc_taken : FnScope ["one", "other"] ["one", "other"] (defScope s_taken) := ⟨rfl, rfl, rfl, by decide +kernel, rfl, by decide +kernel, by decide +kernel⟩
theorem ok_taken {f : Addr} {fd : FuncData} (F : Fun K "taken" "taken" s_taken f fd) (TX : Txt mg) (g_fraction : Fn P w K mg base 2 "fraction" ["n", "d"] (spOf K tLow))  : FnOk P w K mg base CX0 3 f fd ["one", "other"] (spOf K (tBin fsub)) := by
  refine F.okT sc_taken ?len (fun cdv A outer s H E hr => (fb_one (fs_ret (fe_call g_fraction hr (by omega) rfl (fc (fe_opI0 op_sub (fe_opI op_mulA (fe_ix rfl (fv 0) fe_int (fun _ _ => rfl)) (fe_ix rfl (fv 1) fe_int (fun _ _ => rfl))) (fe_opI op_mulA (fe_ix rfl (fv 1) fe_int (fun _ _ => rfl)) (fe_ix rfl (fv 0) fe_int (fun _ _ => rfl)))) (fc (fe_opI op_mulA (fe_ix rfl (fv 0) fe_int (fun _ _ => rfl)) (fe_ix rfl (fv 1) fe_int (fun _ _ => rfl))) fa_nil)))))) ?rd
  case len => rintro as Q ⟨x, y, rfl, _⟩; rfl
  case rd =>
    rintro as Q ⟨x, y, rfl, hx, hy, hs, q⟩
    have hd : (x.2 * y.2).natAbs < 2 ^ 8000 := pow8 (mul_pow (sz_d x) (sz_d y)) (by omega)
    exact ⟨mulA (e := 7000) (pl (sz_n x) (by omega)) (pl (sz_d y) (by omega)) (by decide), mulA (e := 7000) (pl (sz_n y) (by omega)) (pl (sz_d x) (by omega)) (by decide), mulA (e := 7000) (pl (sz_d x) (by omega)) (pl (sz_d y) (by omega)) (by decide), _, _, rfl, mul_ne hx hy, hd, rfl, q⟩
noncomputable abbrev s_times : Stmt := top 5
theorem sc_times : FnScope ["one", "other"] ["one", "other"] (defScope s_times) := ⟨rfl, rfl, rfl, by decide +kernel, rfl, by decide +kernel, by decide +kernel⟩
theorem ok_times {f : Addr} {fd : FuncData} (F : Fun K "times" "times" s_times f fd) (TX : Txt mg) (g_fraction : Fn P w K mg base 2 "fraction" ["n", "d"] (spOf K tLow))  : FnOk P w K mg base CX0 3 f fd ["one", "other"] (spOf K (tBin fmul)) := by
  refine F.okT sc_times ?len (fun cdv A outer s H E hr => (fb_one (fs_ret (fe_call g_fraction hr (by omega) rfl (fc (fe_opI op_mulA (fe_ix rfl (fv 0) fe_int (fun _ _ => rfl)) (fe_ix rfl (fv 1) fe_int (fun _ _ => rfl))) (fc (fe_opI op_mulA (fe_ix rfl (fv 0) fe_int (fun _ _ => rfl)) (fe_ix rfl (fv 1) fe_int (fun _ _ => rfl))) fa_nil)))))) ?rd
  case len => rintro as Q ⟨x, y, rfl, _⟩; rfl
  case rd =>
    rintro as Q ⟨x, y, rfl, hx, hy, hs, q⟩
    have hd : (x.2 * y.2).natAbs < 2 ^ 8000 := pow8 (mul_pow (sz_d x) (sz_d y)) (by omega)
    exact ⟨mulA (e := 7000) (pl (sz_n x) (by omega)) (pl (sz_n y) (by omega)) (by decide), mulA (e := 7000) (pl (sz_d x) (by omega)) (pl (sz_d y) (by omega)) (by decide), _, _, rfl, mul_ne hx hy, hd, rfl, q⟩
noncomputable abbrev s_sum : Stmt := top 27
theorem sc_sum : FnScope ["_law_p", "_law_q"] ["_law_p", "_law_q"] (defScope s_sum) := ⟨rfl, rfl, rfl, by decide +kernel, rfl, by decide +kernel, by decide +kernel⟩
theorem ok_sum {f : Addr} {fd : FuncData} (F : Fun K "_law_sum" "_law_sum" s_sum f fd) (TX : Txt mg) (g_lowest : Fn P w K mg base 1 "_law_lowest" ["_law_n", "_law_d"] (spOf K tLow))  : FnOk P w K mg base CX0 2 f fd ["_law_p", "_law_q"] (spOf K (tBin fadd)) := by
  refine F.okT sc_sum ?len (fun cdv A outer s H E hr => (fb_one (fs_ret (fe_call g_lowest hr (by omega) rfl (fc (fe_opI0 op_add (fe_opI op_mulA (fe_ix rfl (fv 0) fe_int (fun _ _ => rfl)) (fe_ix rfl (fv 1) fe_int (fun _ _ => rfl))) (fe_opI op_mulA (fe_ix rfl (fv 1) fe_int (fun _ _ => rfl)) (fe_ix rfl (fv 0) fe_int (fun _ _ => rfl)))) (fc (fe_opI op_mulA (fe_ix rfl (fv 0) fe_int (fun _ _ => rfl)) (fe_ix rfl (fv 1) fe_int (fun _ _ => rfl))) fa_nil)))))) ?rd
  case len => rintro as Q ⟨x, y, rfl, _⟩; rfl
  case rd =>
    rintro as Q ⟨x, y, rfl, hx, hy, hs, q⟩
    have hd : (x.2 * y.2).natAbs < 2 ^ 8000 := pow8 (mul_pow (sz_d x) (sz_d y)) (by omega)
    exact ⟨mulA (e := 7000) (pl (sz_n x) (by omega)) (pl (sz_d y) (by omega)) (by decide), mulA (e := 7000) (pl (sz_n y) (by omega)) (pl (sz_d x) (by omega)) (by decide), mulA (e := 7000) (pl (sz_d x) (by omega)) (pl (sz_d y) (by omega)) (by decide), _, _, rfl, mul_ne hx hy, hd, rfl, q⟩
noncomputable abbrev s_less : Stmt := top 28
theorem sc_less : FnScope ["_law_p", "_law_q"] ["_law_p", "_law_q"] (defScope s_less) := ⟨rfl, rfl, rfl, by decide +kernel, rfl, by decide +kernel, by decide +kernel⟩
theorem ok_less {f : Addr} {fd : FuncData} (F : Fun K "_law_less" "_law_less" s_less f fd) (TX : Txt mg) (g_lowest : Fn P w K mg base 1 "_law_lowest" ["_law_n", "_law_d"] (spOf K tLow))  : FnOk P w K mg base CX0 2 f fd ["_law_p", "_law_q"] (spOf K (tBin fsub)) := by
  refine F.okT sc_less ?len (fun cdv A outer s H E hr => (fb_one (fs_ret (fe_call g_lowest hr (by omega) rfl (fc (fe_opI0 op_sub (fe_opI op_mulA (fe_ix rfl (fv 0) fe_int (fun _ _ => rfl)) (fe_ix rfl (fv 1) fe_int (fun _ _ => rfl))) (fe_opI op_mulA (fe_ix rfl (fv 1) fe_int (fun _ _ => rfl)) (fe_ix rfl (fv 0) fe_int (fun _ _ => rfl)))) (fc (fe_opI op_mulA (fe_ix rfl (fv 0) fe_int (fun _ _ => rfl)) (fe_ix rfl (fv 1) fe_int (fun _ _ => rfl))) fa_nil)))))) ?rd
  case len => rintro as Q ⟨x, y, rfl, _⟩; rfl
  case rd =>
    rintro as Q ⟨x, y, rfl, hx, hy, hs, q⟩
    have hd : (x.2 * y.2).natAbs < 2 ^ 8000 := pow8 (mul_pow (sz_d x) (sz_d y)) (by omega)
    exact ⟨mulA (e := 7000) (pl (sz_n x) (by omega)) (pl (sz_d y) (by omega)) (by decide), mulA (e := 7000) (pl (sz_n y) (by omega)) (pl (sz_d x) (by omega)) (by decide), mulA (e := 7000) (pl (sz_d x) (by omega)) (pl (sz_d y) (by omega)) (by decide), _, _, rfl, mul_ne hx hy, hd, rfl, q⟩
noncomputable abbrev s_product : Stmt := top 29
theorem sc_product : FnScope ["_law_p", "_law_q"] ["_law_p", "_law_q"] (defScope s_product) := ⟨rfl, rfl, rfl, by decide +kernel, rfl, by decide +kernel, by decide +kernel⟩
theorem ok_product {f : Addr} {fd : FuncData} (F : Fun K "_law_product" "_law_product" s_product f fd) (TX : Txt mg) (g_lowest : Fn P w K mg base 1 "_law_lowest" ["_law_n", "_law_d"] (spOf K tLow))  : FnOk P w K mg base CX0 2 f fd ["_law_p", "_law_q"] (spOf K (tBin fmul)) := by
  refine F.okT sc_product ?len (fun cdv A outer s H E hr => (fb_one (fs_ret (fe_call g_lowest hr (by omega) rfl (fc (fe_opI op_mulA (fe_ix rfl (fv 0) fe_int (fun _ _ => rfl)) (fe_ix rfl (fv 1) fe_int (fun _ _ => rfl))) (fc (fe_opI op_mulA (fe_ix rfl (fv 0) fe_int (fun _ _ => rfl)) (fe_ix rfl (fv 1) fe_int (fun _ _ => rfl))) fa_nil)))))) ?rd
  case len => rintro as Q ⟨x, y, rfl, _⟩; rfl
  case rd =>
    rintro as Q ⟨x, y, rfl, hx, hy, hs, q⟩
    have hd : (x.2 * y.2).natAbs < 2 ^ 8000 := pow8 (mul_pow (sz_d x) (sz_d y)) (by omega)
    exact ⟨mulA (e := 7000) (pl (sz_n x) (by omega)) (pl (sz_n y) (by omega)) (by decide), mulA (e := 7000) (pl (sz_d x) (by omega)) (pl (sz_d y) (by omega)) (by decide), _, _, rfl, mul_ne hx hy, hd, rfl, q⟩
noncomputable def fdot (x y x' y' : Fr) : Fr := fadd (fmul x x') (fmul y y')
noncomputable def fcross (x y x' y' : Fr) : Fr := fsub (fmul x y') (fmul y x')
structure Nv (a b : Fr) (e : Nat) : Prop where
  x : Nrm a
  y : Nrm b
  sx : sz a ≤ e
  sy : sz b ≤ e
noncomputable def tVV (op : Fr → Fr → Fr → Fr → Fr) : SpT := fun as Q => ∃ (x y x' y' : Fr) (e f : Nat), as = [.v (vc x y), .v (vc x' y')] ∧ Nv x y e ∧ Nv x' y' f ∧ e + f ≤ 3000 ∧ Q (.v (fr (op x y x' y'))) []
noncomputable abbrev s_dot : Stmt := top 9
theorem sc_dot : FnScope ["one", "other"] ["one", "other"] (defScope s_dot) := ⟨rfl, rfl, rfl, by decide +kernel, rfl, by decide +kernel, by decide +kernel⟩
theorem ok_dot {f : Addr} {fd : FuncData} (F : Fun K "dot" "dot" s_dot f fd) (TX : Txt mg) (g_times : Fn P w K mg base 3 "times" ["one", "other"] (spOf K (tBin fmul))) (g_added : Fn P w K mg base 3 "added" ["one", "other"] (spOf K (tBin fadd)))  : FnOk P w K mg base CX0 4 f fd ["one", "other"] (spOf K (tVV fdot)) := by
  refine F.okT sc_dot ?len (fun cdv A outer s H E hr => (fb_one (fs_ret (fe_call g_added hr (by omega) rfl (fc (fe_call g_times hr (by omega) rfl (fc (fe_ix rfl (fv 0) fe_int (fun _ _ => rfl)) (fc (fe_ix rfl (fv 1) fe_int (fun _ _ => rfl)) fa_nil))) (fc (fe_call g_times hr (by omega) rfl (fc (fe_ix rfl (fv 0) fe_int (fun _ _ => rfl)) (fc (fe_ix rfl (fv 1) fe_int (fun _ _ => rfl)) fa_nil))) fa_nil)))))) ?rd
  case len => rintro as Q ⟨x, y, x', y', e, f, rfl, _⟩; rfl
  case rd =>
    rintro as Q ⟨x, y, x', y', e, f, rfl, h, k, he, q⟩
    have := h.sx; have := h.sy; have := k.sx; have := k.sy
    have n1 := nrm_mul h.x k.x; have n2 := nrm_mul h.y k.y
    have s1 := sz_mul h.x k.x; have s2 := sz_mul h.y k.y
    exact ⟨_, _, rfl, h.x, k.x, by omega, _, _, rfl, h.y, k.y, by omega, _, _, rfl, n1, n2, by omega, rfl, q⟩
noncomputable abbrev s_cross : Stmt := top 10
theorem sc_cross : FnScope ["one", "other"] ["one", "other"] (defScope s_cross) := ⟨rfl, rfl, rfl, by decide +kernel, rfl, by decide +kernel, by decide +kernel⟩
theorem ok_cross {f : Addr} {fd : FuncData} (F : Fun K "cross" "cross" s_cross f fd) (TX : Txt mg) (g_times : Fn P w K mg base 3 "times" ["one", "other"] (spOf K (tBin fmul))) (g_taken : Fn P w K mg base 3 "taken" ["one", "other"] (spOf K (tBin fsub)))  : FnOk P w K mg base CX0 4 f fd ["one", "other"] (spOf K (tVV fcross)) := by
  refine F.okT sc_cross ?len (fun cdv A outer s H E hr => (fb_one (fs_ret (fe_call g_taken hr (by omega) rfl (fc (fe_call g_times hr (by omega) rfl (fc (fe_ix rfl (fv 0) fe_int (fun _ _ => rfl)) (fc (fe_ix rfl (fv 1) fe_int (fun _ _ => rfl)) fa_nil))) (fc (fe_call g_times hr (by omega) rfl (fc (fe_ix rfl (fv 0) fe_int (fun _ _ => rfl)) (fc (fe_ix rfl (fv 1) fe_int (fun _ _ => rfl)) fa_nil))) fa_nil)))))) ?rd
  case len => rintro as Q ⟨x, y, x', y', e, f, rfl, _⟩; rfl
  case rd =>
    rintro as Q ⟨x, y, x', y', e, f, rfl, h, k, he, q⟩
    have := h.sx; have := h.sy; have := k.sx; have := k.sy
    have n1 := nrm_mul h.x k.y; have n2 := nrm_mul h.y k.x
    have s1 := sz_mul h.x k.y; have s2 := sz_mul h.y k.x
    exact ⟨_, _, rfl, h.x, k.y, by omega, _, _, rfl, h.y, k.x, by omega, _, _, rfl, n1, n2, by omega, rfl, q⟩
noncomputable abbrev s_ldot : Stmt := top 32
theorem sc_ldot : FnScope ["_law_p", "_law_q"] ["_law_p", "_law_q"] (defScope s_ldot) := ⟨rfl, rfl, rfl, by decide +kernel, rfl, by decide +kernel, by decide +kernel⟩
theorem ok_ldot {f : Addr} {fd : FuncData} (F : Fun K "_law_dot" "_law_dot" s_ldot f fd) (TX : Txt mg) (g_product : Fn P w K mg base 2 "_law_product" ["_law_p", "_law_q"] (spOf K (tBin fmul))) (g_sum : Fn P w K mg base 2 "_law_sum" ["_law_p", "_law_q"] (spOf K (tBin fadd)))  : FnOk P w K mg base CX0 3 f fd ["_law_p", "_law_q"] (spOf K (tVV fdot)) := by
  refine F.okT sc_ldot ?len (fun cdv A outer s H E hr => (fb_one (fs_ret (fe_call g_sum hr (by omega) rfl (fc (fe_call g_product hr (by omega) rfl (fc (fe_ix rfl (fv 0) fe_int (fun _ _ => rfl)) (fc (fe_ix rfl (fv 1) fe_int (fun _ _ => rfl)) fa_nil))) (fc (fe_call g_product hr (by omega) rfl (fc (fe_ix rfl (fv 0) fe_int (fun _ _ => rfl)) (fc (fe_ix rfl (fv 1) fe_int (fun _ _ => rfl)) fa_nil))) fa_nil)))))) ?rd
  case len => rintro as Q ⟨x, y, x', y', e, f, rfl, _⟩; rfl
  case rd =>
    rintro as Q ⟨x, y, x', y', e, f, rfl, h, k, he, q⟩
    have := h.sx; have := h.sy; have := k.sx; have := k.sy
    have n1 := nrm_mul h.x k.x; have n2 := nrm_mul h.y k.y
    have s1 := sz_mul h.x k.x; have s2 := sz_mul h.y k.y
    exact ⟨_, _, rfl, h.x, k.x, by omega, _, _, rfl, h.y, k.y, by omega, _, _, rfl, n1, n2, by omega, rfl, q⟩
noncomputable abbrev s_lcross : Stmt := top 33
theorem sc_lcross : FnScope ["_law_p", "_law_q"] ["_law_p", "_law_q"] (defScope s_lcross) := ⟨rfl, rfl, rfl, by decide +kernel, rfl, by decide +kernel, by decide +kernel⟩
theorem ok_lcross {f : Addr} {fd : FuncData} (F : Fun K "_law_cross" "_law_cross" s_lcross f fd) (TX : Txt mg) (g_product : Fn P w K mg base 2 "_law_product" ["_law_p", "_law_q"] (spOf K (tBin fmul))) (g_less : Fn P w K mg base 2 "_law_less" ["_law_p", "_law_q"] (spOf K (tBin fsub)))  : FnOk P w K mg base CX0 3 f fd ["_law_p", "_law_q"] (spOf K (tVV fcross)) := by
  refine F.okT sc_lcross ?len (fun cdv A outer s H E hr => (fb_one (fs_ret (fe_call g_less hr (by omega) rfl (fc (fe_call g_product hr (by omega) rfl (fc (fe_ix rfl (fv 0) fe_int (fun _ _ => rfl)) (fc (fe_ix rfl (fv 1) fe_int (fun _ _ => rfl)) fa_nil))) (fc (fe_call g_product hr (by omega) rfl (fc (fe_ix rfl (fv 0) fe_int (fun _ _ => rfl)) (fc (fe_ix rfl (fv 1) fe_int (fun _ _ => rfl)) fa_nil))) fa_nil)))))) ?rd
  case len => rintro as Q ⟨x, y, x', y', e, f, rfl, _⟩; rfl
  case rd =>
    rintro as Q ⟨x, y, x', y', e, f, rfl, h, k, he, q⟩
    have := h.sx; have := h.sy; have := k.sx; have := k.sy
    have n1 := nrm_mul h.x k.y; have n2 := nrm_mul h.y k.x
    have s1 := sz_mul h.x k.y; have s2 := sz_mul h.y k.x
    exact ⟨_, _, rfl, h.x, k.y, by omega, _, _, rfl, h.y, k.x, by omega, _, _, rfl, n1, n2, by omega, rfl, q⟩
noncomputable def trx (x y c s : Fr) : Fr := fsub (fmul x c) (fmul y s)
noncomputable def trY (x y c s : Fr) : Fr := fadd (fmul x s) (fmul y c)
noncomputable def tTurned : SpT := fun as Q => ∃ (x y c s : Fr) (e f : Nat), as = [.v (vc x y), .v (vc c s)] ∧ Nv x y e ∧ Nv c s f ∧ e + f ≤ 3000 ∧ Q (.v (vc (trx x y c s) (trY x y c s))) []
noncomputable abbrev s_turned : Stmt := top 14
theorem sc_turned : FnScope ["unit", "by", "x", "y", "c", "s"] ["unit", "by"] (defScope s_turned) := ⟨rfl, rfl, rfl, by decide +kernel, rfl, by decide +kernel, by decide +kernel⟩
theorem ok_turned {f : Addr} {fd : FuncData} (F : Fun K "turned" "turned" s_turned f fd) (TX : Txt mg) (g_times : Fn P w K mg base 3 "times" ["one", "other"] (spOf K (tBin fmul))) (g_taken : Fn P w K mg base 3 "taken" ["one", "other"] (spOf K (tBin fsub))) (g_added : Fn P w K mg base 3 "added" ["one", "other"] (spOf K (tBin fadd)))  : FnOk P w K mg base CX0 4 f fd ["unit", "by"] (spOf K tTurned) := by
  refine F.okT sc_turned ?len (fun cdv A outer s H E hr => (fb_cons (fs_asg (fv 0) (fg_tup (n := 2) rfl rfl (fgs_cons (fg_name (i := 2) sc_turned.nd rfl (Or.inl rfl)) (fgs_cons (fg_name (i := 3) sc_turned.nd rfl (Or.inl rfl)) fgs_nil))))
  (fb_cons (fs_asg (fv 1) (fg_tup (n := 2) rfl rfl (fgs_cons (fg_name (i := 4) sc_turned.nd rfl (Or.inl rfl)) (fgs_cons (fg_name (i := 5) sc_turned.nd rfl (Or.inl rfl)) fgs_nil))))
  (fb_one (fs_ret (fe_tup (fc (fe_call g_taken hr (by omega) rfl (fc (fe_call g_times hr (by omega) rfl (fc (fv 2) (fc (fv 4) fa_nil))) (fc (fe_call g_times hr (by omega) rfl (fc (fv 3) (fc (fv 5) fa_nil))) fa_nil))) (fc (fe_call g_added hr (by omega) rfl (fc (fe_call g_times hr (by omega) rfl (fc (fv 2) (fc (fv 5) fa_nil))) (fc (fe_call g_times hr (by omega) rfl (fc (fv 3) (fc (fv 4) fa_nil))) fa_nil))) fa_nil)))))))) ?rd
  case len => rintro as Q ⟨x, y, c, s, e, f, rfl, _⟩; rfl
  case rd =>
    rintro as Q ⟨x, y, c, s, e, f, rfl, h, k, he, q⟩
    have := h.sx; have := h.sy; have := k.sx; have := k.sy
    have n1 := nrm_mul h.x k.x; have n2 := nrm_mul h.y k.y; have n3 := nrm_mul h.x k.y; have n4 := nrm_mul h.y k.x
    have s1 := sz_mul h.x k.x; have s2 := sz_mul h.y k.y; have s3 := sz_mul h.x k.y; have s4 := sz_mul h.y k.x
    exact ⟨_, _, rfl, h.x, k.x, by omega, _, _, rfl, h.y, k.y, by omega, _, _, rfl, n1, n2, by omega, _, _, rfl, h.x, k.y, by omega, _, _, rfl, h.y, k.x, by omega, _, _, rfl, n3, n4, by omega, rfl, q⟩
noncomputable abbrev s_lturned : Stmt := top 31
theorem sc_lturned : FnScope ["_law_unit", "_law_by", "_law_x"] ["_law_unit", "_law_by"] (defScope s_lturned) := ⟨rfl, rfl, rfl, by decide +kernel, rfl, by decide +kernel, by decide +kernel⟩
theorem ok_lturned {f : Addr} {fd : FuncData} (F : Fun K "_law_turned" "_law_turned" s_lturned f fd) (TX : Txt mg) (g_product : Fn P w K mg base 2 "_law_product" ["_law_p", "_law_q"] (spOf K (tBin fmul))) (g_less : Fn P w K mg base 2 "_law_less" ["_law_p", "_law_q"] (spOf K (tBin fsub))) (g_sum : Fn P w K mg base 2 "_law_sum" ["_law_p", "_law_q"] (spOf K (tBin fadd)))  : FnOk P w K mg base CX0 3 f fd ["_law_unit", "_law_by"] (spOf K tTurned) := by
  refine F.okT sc_lturned ?len (fun cdv A outer s H E hr => (fb_cons (fs_set (i := 2) sc_lturned.nd rfl (Or.inl rfl) (fe_call g_less hr (by omega) rfl (fc (fe_call g_product hr (by omega) rfl (fc (fe_ix rfl (fv 0) fe_int (fun _ _ => rfl)) (fc (fe_ix rfl (fv 1) fe_int (fun _ _ => rfl)) fa_nil))) (fc (fe_call g_product hr (by omega) rfl (fc (fe_ix rfl (fv 0) fe_int (fun _ _ => rfl)) (fc (fe_ix rfl (fv 1) fe_int (fun _ _ => rfl)) fa_nil))) fa_nil))))
  (fb_one (fs_ret (fe_tup (fc (fv 2) (fc (fe_call g_sum hr (by omega) rfl (fc (fe_call g_product hr (by omega) rfl (fc (fe_ix rfl (fv 0) fe_int (fun _ _ => rfl)) (fc (fe_ix rfl (fv 1) fe_int (fun _ _ => rfl)) fa_nil))) (fc (fe_call g_product hr (by omega) rfl (fc (fe_ix rfl (fv 0) fe_int (fun _ _ => rfl)) (fc (fe_ix rfl (fv 1) fe_int (fun _ _ => rfl)) fa_nil))) fa_nil))) fa_nil))))))) ?rd
  case len => rintro as Q ⟨x, y, c, s, e, f, rfl, _⟩; rfl
  case rd =>
    rintro as Q ⟨x, y, c, s, e, f, rfl, h, k, he, q⟩
    have := h.sx; have := h.sy; have := k.sx; have := k.sy
    have n1 := nrm_mul h.x k.x; have n2 := nrm_mul h.y k.y; have n3 := nrm_mul h.x k.y; have n4 := nrm_mul h.y k.x
    have s1 := sz_mul h.x k.x; have s2 := sz_mul h.y k.y; have s3 := sz_mul h.x k.y; have s4 := sz_mul h.y k.x
    exact ⟨_, _, rfl, h.x, k.x, by omega, _, _, rfl, h.y, k.y, by omega, _, _, rfl, n1, n2, by omega, _, _, rfl, h.x, k.y, by omega, _, _, rfl, h.y, k.x, by omega, _, _, rfl, n3, n4, by omega, rfl, q⟩
end
end My
set_option Elab.async false
set_option linter.all false
set_option maxRecDepth 100000
set_option maxHeartbeats 4000000
namespace My
open PySem L2 PyProof.Rows
section
variable {P : Program} {w : World} {K : PySem.W.Frag} {mg : Str → Option Value} {base : Heap}
theorem cutT_to (ns : List Int) (m : Nat) : cutT (intsT ns) none (some (m : Int)) = intsT (ns.take m) := by
  unfold cutT intsT
  rw [HT.sIx_none, HT.sIx_nat, List.drop_zero, Nat.sub_zero, List.map_take]
  rcases Nat.le_total m (ns.map T.int).length with h | h
  · rw [Nat.min_eq_left h]
  · rw [Nat.min_eq_right h, List.take_of_length_le (Nat.le_refl _), List.take_of_length_le h]
theorem cutT_sub {xs : List T} {lo hi : Option Int} {y : T} (h : y ∈ cutT xs lo hi) : y ∈ xs := List.mem_of_mem_drop (List.mem_of_mem_take h)
theorem cutT_len (xs : List T) (m k : Nat) : (cutT xs (some (m : Int)) (some (k : Int))).length ≤ xs.length - m := by
  unfold cutT
  rw [HT.sIx_nat, HT.sIx_nat, List.length_take, List.length_drop]
  omega
theorem enum_at {xs : List T} {i : Nat} {x : T} (h : (xs.zipIdx.map fun q => T.tup [.int (q.2 : Int), q.1])[i]? = some x) : ∃ y, xs[i]? = some y ∧ x = .tup [.int (i : Int), y] := by
  rw [List.getElem?_map] at h
  cases q : xs.zipIdx[i]? with
  | none => rw [q] at h; cases h
  | some z =>
    rw [q] at h; cases h
    obtain ⟨q1, q2⟩ := List.getElem?_eq_some_iff.mp q
    rw [List.getElem_zipIdx] at q2
    subst q2
    exact ⟨_, List.getElem?_eq_getElem (by simpa using q1), by simp⟩
theorem rep0 (k : Int) : repT k [.int 0] = intsT (List.replicate k.toNat 0) := by
  unfold repT intsT
  generalize k.toNat = n
  induction n with
  | zero => rfl
  | succ n ih => rw [List.replicate_succ, List.flatten_cons, ih, List.replicate_succ, List.map_cons]; rfl
theorem noL_ints : ∀ ns : List Int, noLs (intsT ns) = true
  | [] => rfl
  | _ :: ns => by simp [intsT, noLs, noL]; exact noL_ints ns
noncomputable def tFolded : SpT := fun as Q => ∃ (ns : List Int) (m : Nat), as = [.v (.lst (intsT ns)), .v (.int (m : Int))] ∧ ns.length ≤ 63 ∧ 2 ≤ m ∧ m ≤ 63 ∧ ∀ cs : List Int, 2 ≤ cs.length → cs.length ≤ m → Q (.l (intsT cs)) []
noncomputable abbrev s_folded : Stmt := top 25
theorem sc_folded : FnScope ["_law_script", "_law_many", "_law_cells", "_law_k", "_law_cell"] ["_law_script", "_law_many"] (defScope s_folded) := ⟨rfl, rfl, rfl, by decide +kernel, rfl, by decide +kernel, by decide +kernel⟩
theorem ok_folded {f : Addr} {fd : FuncData} (F : Fun K "_law_folded" "_law_folded" s_folded f fd) (TX : Txt mg)   : FnOk P w K mg base CX0 1 f fd ["_law_script", "_law_many"] (spOf K tFolded) := by
  refine F.okT sc_folded ?len (fun cdv A outer s H E hr => (fb_cons (fs_set (i := 2) sc_folded.nd rfl (Or.inl rfl) (fe_listOf rfl rfl TX.n_list (fc (fe_sliceL rfl (fv 0) fo_none (fo_some (fv 1))) fa_nil)))
  (fb_cons (fs_for PassesOwn.never rfl (fi_enum rfl rfl TX.n_enumerate (fc (fe_sliceL rfl (fv 0) (fo_some (fv 1)) (fo_some fe_int)) fa_nil)) (fg_tup (n := 2) rfl rfl (fgs_cons (fg_name (i := 3) sc_folded.nd rfl (Or.inl rfl)) (fgs_cons (fg_name (i := 4) sc_folded.nd rfl (Or.inl rfl)) fgs_nil)))
    (fb_one (fs_asg (fe_opI0 op_add (fe_ix rfl (fv 2) (fe_opI op_mod (fv 3) (fv 1)) (fun _ _ => rfl)) (fe_opI op_mulA (fv 4) (fe_opI0 op_add (fv 3) fe_int))) (fg_sub (fv 2) (fe_opI op_mod (fv 3) (fv 1))))))
  (fb_one (fs_ret (fe_cat (fv 2) (fe_rep (fe_lst (fc fe_int fa_nil)) (fe_opI0 op_sub fe_int (fe_len rfl rfl TX.n_len (fc (fv 2) fa_nil)))))))))) ?rd
  case len => rintro as Q ⟨ns, m, rfl, _⟩; rfl
  case rd =>
    rintro as Q ⟨ns, m, rfl, hl, hm2, hm, q⟩
    refine loopT_inv (fun i E => ∃ (cs : List Int) (v3 v4 : Option U), E = [some (.p (.lst (intsT ns))), some (.p (.int (m : Int))), some (.o false (intsT cs)), v3, v4] ∧ cs.length = (ns.take m).length)
      ⟨ns.take m, none, none, by rw [← cutT_to], rfl⟩ ?_ ?_
    · rintro i x rest E hi ⟨cs, v3, v4, rfl, hc⟩ K
      obtain ⟨y, hy, rfl⟩ := enum_at hi
      obtain ⟨z, rfl⟩ : ∃ z, y = T.int z := by
        obtain ⟨z, _, e⟩ := List.mem_map.mp (cutT_sub (List.mem_of_getElem? hy))
        exact ⟨z, e.symm⟩
      have hilt : i < ns.length - m := by
        have h1 := (List.getElem?_eq_some_iff.mp hy).1
        have h2 := cutT_len (intsT ns) m 63
        simp [intsT] at h2
        exact Nat.lt_of_lt_of_le h1 h2
      have hcl : cs.length = m := by rw [hc, List.length_take]; omega
      have em : ((i : Int) % (m : Int)) = ((i % m : Nat) : Int) := rfl
      have hj : i % m < cs.length := by rw [hcl]; exact Nat.mod_lt _ (by omega)
      have hat : atI (intsT cs) ((i : Int) % (m : Int)) = some (T.int cs[i % m]) := by
        rw [em]; exact atI_nat (by rw [intsT, List.getElem?_map, List.getElem?_eq_getElem hj]; rfl)
      have hix : ixN (intsT cs).length ((i : Int) % (m : Int)) = some (i % m) := by
        rw [em]
        unfold ixN
        rw [if_pos (by omega), if_pos (by simp [intsT]; omega), Int.toNat_natCast]
      have hmp : (fun (_ j : Int) => 0 < j) (i : Int) (m : Int) := by show (0 : Int) < (m : Int); omega
      refine ⟨hmp, ?_⟩
      show o1 (atI (intsT cs) ((i : Int) % (m : Int))) _
      rw [hat]
      refine ⟨mulR (by omega), hmp, ?_⟩
      show o1 (ixN (intsT cs).length ((i : Int) % (m : Int))) _
      rw [hix]
      have e : intsT (cs.set (i % m) (cs[i % m] + z * ((i : Int) + 2))) = (intsT cs).set (i % m) (.int (cs[i % m] + z * ((i : Int) + 2))) := by rw [intsT, intsT, List.map_set]
      exact K _ ⟨cs.set (i % m) (cs[i % m] + z * ((i : Int) + 2)), some (.p (.int (i : Int))), some (.p (.int z)), by rw [e]; rfl, by rw [List.length_set]; exact hc⟩
    · rintro E ⟨cs, v3, v4, rfl, hc⟩
      have hcm : cs.length ≤ m := by rw [hc, List.length_take]; omega
      have lc : ((intsT cs).length : Int) = cs.length := by simp [intsT]
      refine ⟨⟨?_, ?_, ?_⟩, ?_, ?_, ?_⟩
      · show -(2 ^ 63 : Int) ≤ 2 - ((intsT cs).length : Int); omega
      · show 2 - ((intsT cs).length : Int) < 2 ^ 63; omega
      · show 1 * (2 - ((intsT cs).length : Int)).toNat ≤ 1000; omega
      · show (intsT cs).length + (repT (2 - ((intsT cs).length : Int)) [.int 0]).length ≤ 1000
        rw [rep0]; simp [intsT]; omega
      · show noLs (intsT cs ++ repT (2 - ((intsT cs).length : Int)) [.int 0]) = true
        rw [rep0, show intsT cs ++ intsT (List.replicate (2 - ((intsT cs).length : Int)).toNat 0) = intsT (cs ++ List.replicate (2 - ((intsT cs).length : Int)).toNat 0) by simp [intsT]]
        exact noL_ints _
      · show Q (.l (intsT cs ++ repT (2 - ((intsT cs).length : Int)) [.int 0])) []
        rw [rep0, show intsT cs ++ intsT (List.replicate (2 - ((intsT cs).length : Int)).toNat 0) = intsT (cs ++ List.replicate (2 - ((intsT cs).length : Int)).toNat 0) by simp [intsT]]
        refine q _ ?_ ?_
        · rw [List.length_append, List.length_replicate]; omega
        · rw [List.length_append, List.length_replicate]; omega
noncomputable def tLike (n : Nat) : SpT := fun as Q => ∃ x : L2.T, as = [.v x, .v x] ∧ dT x ≤ n ∧ dT x ≤ 50 ∧ wT x < 900 ∧ Q (.v (.bl true)) []
noncomputable def tLikeN : Nat → SpT
  | 0 => fun _ _ => False
  | n + 1 => tLike n
end
end My
set_option Elab.async false
set_option linter.all false
set_option maxRecDepth 100000
set_option maxHeartbeats 4000000
namespace My
open PySem L2 PyProof.Rows
section
variable {P : Program} {w : World} {K : PySem.W.Frag} {mg : Str → Option Value} {base : Heap}
noncomputable abbrev s_like : Stmt := top 37
theorem sc_like : FnScope ["_law_found", "_law_due_here"] ["_law_found", "_law_due_here"] (defScope s_like) := ⟨rfl, rfl, rfl, by decide +kernel, rfl, by decide +kernel, by decide +kernel⟩
theorem dTs_zip : ∀ {xs : List L2.T} {i : Nat} {t : L2.T}, (zip2T xs xs)[i]? = some t → ∃ x, xs[i]? = some x ∧ t = .tup [x, x] := fun h => by
  obtain ⟨x, y, h1, h2, h3⟩ := zip2T_at h
  rw [h1] at h2; cases h2
  exact ⟨x, h1, h3⟩
theorem bls_true : ∀ n : Nat, blsOf (List.replicate n (.bl true)) = some (List.replicate n true)
  | 0 => rfl
  | n + 1 => by rw [List.replicate_succ, blsOf, bls_true n]; rfl
theorem noL_bls : ∀ n : Nat, noLs (List.replicate n (.bl true)) = true
  | 0 => rfl
  | n + 1 => by rw [List.replicate_succ, noLs, noL_bls n]; rfl
theorem ok_like1 {f : Addr} {fd : FuncData} {n : Nat} (F : Fun K "_law_like" "_law_like" s_like f fd) (TX : Txt mg) (g_like : Fn P w K mg base n "_law_like" ["_law_found", "_law_due_here"] (spOf K (tLikeN n))) : FnOk P w K mg base CX0 (n + 1) f fd ["_law_found", "_law_due_here"] (spOf K (tLike n)) := by
  refine F.okT sc_like ?len (fun cdv A outer s H E hr => (fb_cons (fs_if (ft_val (fe_isi2 k_list k_tuple rfl rfl TX.n_isinstance (fv 1) rfl TX.n_list bt_list rfl TX.n_tuple bt_tuple (by decide) (by decide))) (fb_cons (fs_if (ft_w (fw_or (ft_ne rfl hr (fe_isi k_list rfl rfl TX.n_isinstance (fv 0) rfl TX.n_list bt_list (by decide)) (fe_isi k_list rfl rfl TX.n_isinstance (fv 1) rfl TX.n_list bt_list (by decide)) (nomark _)) (fw_or1 (ft_ne rfl hr (fe_isi k_tuple rfl rfl TX.n_isinstance (fv 0) rfl TX.n_tuple bt_tuple (by decide)) (fe_isi k_tuple rfl rfl TX.n_isinstance (fv 1) rfl TX.n_tuple bt_tuple (by decide)) (nomark _))))) (fb_one (fs_ret fe_bl)) fb_nil)
  (fb_one (fs_ret (fe_and (fe_eq rfl hr (fe_len rfl rfl TX.n_len (fc (fv 0) fa_nil)) (fe_len rfl rfl TX.n_len (fc (fv 1) fa_nil)) (nomark _)) (fe_one (fe_all rfl rfl rfl TX.n_all (fc (fe_comp (N' := ["_law_one", "_law_other"]) (t := 2) (cap := []) rfl (CompOk.of rfl) rfl (by decide) (fi_zip2 rfl rfl TX.n_zip (fc (fv 0) (fc (fv 1) fa_nil))) (fun _ _ _ _ => (fg_tup (n := 2) rfl rfl (fgs_cons (fg_name (i := 0) (show List.Nodup (["_law_one", "_law_other"] : List Str) by decide +kernel) rfl (Or.inl rfl) (Or.inr rfl)) (fgs_cons (fg_name (i := 1) (show List.Nodup (["_law_one", "_law_other"] : List Str) by decide +kernel) rfl (Or.inl rfl) (Or.inr rfl)) fgs_nil)))) (fun _ _ _ _ => (fe_call g_like hr (by omega) rfl (fc (fv 0) (fc (fv 1) fa_nil))))) fa_nil))))))) fb_nil)
  (fb_cons (fs_if (ft_w (fw_or (ft_isN (fv 1) (nomark _)) (fw_or1 (ft_val (fe_isi k_str rfl rfl TX.n_isinstance (fv 1) rfl TX.n_str bt_str (by decide)))))) (fb_one (fs_ret (fe_and (fe_eq rfl hr (fv 0) (fv 1) (nomark _)) (fe_one (fe_eq rfl hr (fe_isi k_str rfl rfl TX.n_isinstance (fv 0) rfl TX.n_str bt_str (by decide)) (fe_isi k_str rfl rfl TX.n_isinstance (fv 1) rfl TX.n_str bt_str (by decide)) (nomark _)))))) fb_nil)
  (fb_cons (fs_if (ft_val (fe_isi k_bool rfl rfl TX.n_isinstance (fv 1) rfl TX.n_bool bt_bool (by decide))) (fb_one (fs_ret (fe_and (fe_isi k_bool rfl rfl TX.n_isinstance (fv 0) rfl TX.n_bool bt_bool (by decide)) (fe_one (fe_eq rfl hr (fv 0) (fv 1) (nomark _)))))) fb_nil)
  (fb_one (fs_ret (fe_and (fe_isi k_int rfl rfl TX.n_isinstance (fv 0) rfl TX.n_int bt_int (by decide)) (fe_and (fe_not (fe_isi k_bool rfl rfl TX.n_isinstance (fv 0) rfl TX.n_bool bt_bool (by decide))) (fe_one (fe_eq rfl hr (fv 0) (fv 1) (nomark _))))))))))) ?rd
  case len => rintro as Q ⟨x, rfl, _⟩; rfl
  case rd =>
    rintro as Q ⟨x, rfl, hd, hd2, hw, q⟩
    have seq : ∀ (xs : List L2.T) (Q : En → Prop), xs.length < 900 → wTs xs < 900 → dTs xs + 1 ≤ n → dTs xs + 1 ≤ 50 → (∀ v0 v1, Q [v0, v1, some (.o false (List.replicate xs.length (.bl true)))]) →
        compL (kTup 2 (kCons (kName 0) (kCons (kName 1) kNil))) (fCall (tLikeN n) (aCons (fVar 0) (aCons (fVar 1) aNil))) (zip2T xs xs) [none, none, some (.o false [])] Q := fun xs Q hl hw h1 h2 hQ => by
      refine compL_inv (fun i E => ∃ v0 v1, E = [v0, v1, some (.o false (List.replicate i (.bl true)))] ∧ i ≤ xs.length) ⟨none, none, rfl, Nat.zero_le _⟩ ?_ ?_
      · rintro i t rest E hi ⟨v0, v1, rfl, hil⟩ KK
        obtain ⟨x, hx, rfl⟩ := dTs_zip hi
        have hlt : i < xs.length := (List.getElem?_eq_some_iff.mp hx).1
        have hm := dT_mem (List.mem_of_getElem? hx)
        obtain ⟨m, rfl⟩ : ∃ m, n = m + 1 := ⟨n - 1, by omega⟩
        have hm2 := wT_mem (List.mem_of_getElem? hx)
        refine ⟨x, rfl, by omega, by omega, by omega, ?_⟩
        refine ⟨by rw [List.length_replicate]; omega, KK _ ⟨some (.p x), some (.p x), ?_, hlt⟩⟩
        rw [List.replicate_succ']; rfl
      · rintro E ⟨v0, v1, rfl, _⟩
        rw [zip2T_len, Nat.min_self]
        exact hQ v0 v1
    have fin : ∀ k : Nat, (List.replicate k true).all id = true := fun k => by simp
    cases x with
    | int i => exact ⟨Nat.zero_le _, rfl, by rw [eqT_refl]; exact q⟩
    | bl c => exact ⟨Nat.zero_le _, rfl, by rw [eqT_refl]; exact q⟩
    | non => exact ⟨Nat.zero_le _, Nat.zero_le _, rfl, q⟩
    | str z =>
      refine ⟨Nat.zero_le _, ?_⟩
      show if L2.eqT (.str z) (.str z) = true then _ else _
      rw [eqT_refl, if_pos rfl]
      exact ⟨Nat.zero_le _, rfl, q⟩
    | tup xs =>
      have e1 : L2.eqT (.int (xs.length : Int)) (.int (xs.length : Int)) = true := eqT_refl _
      have hd' : dTs xs + 1 ≤ n ∧ dTs xs + 1 ≤ 50 := ⟨hd, hd2⟩
      have hw' : Nat.max xs.length (wTs xs) < 900 := hw
      have hw1 : xs.length < 900 := Nat.lt_of_le_of_lt (Nat.le_max_left _ _) hw'
      have hw2 : wTs xs < 900 := Nat.lt_of_le_of_lt (Nat.le_max_right _ _) hw'
      refine ⟨Nat.zero_le _, Nat.zero_le _, Nat.zero_le _, ?_⟩
      show if L2.eqT (.int (xs.length : Int)) (.int (xs.length : Int)) = true then _ else _
      rw [e1, if_pos rfl]
      refine ⟨rfl, seq xs _ hw1 hw2 hd'.1 hd'.2 fun v0 v1 => ⟨noL_bls _, ?_⟩⟩
      show o1 (blsOf (List.replicate xs.length (.bl true))) _
      rw [bls_true]
      refine ⟨rfl, ?_⟩
      rw [fin]
      exact q
    | lst xs =>
      have e1 : L2.eqT (.int (xs.length : Int)) (.int (xs.length : Int)) = true := eqT_refl _
      have hd' : dTs xs + 1 ≤ n ∧ dTs xs + 1 ≤ 50 := ⟨hd, hd2⟩
      have hw' : Nat.max xs.length (wTs xs) < 900 := hw
      have hw1 : xs.length < 900 := Nat.lt_of_le_of_lt (Nat.le_max_left _ _) hw'
      have hw2 : wTs xs < 900 := Nat.lt_of_le_of_lt (Nat.le_max_right _ _) hw'
      refine ⟨Nat.zero_le _, Nat.zero_le _, Nat.zero_le _, ?_⟩
      show if L2.eqT (.int (xs.length : Int)) (.int (xs.length : Int)) = true then _ else _
      rw [e1, if_pos rfl]
      refine ⟨rfl, seq xs _ hw1 hw2 hd'.1 hd'.2 fun v0 v1 => ⟨noL_bls _, ?_⟩⟩
      show o1 (blsOf (List.replicate xs.length (.bl true))) _
      rw [bls_true]
      refine ⟨rfl, ?_⟩
      rw [fin]
      exact q
theorem ok_like {f : Addr} {fd : FuncData} (F : Fun K "_law_like" "_law_like" s_like f fd) (TX : Txt mg) (hm : mg "_law_like" = some (.ref f)) (hk : PySem.W.keepIn K (.ref f) = true) (hb : Binds K fd ["_law_found", "_law_due_here"] []) :
    ∀ n, FnOk P w K mg base CX0 n f fd ["_law_found", "_law_due_here"] (spOf K (tLikeN n))
  | 0 => ⟨fun _ _ _ _ ⟨_, _, _, _, _, h, _⟩ => h.elim, fun _ _ _ _ _ _ _ _ _ _ _ _ _ ⟨_, _, _, _, _, h, _⟩ => h.elim⟩
  | n + 1 => ok_like1 F TX ⟨⟨f, fd, ok_like F TX hm hk hb n, hm, hk, hb⟩⟩
end
end My
set_option Elab.async false
set_option linter.all false
set_option maxRecDepth 100000
set_option maxHeartbeats 4000000
namespace My
open PySem L2 PyProof.Rows
section
variable {P : Program} {w : World} {K : PySem.W.Frag} {mg : Str → Option Value} {base : Heap}
theorem join3 {α β γ : Type} {T : Prop} {G R : α → β → γ → Prop} (h : (∀ a b c, R a b c → G a b c) → T) (k : ∀ a b c, R a b c → G a b c) : T := h k
theorem join2 {α β : Type} {T : Prop} {G R : α → β → Prop} (h : (∀ a b, R a b → G a b) → T) (k : ∀ a b, R a b → G a b) : T := h k
structure UnE (x y : Fr) (e : Nat) : Prop where
  nv : Nv x y e
  one : val x * val x + val y * val y = 1
noncomputable abbrev Un (x y : Fr) : Prop := UnE x y 10
theorem sqs {a b : Int} (a1 : 1 ≤ a) (a2 : a ≤ 22) (b1 : 0 ≤ b) (b2 : b ≤ 22) : 0 < a * a + b * b ∧ a * a + b * b ≤ 968 ∧ (a * a - b * b).natAbs ≤ 968 ∧ (2 * a * b).natAbs ≤ 968 := by
  have h1 : a * a ≤ 22 * 22 := Int.mul_le_mul a2 a2 (by omega) (by omega)
  have h2 : b * b ≤ 22 * 22 := Int.mul_le_mul b2 b2 (by omega) (by omega)
  have h3 : a * b ≤ 22 * 22 := Int.mul_le_mul a2 b2 (by omega) (by omega)
  have h4 : 1 * 1 ≤ a * a := Int.mul_le_mul a1 a1 (by omega) (by omega)
  have h5 : 0 ≤ b * b := Int.mul_nonneg b1 b1
  have h6 : 0 ≤ a * b := Int.mul_nonneg (by omega) b1
  have h7 : 2 * a * b = 2 * (a * b) := Int.mul_assoc 2 a b
  rw [h7]
  generalize a * a = A at *
  generalize b * b = B at *
  generalize a * b = C at *
  omega
theorem un_ab {a b : Int} (a1 : 1 ≤ a) (a2 : a ≤ 22) (b1 : 0 ≤ b) (b2 : b ≤ 22) : Un (low (a * a - b * b) (a * a + b * b)) (low (2 * a * b) (a * a + b * b)) := by
  obtain ⟨z1, z2, z3, z4⟩ := sqs a1 a2 b1 b2
  have nz : a * a + b * b ≠ 0 := by omega
  have B3 : ∀ {k : Nat}, k ≤ 968 → k < 2 ^ 10 := fun h => Nat.lt_of_le_of_lt h (by decide)
  refine ⟨⟨low_nrm nz, low_nrm nz, sz_low nz (B3 z3) (B3 (by omega)) (by decide), sz_low nz (B3 z4) (B3 (by omega)) (by decide)⟩, ?_⟩
  rw [val_low nz, val_low nz]
  have nz' : ((a * a + b * b : Int) : Rat) ≠ 0 := by exact_mod_cast nz
  push_cast at nz' ⊢
  grind
theorem UnE.swap {x y : Fr} {e : Nat} (h : UnE x y e) : UnE y x e := ⟨⟨h.nv.y, h.nv.x, h.nv.sy, h.nv.sx⟩, by rw [← h.one]; grind⟩
theorem UnE.left {x y : Fr} {e : Nat} (h : UnE x y e) : UnE (fneg y) x e := ⟨⟨nrm_neg h.nv.y, h.nv.x, by rw [sz_neg]; exact h.nv.sy, h.nv.sx⟩, by rw [val_neg h.nv.y, ← h.one]; grind⟩
noncomputable def tUnitBy : SpT := fun as Q => ∃ (xs : List L2.T) (n : Int), as = [.b xs] ∧ Bx xs n ∧ n ≤ 900000 ∧ ∀ x y ys, Un x y → Bx ys (n + 6) → noLs ys = true → Q (.v (vc x y)) ys
noncomputable abbrev s_unit_by : Stmt := top 30
theorem sc_unit_by : FnScope ["_law_box", "_law_k", "_law_way", "_law_quarter", "_law_turn", "_law_a", "_law_b", "_law_x", "_law_y"] ["_law_box"] (defScope s_unit_by) := ⟨rfl, rfl, rfl, by decide +kernel, rfl, by decide +kernel, by decide +kernel⟩
theorem ok_unit_by {f : Addr} {fd : FuncData} (F : Fun K "_law_unit_by" "_law_unit_by" s_unit_by f fd) (TX : Txt mg) (g_take : Fn P w K mg base 1 "_law_take" ["_law_box", "_law_many"] (spOf K tTake)) (g_lowest : Fn P w K mg base 1 "_law_lowest" ["_law_n", "_law_d"] (spOf K tLow))  : FnOk P w K mg base CX0 2 f fd ["_law_box"] (spOf K tUnitBy) := by
  refine F.okT sc_unit_by ?len (fun cdv A outer s H E hr => (fb_cons (fs_par3 (i := 2) (j := 3) (k := 4) rfl sc_unit_by.nd rfl rfl rfl (by decide) (by decide) (by decide) rfl rfl rfl (fc (fe_callB g_take hr (by omega) rfl (fc (fv 0) (fc fe_int fa_nil))) (fc (fe_callB g_take hr (by omega) rfl (fc (fv 0) (fc fe_int fa_nil))) (fc (fe_callB g_take hr (by omega) rfl (fc (fv 0) (fc fe_int fa_nil))) fa_nil))) rfl)
  (fb_cons (fs_asg (fe_ix rfl (fe_lst (fc (fe_tup (fc fe_int (fc fe_int fa_nil))) (fc (fe_tup (fc fe_int (fc fe_int fa_nil))) (fc (fe_tup (fc fe_int (fc fe_int fa_nil))) (fc (fe_tup (fc fe_int (fc fe_int fa_nil))) fa_nil))))) (fe_callB g_take hr (by omega) rfl (fc (fv 0) (fc fe_int fa_nil))) (fun _ _ => rfl)) (fg_tup (n := 2) rfl rfl (fgs_cons (fg_name (i := 5) sc_unit_by.nd rfl (Or.inl rfl)) (fgs_cons (fg_name (i := 6) sc_unit_by.nd rfl (Or.inl rfl)) fgs_nil))))
  (fb_cons (fs_if (ft_eq rfl hr (fv 2) fe_int (nomark _)) (fb_one (fs_par (i := 5) (j := 6) rfl sc_unit_by.nd rfl rfl (by decide) rfl rfl (fc (fe_opI0 op_add fe_int (fe_callB g_take hr (by omega) rfl (fc (fv 0) (fc fe_int fa_nil)))) (fc (fe_callB g_take hr (by omega) rfl (fc (fv 0) (fc fe_int fa_nil))) fa_nil)) rfl)) fb_nil)
  (fb_cons (fs_par (i := 7) (j := 8) rfl sc_unit_by.nd rfl rfl (by decide) rfl rfl (fc (fe_call g_lowest hr (by omega) rfl (fc (fe_opI0 op_sub (fe_opI op_mulA (fv 5) (fv 5)) (fe_opI op_mulA (fv 6) (fv 6))) (fc (fe_opI0 op_add (fe_opI op_mulA (fv 5) (fv 5)) (fe_opI op_mulA (fv 6) (fv 6))) fa_nil))) (fc (fe_call g_lowest hr (by omega) rfl (fc (fe_opI op_mulA (fe_opI op_mulA fe_int (fv 5)) (fv 6)) (fc (fe_opI0 op_add (fe_opI op_mulA (fv 5) (fv 5)) (fe_opI op_mulA (fv 6) (fv 6))) fa_nil))) fa_nil)) rfl)
  (fb_cons (fs_if (ft_eq rfl hr (fv 4) fe_int (nomark _)) (fb_one (fs_par (i := 7) (j := 8) rfl sc_unit_by.nd rfl rfl (by decide) rfl rfl (fc (fv 8) (fc (fv 7) fa_nil)) rfl)) fb_nil)
  (fb_cons (fs_for PassesOwn.never rfl (fi_range1 rfl TX.n_range (fc (fv 3) fa_nil)) (fg_name (i := 1) sc_unit_by.nd rfl (Or.inl rfl))
    (fb_one (fs_par (i := 7) (j := 8) rfl sc_unit_by.nd rfl rfl (by decide) rfl rfl (fc (fe_tup (fc (fe_neg (fe_ix rfl (fv 8) fe_int (fun _ _ => rfl))) (fc (fe_ix rfl (fv 8) fe_int (fun _ _ => rfl)) fa_nil))) (fc (fv 7) fa_nil)) rfl)))
  (fb_one (fs_ret (fe_tup (fc (fv 7) (fc (fv 8) fa_nil)))))))))))) ?rd
  case len => rintro as Q ⟨xs, n, rfl, _⟩; rfl
  case rd =>
    rintro as Q ⟨xs, n, rfl, hB, hn, q⟩
    refine ⟨xs, 4, n, rfl, hB, by omega, by decide, by decide, fun way y1 w0 w1 b1 => ?_⟩
    refine ⟨y1, 4, n + 1, rfl, b1, by omega, by decide, by decide, fun qu y2 q0 q1 b2 => ?_⟩
    refine ⟨y2, 2, n + 1 + 1, rfl, b2, by omega, by decide, by decide, fun tu y3 t0 t1 b3 => ?_⟩
    refine ⟨y3, 4, n + 1 + 1 + 1, rfl, b3, by omega, by decide, by decide, fun pick y4 p0 p1 b4 => ?_⟩
    obtain ⟨a, b, hat, a1, a2, bb1, bb2⟩ : ∃ a b : Int, atI [L2.T.tup [.int 1, .int 0], .tup [.int 2, .int 1], .tup [.int 3, .int 1], .tup [.int 3, .int 2]] pick = some (.tup [.int a, .int b]) ∧ 1 ≤ a ∧ a ≤ 22 ∧ 0 ≤ b ∧ b ≤ 22 := by
      have : pick = 0 ∨ pick = 1 ∨ pick = 2 ∨ pick = 3 := by omega
      rcases this with rfl | rfl | rfl | rfl
      · exact ⟨1, 0, rfl, by decide, by decide, by decide, by decide⟩
      · exact ⟨2, 1, rfl, by decide, by decide, by decide, by decide⟩
      · exact ⟨3, 1, rfl, by decide, by decide, by decide, by decide⟩
      · exact ⟨3, 2, rfl, by decide, by decide, by decide, by decide⟩
    show o1 (atI [L2.T.tup [.int 1, .int 0], .tup [.int 2, .int 1], .tup [.int 3, .int 1], .tup [.int 3, .int 2]] pick) _
    rw [hat]
    apply join3 (R := fun (a b : Int) (ys : List L2.T) => 1 ≤ a ∧ a ≤ 22 ∧ 0 ≤ b ∧ b ≤ 22 ∧ Bx ys (n + 6))
    case h =>
      intro J
      refine ⟨Nat.zero_le _, ?_⟩
      show if (way == 3) = true then _ else _
      by_cases hw : way = 3
      · rw [if_pos (by simpa using hw)]
        refine ⟨y4, 22, n + 1 + 1 + 1 + 1, rfl, b4, by omega, by decide, by decide, fun g y5 g0 g1 b5 => ?_⟩
        refine ⟨y5, 22, n + 1 + 1 + 1 + 1 + 1, rfl, b5, by omega, by decide, by decide, fun k y6 k0 k1 b6 => ?_⟩
        obtain ⟨a', ha'⟩ : ∃ a', a' = 1 + g := ⟨_, rfl⟩
        simp only [← ha']
        exact J a' k y6 ⟨by omega, by omega, by omega, by omega, b6.mono (by omega)⟩
      · rw [if_neg (by simpa using hw)]
        exact J a b y4 ⟨a1, a2, bb1, bb2, b4.mono (by omega)⟩
    rintro a b ys ⟨a1, a2, bb1, bb2, bY⟩
    have bY' := bY
    obtain ⟨A, B, c, rfl, _⟩ := bY
    obtain ⟨z1, z2, z3, z4⟩ := sqs a1 a2 bb1 bb2
    have nz : a * a + b * b ≠ 0 := by omega
    have s8 : (a * a + b * b).natAbs < 2 ^ 8000 := pow8 (e := 10) (Nat.lt_of_le_of_lt (show (a * a + b * b).natAbs ≤ 968 by omega) (by decide)) (by decide)
    have un := un_ab a1 a2 bb1 bb2
    refine ⟨mulL (by omega), mulL (by omega), mulL (by omega), mulL (by omega), _, _, rfl, nz, s8, mulL (by decide), mulL (by omega), mulL (by omega), mulL (by omega), _, _, rfl, nz, s8, ?_⟩
    generalize low (a * a - b * b) (a * a + b * b) = x at un ⊢
    generalize low (2 * a * b) (a * a + b * b) = y at un ⊢
    apply join2 (R := fun (x y : Fr) => Un x y)
    case h =>
      intro J
      obtain ⟨u, hu⟩ : ∃ u, u = x := ⟨_, rfl⟩
      obtain ⟨v, hv⟩ : ∃ v, v = y := ⟨_, rfl⟩
      rw [← hu, ← hv] at un ⊢
      refine ⟨Nat.zero_le _, ?_⟩
      show if (tu == 1) = true then _ else _
      by_cases ht : tu = 1
      · rw [if_pos (by simpa using ht)]
        exact J v u un.swap
      · rw [if_neg (by simpa using ht)]
        exact J u v un
    rintro x y un
    refine ⟨⟨by omega, by omega⟩, ?_⟩
    refine loopT_inv (fun i E => ∃ (v1 : Option U) (x y : Fr), E = [some (.o true [.int A, .int B, .int c]), v1, some (.p (.int way)), some (.p (.int qu)), some (.p (.int tu)), some (.p (.int a)), some (.p (.int b)), some (.p (fr x)), some (.p (fr y))] ∧ Un x y) ⟨none, x, y, rfl, un⟩ ?_ ?_
    · rintro i t rest E hi ⟨v1, x, y, rfl, un⟩ KK
      exact KK _ ⟨_, fneg y, x, rfl, un.left⟩
    · rintro E ⟨v1, x, y, rfl, un⟩
      exact ⟨rfl, q x y _ un bY' rfl⟩
end
end My
set_option Elab.async false
set_option linter.all false
set_option maxRecDepth 100000
set_option maxHeartbeats 4000000
namespace My
open PySem L2 PyProof.Rows
section
variable {P : Program} {w : World} {K : PySem.W.Frag} {mg : Str → Option Value} {base : Heap}
theorem le_ok {a b : Nat} (h : Nat.ble a b = true) : a ≤ b := Nat.le_of_ble_eq_true h
theorem val_trx {x y c s : Fr} {e f : Nat} (h : Nv x y e) (k : Nv c s f) : val (trx x y c s) = val x * val c - val y * val s := by
  unfold trx; rw [val_sub (nrm_mul h.x k.x) (nrm_mul h.y k.y), val_mul h.x k.x, val_mul h.y k.y]
theorem val_trY {x y c s : Fr} {e f : Nat} (h : Nv x y e) (k : Nv c s f) : val (trY x y c s) = val x * val s + val y * val c := by
  unfold trY; rw [val_add (nrm_mul h.x k.y) (nrm_mul h.y k.x), val_mul h.x k.y, val_mul h.y k.x]
theorem val_dot {x y c s : Fr} {e f : Nat} (h : Nv x y e) (k : Nv c s f) : val (fdot x y c s) = val x * val c + val y * val s := by
  unfold fdot; rw [val_add (nrm_mul h.x k.x) (nrm_mul h.y k.y), val_mul h.x k.x, val_mul h.y k.y]
theorem val_cross {x y c s : Fr} {e f : Nat} (h : Nv x y e) (k : Nv c s f) : val (fcross x y c s) = val x * val s - val y * val c := by
  unfold fcross; rw [val_sub (nrm_mul h.x k.y) (nrm_mul h.y k.x), val_mul h.x k.y, val_mul h.y k.x]
theorem nrm_dot {x y c s : Fr} {e f : Nat} (h : Nv x y e) (k : Nv c s f) : Nrm (fdot x y c s) := nrm_add (nrm_mul h.x k.x) (nrm_mul h.y k.y)
theorem nrm_cross {x y c s : Fr} {e f : Nat} (h : Nv x y e) (k : Nv c s f) : Nrm (fcross x y c s) := nrm_sub (nrm_mul h.x k.y) (nrm_mul h.y k.x)
theorem Nv.tr {x y c s : Fr} {e f : Nat} (h : Nv x y e) (k : Nv c s f) : Nv (trx x y c s) (trY x y c s) (2 * (e + f) + 1) := by
  have := h.sx; have := h.sy; have := k.sx; have := k.sy
  have n1 := nrm_mul h.x k.x; have n2 := nrm_mul h.y k.y; have n3 := nrm_mul h.x k.y; have n4 := nrm_mul h.y k.x
  have s1 := sz_mul h.x k.x; have s2 := sz_mul h.y k.y; have s3 := sz_mul h.x k.y; have s4 := sz_mul h.y k.x
  have s5 := sz_sub n1 n2; have s6 := sz_add n3 n4
  exact ⟨nrm_sub n1 n2, nrm_add n3 n4, by show sz (fsub _ _) ≤ _; omega, by show sz (fadd _ _) ≤ _; omega⟩
theorem Nv.up {x y : Fr} {e f : Nat} (h : Nv x y e) (k : e ≤ f) : Nv x y f := ⟨h.x, h.y, Nat.le_trans h.sx k, Nat.le_trans h.sy k⟩
theorem Nv.back {x y : Fr} {e : Nat} (h : Nv x y e) : Nv x (fneg y) e := ⟨h.x, nrm_neg h.y, h.sx, by rw [sz_neg]; exact h.sy⟩
theorem val_int (n : Int) : val (n, 1) = (n : Rat) := by
  show (n : Rat) / ((1 : Int) : Rat) = n
  push_cast
  grind
theorem val10 : val (1, 1) = 1 := by rw [val_int]; rfl
theorem val01 : val (0, 1) = 0 := by rw [val_int]; rfl
theorem nv10 : Nv (1, 1) (0, 1) 10 := ⟨nrm_int 1, nrm_int 0, by decide, by decide⟩
theorem nv01 : Nv (0, 1) (1, 1) 10 := ⟨nrm_int 0, nrm_int 1, by decide, by decide⟩
end
end My
set_option Elab.async false
set_option linter.all false
set_option maxRecDepth 100000
set_option maxHeartbeats 4000000
namespace My
open PySem L2 PyProof.Rows
section
variable {P : Program} {w : World} {K : PySem.W.Frag} {mg : Str → Option Value} {base : Heap}
noncomputable def tOver : SpT := fun as Q => ∃ x y : Fr, as = [.v (fr x), .v (fr y)] ∧ Nrm x ∧ Nrm y ∧ y.1 ≠ 0 ∧ sz x + sz y ≤ 7000 ∧ Q (.v (fr (fover x y))) []
noncomputable abbrev s_over : Stmt := top 6
theorem sc_over : FnScope ["one", "other"] ["one", "other"] (defScope s_over) := ⟨rfl, rfl, rfl, by decide +kernel, rfl, by decide +kernel, by decide +kernel⟩
theorem ok_over {f : Addr} {fd : FuncData} (F : Fun K "over" "over" s_over f fd) (TX : Txt mg) (g_fraction : Fn P w K mg base 2 "fraction" ["n", "d"] (spOf K tLow))  : FnOk P w K mg base CX0 3 f fd ["one", "other"] (spOf K tOver) := by
  refine F.okT sc_over ?len (fun cdv A outer s H E hr => (fb_one (fs_ret (fe_call g_fraction hr (by omega) rfl (fc (fe_opI op_mulA (fe_ix rfl (fv 0) fe_int (fun _ _ => rfl)) (fe_ix rfl (fv 1) fe_int (fun _ _ => rfl))) (fc (fe_opI op_mulA (fe_ix rfl (fv 0) fe_int (fun _ _ => rfl)) (fe_ix rfl (fv 1) fe_int (fun _ _ => rfl))) fa_nil)))))) ?rd
  case len => rintro as Q ⟨x, y, rfl, _⟩; rfl
  case rd =>
    rintro as Q ⟨x, y, rfl, hx, hy, h0, hs, q⟩
    have hd : (x.2 * y.1).natAbs < 2 ^ 8000 := pow8 (mul_pow (sz_d x) (sz_n y)) (by omega)
    exact ⟨mulA (e := 7000) (pl (sz_n x) (by omega)) (pl (sz_d y) (by omega)) (by decide), mulA (e := 7000) (pl (sz_d x) (by omega)) (pl (sz_n y) (by omega)) (by decide), _, _, rfl, Int.mul_ne_zero hx.ne h0, hd, rfl, q⟩
noncomputable def cT (t : Fr) : Fr := low (t.2 * t.2 - t.1 * t.1) (t.2 * t.2 + t.1 * t.1)
noncomputable def sT (t : Fr) : Fr := low (2 * t.2 * t.1) (t.2 * t.2 + t.1 * t.1)
theorem ct_ne {t : Fr} (h : Nrm t) : t.2 * t.2 + t.1 * t.1 ≠ 0 := by
  have h1 : 1 * 1 ≤ t.2 * t.2 := Int.mul_le_mul h.d h.d (by decide) (by have := h.d; omega)
  have h2 : 0 ≤ t.1 * t.1 := by rcases Int.le_total 0 t.1 with c | c
                                · exact Int.mul_nonneg c c
                                · exact Int.mul_nonneg_of_nonpos_of_nonpos c c
  omega
theorem ct_bound (t : Fr) : (t.2 * t.2 + t.1 * t.1).natAbs < 2 ^ (2 * sz t + 1) := add_pow (by rw [Nat.two_mul]; exact mul_pow (sz_d t) (sz_d t)) (by rw [Nat.two_mul]; exact mul_pow (sz_n t) (sz_n t))
theorem nv_ct {t : Fr} (h : Nrm t) : Nv (cT t) (sT t) (2 * sz t + 1) := by
  have hb := ct_bound t
  refine ⟨low_nrm (ct_ne h), low_nrm (ct_ne h), sz_low (ct_ne h) (sub_pow (by rw [Nat.two_mul]; exact mul_pow (sz_d t) (sz_d t)) (by rw [Nat.two_mul]; exact mul_pow (sz_n t) (sz_n t))) hb (by omega), sz_low (ct_ne h) ?_ hb (by omega)⟩
  have e : 2 * t.2 * t.1 = t.2 * t.1 + t.2 * t.1 := by grind
  rw [e]
  exact add_pow (by rw [Nat.two_mul]; exact mul_pow (sz_d t) (sz_n t)) (by rw [Nat.two_mul]; exact mul_pow (sz_d t) (sz_n t))
theorem sq_pos1 (r : Rat) : 1 + r * r ≠ 0 := by
  have : 0 ≤ r * r := by rcases Rat.le_total (a := 0) (b := r) with c | c
                         · exact Rat.mul_nonneg c c
                         · have h := Rat.mul_nonneg (a := -r) (b := -r) (by grind) (by grind); grind
  grind
theorem val_ct {t : Fr} (h : Nrm t) : val (cT t) = (1 - val t * val t) / (1 + val t * val t) := by
  have h1 := h.neR
  have h2 := sq_pos1 (val t)
  have h3 : ((t.2 * t.2 + t.1 * t.1 : Int) : Rat) ≠ 0 := by exact_mod_cast ct_ne h
  unfold cT
  rw [val_low (ct_ne h)]
  unfold val at h2 ⊢
  push_cast at h3 ⊢
  grind
theorem val_st {t : Fr} (h : Nrm t) : val (sT t) = (2 * val t) / (1 + val t * val t) := by
  have h1 := h.neR
  have h2 := sq_pos1 (val t)
  have h3 : ((t.2 * t.2 + t.1 * t.1 : Int) : Rat) ≠ 0 := by exact_mod_cast ct_ne h
  unfold sT
  rw [val_low (ct_ne h)]
  unfold val at h2 ⊢
  push_cast at h3 ⊢
  grind
noncomputable def tTurnOf : SpT := fun as Q => ∃ t : Fr, as = [.v (fr t)] ∧ Nrm t ∧ sz t ≤ 1000 ∧ Q (.v (vc (cT t) (sT t))) []
noncomputable abbrev s_turn_of : Stmt := top 15
theorem sc_turn_of : FnScope ["tangent", "both", "n", "d"] ["tangent"] (defScope s_turn_of) := ⟨rfl, rfl, rfl, by decide +kernel, rfl, by decide +kernel, by decide +kernel⟩
theorem ok_turn_of {f : Addr} {fd : FuncData} (F : Fun K "turn_of" "turn_of" s_turn_of f fd) (TX : Txt mg) (g_fraction : Fn P w K mg base 2 "fraction" ["n", "d"] (spOf K tLow))  : FnOk P w K mg base CX0 3 f fd ["tangent"] (spOf K tTurnOf) := by
  refine F.okT sc_turn_of ?len (fun cdv A outer s H E hr => (fb_cons (fs_asg (fv 0) (fg_tup (n := 2) rfl rfl (fgs_cons (fg_name (i := 2) sc_turn_of.nd rfl (Or.inl rfl)) (fgs_cons (fg_name (i := 3) sc_turn_of.nd rfl (Or.inl rfl)) fgs_nil))))
  (fb_cons (fs_set (i := 1) sc_turn_of.nd rfl (Or.inl rfl) (fe_opI0 op_add (fe_opI op_mulA (fv 3) (fv 3)) (fe_opI op_mulA (fv 2) (fv 2))))
  (fb_one (fs_ret (fe_tup (fc (fe_call g_fraction hr (by omega) rfl (fc (fe_opI0 op_sub (fe_opI op_mulA (fv 3) (fv 3)) (fe_opI op_mulA (fv 2) (fv 2))) (fc (fv 1) fa_nil))) (fc (fe_call g_fraction hr (by omega) rfl (fc (fe_opI op_mulA (fe_opI op_mulA fe_int (fv 3)) (fv 2)) (fc (fv 1) fa_nil))) fa_nil)))))))) ?rd
  case len => rintro as Q ⟨t, rfl, _⟩; rfl
  case rd =>
    rintro as Q ⟨t, rfl, ht, hs, q⟩
    have m1 : ∀ i j : Int, i.natAbs < 2 ^ 1002 → j.natAbs < 2 ^ 1002 → CMulA i j := fun i j h1 h2 => mulA h1 h2 (by decide)
    have d1 : t.2.natAbs < 2 ^ 1002 := pl (sz_d t) (by omega)
    have n1 : t.1.natAbs < 2 ^ 1002 := pl (sz_n t) (by omega)
    have hb := pow8 (ct_bound t) (by omega)
    refine ⟨m1 _ _ d1 d1, m1 _ _ n1 n1, m1 _ _ d1 d1, m1 _ _ n1 n1, _, _, rfl, ct_ne ht, hb, mulL (by decide), mulA (e := 1004) (pl (mul_pow (show (2 : Int).natAbs < 2 ^ 2 by decide) d1) (by decide)) (pl n1 (by decide)) (by decide), _, _, rfl, ct_ne ht, hb, rfl, q⟩
noncomputable def elT (x y t : Fr) : L2.T := vc (trx x y (cT t) (sT t)) (trY x y (cT t) (sT t))
noncomputable def ksOf (s : Int) : List Int := if s = 1 then [1] else if s = 2 then [1, 2] else [1, 2, 3]
noncomputable def els (x y t : Fr) (s : Int) : List L2.T := (ksOf s).map fun k => elT x y (fmul t (low k s))
theorem sz_ks {k s : Int} (hk : k.natAbs ≤ 3) (hs : 1 ≤ s ∧ s ≤ 3) : Nrm (low k s) ∧ sz (low k s) ≤ 2 := ⟨low_nrm (by omega), sz_low (by omega) (Nat.lt_of_le_of_lt hk (by decide)) (Nat.lt_of_le_of_lt (show s.natAbs ≤ 3 by omega) (by decide)) (by decide)⟩
noncomputable def tStepped : SpT := fun as Q => ∃ (x y t : Fr) (s : Int) (e f : Nat), as = [.v (vc x y), .v (fr t), .v (.int s)] ∧ Nv x y e ∧ Nrm t ∧ sz t ≤ f ∧ e + 2 * f ≤ 1400 ∧ (s = 1 ∨ s = 2 ∨ s = 3) ∧ Q (.l (els x y t s)) []
noncomputable abbrev s_stepped : Stmt := top 16
theorem sc_stepped : FnScope ["unit", "tangent", "steps", "turns"] ["unit", "tangent", "steps"] (defScope s_stepped) := ⟨rfl, rfl, rfl, by decide +kernel, rfl, by decide +kernel, by decide +kernel⟩
theorem ok_stepped {f : Addr} {fd : FuncData} (F : Fun K "stepped" "stepped" s_stepped f fd) (TX : Txt mg) (g_turn_of : Fn P w K mg base 3 "turn_of" ["tangent"] (spOf K tTurnOf)) (g_times : Fn P w K mg base 3 "times" ["one", "other"] (spOf K (tBin fmul))) (g_fraction : Fn P w K mg base 2 "fraction" ["n", "d"] (spOf K tLow)) (g_turned : Fn P w K mg base 4 "turned" ["unit", "by"] (spOf K tTurned))  : FnOk P w K mg base CX0 5 f fd ["unit", "tangent", "steps"] (spOf K tStepped) := by
  refine F.okT sc_stepped ?len (fun cdv A outer s H E hr => (fb_cons (fs_setC (i := 3) (N' := ["k", "tangent", "steps"]) (t := 1) (cap := [(1, false), (2, false)]) sc_stepped.nd rfl (Or.inl rfl) rfl rfl (CompOk.of rfl) rfl (by decide) (fi_range2 rfl TX.n_range (fc fe_int (fc (fe_opI0 op_add (fv 2) fe_int) fa_nil))) (fun _ _ _ _ => (fg_name (i := 0) (show List.Nodup (["k", "tangent", "steps"] : List Str) by decide +kernel) rfl (Or.inl rfl) (Or.inr rfl))) (fun _ _ _ _ => (fe_call g_turn_of hr (by omega) rfl (fc (fe_call g_times hr (by omega) rfl (fc (fv 1) (fc (fe_call g_fraction hr (by omega) rfl (fc (fv 0) (fc (fv 2) fa_nil))) fa_nil))) fa_nil))))
  (fb_one (fs_ret (fe_comp (N' := ["by", "unit"]) (t := 1) (cap := [(0, false)]) rfl (CompOk.of rfl) rfl (by decide) (fi_list rfl (fv 3)) (fun _ _ _ _ => (fg_name (i := 0) (show List.Nodup (["by", "unit"] : List Str) by decide +kernel) rfl (Or.inl rfl) (Or.inr rfl))) (fun _ _ _ _ => (fe_call g_turned hr (by omega) rfl (fc (fv 1) (fc (fv 0) fa_nil))))))))) ?rd
  case len => rintro as Q ⟨x, y, t, s, e, f, rfl, _⟩; rfl
  case rd =>
    rintro as Q ⟨x, y, t, s, e, f, rfl, hv, ht, hf, he, hs, q⟩
    have s8 : ∀ {s : Int}, s.natAbs ≤ 3 → s.natAbs < 2 ^ 8000 := fun h => pow8 (e := 2) (Nat.lt_of_le_of_lt h (by decide)) (by decide)
    have st : ∀ {k s : Int}, k.natAbs ≤ 3 → 1 ≤ s ∧ s ≤ 3 → Nrm (fmul t (low k s)) ∧ sz (fmul t (low k s)) ≤ f + 2 := fun h1 h2 => by
      obtain ⟨n1, n2⟩ := sz_ks h1 h2
      have := sz_mul ht n1
      exact ⟨nrm_mul ht n1, by omega⟩
    have tn : ∀ {k s : Int}, k.natAbs ≤ 3 → 1 ≤ s ∧ s ≤ 3 → Nv (cT (fmul t (low k s))) (sT (fmul t (low k s))) (2 * f + 5) := fun h1 h2 => by
      obtain ⟨n1, n2⟩ := st h1 h2
      exact (nv_ct n1).up (by omega)
    have rr : ∀ {s : Int}, 1 ≤ s ∧ s ≤ 3 → (-(2 ^ 62) ≤ (1 : Int) ∧ (1 : Int) < 2 ^ 62 ∧ -(2 ^ 62) ≤ s + 1 ∧ s + 1 < 2 ^ 62) := fun h => by omega
    have lk : ∀ {k s : Int}, k.natAbs ≤ 3 → 1 ≤ s ∧ s ≤ 3 → Nrm (low k s) ∧ sz t + sz (low k s) ≤ 7000 ∧ s ≠ 0 ∧ s.natAbs < 2 ^ 8000 ∧ Nrm (fmul t (low k s)) ∧ sz (fmul t (low k s)) ≤ 1000 := fun h1 h2 => by
      obtain ⟨n1, n2⟩ := sz_ks h1 h2
      obtain ⟨m1, m2⟩ := st h1 h2
      exact ⟨n1, by omega, by omega, s8 (by omega), m1, by omega⟩
    rcases hs with rfl | rfl | rfl
    · obtain ⟨a1, a2, a3, a4, a5, a6⟩ := lk (k := 1) (s := 1) (by decide) (by decide)
      have m : ∀ k : Int, k.natAbs ≤ 3 → Nv (cT (fmul t (low k 1))) (sT (fmul t (low k 1))) (2 * f + 5) := fun k h => tn h (by decide)
      refine ⟨by decide, rfl, _, _, rfl, a3, a4, t, _, rfl, ht, a1, a2, _, rfl, a5, a6, le_ok rfl, rfl, rfl, x, y, _, _, e, _, rfl, hv, m _ (by decide), (by omega), le_ok rfl, rfl, ?_⟩
      exact ⟨rfl, q⟩
    · obtain ⟨a1, a2, a3, a4, a5, a6⟩ := lk (k := 1) (s := 2) (by decide) (by decide)
      obtain ⟨b1, b2, b3, b4, b5, b6⟩ := lk (k := 2) (s := 2) (by decide) (by decide)
      have m : ∀ k : Int, k.natAbs ≤ 3 → Nv (cT (fmul t (low k 2))) (sT (fmul t (low k 2))) (2 * f + 5) := fun k h => tn h (by decide)
      refine ⟨by decide, rfl, _, _, rfl, a3, a4, t, _, rfl, ht, a1, a2, _, rfl, a5, a6, le_ok rfl, _, _, rfl, a3, a4, t, _, rfl, ht, b1, b2, _, rfl, b5, b6, le_ok rfl, rfl, rfl, x, y, _, _, e, _, rfl, hv, m _ (by decide), (by omega), le_ok rfl, x, y, _, _, e, _, rfl, hv, m _ (by decide), (by omega), le_ok rfl, rfl, ?_⟩
      exact ⟨rfl, q⟩
    · obtain ⟨a1, a2, a3, a4, a5, a6⟩ := lk (k := 1) (s := 3) (by decide) (by decide)
      obtain ⟨b1, b2, b3, b4, b5, b6⟩ := lk (k := 2) (s := 3) (by decide) (by decide)
      obtain ⟨c1, c2, c3, c4, c5, c6⟩ := lk (k := 3) (s := 3) (by decide) (by decide)
      have m : ∀ k : Int, k.natAbs ≤ 3 → Nv (cT (fmul t (low k 3))) (sT (fmul t (low k 3))) (2 * f + 5) := fun k h => tn h (by decide)
      refine ⟨by decide, rfl, _, _, rfl, a3, a4, t, _, rfl, ht, a1, a2, _, rfl, a5, a6, le_ok rfl, _, _, rfl, a3, a4, t, _, rfl, ht, b1, b2, _, rfl, b5, b6, le_ok rfl, _, _, rfl, a3, a4, t, _, rfl, ht, c1, c2, _, rfl, c5, c6, le_ok rfl, rfl, rfl, x, y, _, _, e, _, rfl, hv, m _ (by decide), (by omega), le_ok rfl, x, y, _, _, e, _, rfl, hv, m _ (by decide), (by omega), le_ok rfl, x, y, _, _, e, _, rfl, hv, m _ (by decide), (by omega), le_ok rfl, rfl, ?_⟩
      exact ⟨rfl, q⟩
end
end My
set_option Elab.async false
set_option linter.all false
set_option maxRecDepth 100000
set_option maxHeartbeats 4000000
namespace My
open PySem L2 PyProof.Rows
section
variable {P : Program} {w : World} {K : PySem.W.Frag} {mg : Str → Option Value} {base : Heap}
theorem val_d {p : Fr} (h : Nrm p) : val p * (p.2 : Rat) = (p.1 : Rat) := by have := h.neR; unfold val; grind
theorem d_pos {p : Fr} (h : Nrm p) : (0 : Rat) < (p.2 : Rat) := by have := h.d; exact_mod_cast (show (0 : Int) < p.2 by omega)
theorem val_nonneg {p : Fr} (h : Nrm p) : 0 ≤ val p ↔ 0 ≤ p.1 := by
  have e := val_d h
  have d := d_pos h
  constructor
  · intro k
    have := Rat.mul_nonneg k (Rat.le_of_lt d)
    rw [e] at this
    exact_mod_cast this
  · intro k
    have k' : (0 : Rat) ≤ (p.1 : Rat) := by exact_mod_cast k
    rcases Rat.le_total (a := 0) (b := val p) with c | c
    · exact c
    · by_cases z : val p = 0
      · grind
      · have := Rat.mul_pos (a := -val p) (b := p.2) (by grind) d
        grind
theorem val_le {p : Fr} (h : Nrm p) : val p ≤ 0 ↔ p.1 ≤ 0 := by
  have := val_nonneg (nrm_neg h)
  rw [val_neg h] at this
  have e : (fneg p).1 = -p.1 := rfl
  rw [e] at this
  constructor
  · intro k; have := this.1 (by grind); omega
  · intro k; have := this.2 (by omega); grind
theorem val_lt {p : Fr} (h : Nrm p) : val p < 0 ↔ p.1 < 0 := by
  have := val_nonneg h
  constructor
  · intro k; exact Int.not_le.mp fun c => by have := this.2 c; grind
  · intro k; exact Rat.not_le.mp fun c => by have := this.1 c; omega
theorem val_gt {p : Fr} (h : Nrm p) : 0 < val p ↔ 0 < p.1 := by
  have := val_le h
  constructor
  · intro k; exact Int.not_le.mp fun c => by have := this.2 c; grind
  · intro k; exact Rat.not_le.mp fun c => by have := this.1 c; omega
noncomputable def hq (x y p q : Fr) : Prop := (fdot x y p q).1 ≤ 0 ∨ (fcross x y p q).1 < 0
noncomputable def Rem (p q : Fr) : Nat → Fr → Fr → Prop
  | 0, x, y => ¬ hq x y p q
  | n + 1, x, y => hq x y p q ∧ Rem p q n (fneg y) x
theorem hq_iff {x y p q : Fr} {e f : Nat} (h : Nv x y e) (k : Nv p q f) : hq x y p q ↔ (val x * val p + val y * val q ≤ 0 ∨ val x * val q - val y * val p < 0) := by
  unfold hq
  rw [← val_le (nrm_dot h k), ← val_lt (nrm_cross h k), val_dot h k, val_cross h k]
theorem rem_ex {x y p q : Fr} {e f : Nat} (h : UnE x y e) (k : UnE p q f) : ∃ m, m ≤ 3 ∧ Rem p q m x y := by
  have i0 := hq_iff h.nv k.nv
  have i1 := hq_iff h.left.nv k.nv
  have i2 := hq_iff h.left.left.nv k.nv
  have i3 := hq_iff h.left.left.left.nv k.nv
  rw [val_neg h.nv.y] at i1
  rw [val_neg h.nv.y, val_neg h.nv.x] at i2
  rw [val_neg (nrm_neg h.nv.y), val_neg h.nv.y, val_neg h.nv.x] at i3
  have one : (val x * val p + val y * val q) * (val x * val p + val y * val q) + (val x * val q - val y * val p) * (val x * val q - val y * val p) = 1 := by
    have := h.one; have := k.one
    grind
  generalize hD : val x * val p + val y * val q = D at *
  generalize hC : val x * val q - val y * val p = C at *
  have j1 : hq (fneg y) x p q ↔ (C ≤ 0 ∨ 0 < D) := by rw [i1]; grind
  have j2 : hq (fneg x) (fneg y) p q ↔ (0 ≤ D ∨ 0 < C) := by rw [i2]; grind
  have j3 : hq (fneg (fneg y)) (fneg x) p q ↔ (0 ≤ C ∨ D < 0) := by rw [i3]; grind
  by_cases c0 : hq x y p q
  · by_cases c1 : hq (fneg y) x p q
    · by_cases c2 : hq (fneg x) (fneg y) p q
      · refine ⟨3, by decide, c0, c1, c2, ?_⟩
        show ¬ hq (fneg (fneg y)) (fneg x) p q
        rw [j3]
        rw [i0] at c0; rw [j1] at c1; rw [j2] at c2
        have nz : D = 0 → C = 0 → False := fun a b => by rw [a, b] at one; grind
        clear i0 i1 i2 i3 j1 j2 j3 one hD hC h k
        grind
      · exact ⟨2, by decide, c0, c1, c2⟩
    · exact ⟨1, by decide, c0, c1⟩
  · exact ⟨0, by decide, c0⟩
noncomputable def tng (x y p q : Fr) : Fr := fover (fcross x y p q) (fadd (1, 1) (fdot x y p q))
noncomputable def restL (p q : Fr) (s : Int) (x y : Fr) : List L2.T := if x = p ∧ y = q then [] else els x y (tng x y p q) s
noncomputable def qb (p q : Fr) (s : Int) : Nat → Fr → Fr → List L2.T
  | 0, x, y => restL p q s x y
  | n + 1, x, y => els x y (1, 1) s ++ qb p q s n (fneg y) x
theorem el_left {x y : Fr} {e : Nat} (h : Nv x y e) : elT x y (1, 1) = vc (fneg y) x := by
  have e1 : cT (1, 1) = (0, 1) := by decide
  have e2 : sT (1, 1) = (1, 1) := by decide
  unfold elT
  rw [e1, e2]
  have e8 : trx x y (0, 1) (1, 1) = fneg y := val_inj (h.tr nv01).x (nrm_neg h.y) (by rw [val_trx h nv01, val10, val01, val_neg h.y]; grind)
  have e9 : trY x y (0, 1) (1, 1) = x := val_inj (h.tr nv01).y h.x (by rw [val_trY h nv01, val10, val01]; grind)
  rw [e8, e9]
theorem els_last {t : Fr} (x y : Fr) {s : Int} (ht : Nrm t) (hs : s = 1 ∨ s = 2 ∨ s = 3) : ∃ L, els x y t s = L ++ [elT x y t] ∧ L.length ≤ 2 := by
  have e : ∀ {s : Int}, s ≠ 0 → fmul t (low s s) = t := fun {s} h => val_inj (nrm_mul ht (low_nrm h)) ht (by
    rw [val_mul ht (low_nrm h), val_low h]
    have : (s : Rat) ≠ 0 := by exact_mod_cast h
    grind)
  rcases hs with rfl | rfl | rfl
  · exact ⟨[], by show [elT x y (fmul t (low 1 1))] = _; rw [e (by decide)]; rfl, by decide⟩
  · exact ⟨[elT x y (fmul t (low 1 2))], by show [_, elT x y (fmul t (low 2 2))] = _; rw [e (by decide)]; rfl, by simp⟩
  · exact ⟨[elT x y (fmul t (low 1 3)), elT x y (fmul t (low 2 3))], by show [_, _, elT x y (fmul t (low 3 3))] = _; rw [e (by decide)]; rfl, by simp⟩
noncomputable def tHq : SpT := fun as Q => ∃ (x y p q : Fr) (e f : Nat), as = [.v (vc x y), .v (vc p q)] ∧ Nv x y e ∧ Nv p q f ∧ e + f ≤ 3000 ∧ (∀ b, (b = true ↔ hq x y p q) → Q (.v (.bl b)) [])
noncomputable abbrev s_has_quarter : Stmt := top 17
theorem sc_has_quarter : FnScope ["one", "other"] ["one", "other"] (defScope s_has_quarter) := ⟨rfl, rfl, rfl, by decide +kernel, rfl, by decide +kernel, by decide +kernel⟩
theorem ok_has_quarter {f : Addr} {fd : FuncData} (F : Fun K "has_quarter" "has_quarter" s_has_quarter f fd) (TX : Txt mg) (g_dot : Fn P w K mg base 4 "dot" ["one", "other"] (spOf K (tVV fdot))) (g_cross : Fn P w K mg base 4 "cross" ["one", "other"] (spOf K (tVV fcross)))  : FnOk P w K mg base CX0 5 f fd ["one", "other"] (spOf K tHq) := by
  refine F.okT sc_has_quarter ?len (fun cdv A outer s H E hr => (fb_one (fs_ret (fe_or (fe_cp op_le (fe_ix rfl (fe_call g_dot hr (by omega) rfl (fc (fv 0) (fc (fv 1) fa_nil))) fe_int (fun _ _ => rfl)) fe_int (nomark _)) (fe_one (fe_cp op_lt (fe_ix rfl (fe_call g_cross hr (by omega) rfl (fc (fv 0) (fc (fv 1) fa_nil))) fe_int (fun _ _ => rfl)) fe_int (nomark _))))))) ?rd
  case len => rintro as Q ⟨x, y, p, q, e, f, rfl, _⟩; rfl
  case rd =>
    rintro as Q ⟨x, y, p, q, e, f, rfl, h, k, he, z⟩
    refine ⟨x, y, p, q, e, f, rfl, h, k, he, ?_⟩
    show if decide ((fdot x y p q).1 ≤ 0) = true then _ else _
    by_cases c : (fdot x y p q).1 ≤ 0
    · rw [decide_eq_true c, if_pos rfl]
      exact ⟨rfl, z true ⟨fun _ => .inl c, fun _ => rfl⟩⟩
    · rw [decide_eq_false c, if_neg (by decide)]
      refine ⟨x, y, p, q, e, f, rfl, h, k, he, rfl, z _ ?_⟩
      show decide ((fcross x y p q).1 < 0) = true ↔ _
      rw [decide_eq_true_iff]
      exact ⟨fun r => .inr r, fun r => r.resolve_left c⟩
theorem atI_last (L : List L2.T) (t : L2.T) : atI (L ++ [t]) (-1) = some t := by
  have e : ixN (L ++ [t]).length (-1) = some L.length := by
    unfold ixN
    rw [if_neg (by decide), if_pos (by rw [List.length_append, List.length_singleton]; omega), List.length_append, List.length_singleton]
    congr 1
    omega
  unfold atI
  rw [e]
  show (L ++ [t])[L.length]? = _
  simp
theorem noLs_app : ∀ (xs ys : List L2.T), noLs (xs ++ ys) = (noLs xs && noLs ys)
  | [], ys => rfl
  | x :: xs, ys => by
    show (noL x && noLs (xs ++ ys)) = _
    rw [noLs_app xs ys, ← Bool.and_assoc]
    rfl
theorem noLs_els {s : Int} (x y t : Fr) (hs : s = 1 ∨ s = 2 ∨ s = 3) : noLs (els x y t s) = true := by rcases hs with rfl | rfl | rfl <;> rfl
theorem noLs_qb {s : Int} (p q : Fr) (hs : s = 1 ∨ s = 2 ∨ s = 3) : ∀ (m : Nat) (x y : Fr), noLs (qb p q s m x y) = true
  | 0, x, y => by
    show noLs (restL p q s x y) = true
    unfold restL
    split
    · rfl
    · exact noLs_els _ _ _ hs
  | m + 1, x, y => by
    show noLs (els x y (1, 1) s ++ qb p q s m (fneg y) x) = true
    rw [noLs_app, noLs_els _ _ _ hs, noLs_qb p q hs m]
    rfl
theorem len_els {s : Int} (x y t : Fr) (hs : s = 1 ∨ s = 2 ∨ s = 3) : (els x y t s).length ≤ 3 := by
  rcases hs with rfl | rfl | rfl
  · show 1 ≤ 3; decide
  · show 2 ≤ 3; decide
  · show 3 ≤ 3; decide
theorem not_hq {x y p q : Fr} {e f : Nat} (h : Nv x y e) (k : Nv p q f) (c : ¬ hq x y p q) : 0 < val (fdot x y p q) ∧ 0 ≤ val (fcross x y p q) := by
  unfold hq at c
  rw [not_or] at c
  exact ⟨(val_gt (nrm_dot h k)).2 (by omega), (val_nonneg (nrm_cross h k)).2 (by omega)⟩
theorem under_ne {x y p q : Fr} {e f : Nat} (h : Nv x y e) (k : Nv p q f) (c : ¬ hq x y p q) : (fadd (1, 1) (fdot x y p q)).1 ≠ 0 := by
  have h1 := (not_hq h k c).1
  have h2 := val_add (nrm_int 1) (nrm_dot h k)
  rw [val10] at h2
  have h3 := (val_gt (nrm_add (nrm_int 1) (nrm_dot h k))).1 (by rw [h2]; grind)
  omega
theorem sz_dot {x y p q : Fr} {e f : Nat} (h : Nv x y e) (k : Nv p q f) : sz (fdot x y p q) ≤ 2 * (e + f) + 1 := by
  have := h.sx; have := h.sy; have := k.sx; have := k.sy
  have s1 := sz_mul h.x k.x; have s2 := sz_mul h.y k.y
  have s6 := sz_add (nrm_mul h.x k.x) (nrm_mul h.y k.y)
  show sz (fadd (fmul x p) (fmul y q)) ≤ _
  omega
theorem sz_cross {x y p q : Fr} {e f : Nat} (h : Nv x y e) (k : Nv p q f) : sz (fcross x y p q) ≤ 2 * (e + f) + 1 := by
  have := h.sx; have := h.sy; have := k.sx; have := k.sy
  have s1 := sz_mul h.x k.y; have s2 := sz_mul h.y k.x
  have s6 := sz_sub (nrm_mul h.x k.y) (nrm_mul h.y k.x)
  show sz (fsub (fmul x q) (fmul y p)) ≤ _
  omega
theorem sz_tng {x y p q : Fr} {e f : Nat} (h : Nv x y e) (k : Nv p q f) (n : (fadd (1, 1) (fdot x y p q)).1 ≠ 0) : Nrm (tng x y p q) ∧ sz (tng x y p q) ≤ 4 * (e + f) + 4 := by
  have s5 := sz_cross h k; have s6 := sz_dot h k
  have s7 := sz_add (nrm_int 1) (nrm_dot h k)
  have o : sz (1, 1) = 1 := by decide
  have s8 := sz_over (nrm_cross h k) n
  refine ⟨nrm_over (nrm_cross h k) n, ?_⟩
  show sz (fover _ _) ≤ _
  omega
noncomputable def tQb : SpT := fun as Q => ∃ (x y p q : Fr) (s : Int) (e f m : Nat), as = [.v (vc x y), .v (vc p q), .v (.int s)] ∧ UnE x y e ∧ UnE p q f ∧ e + f ≤ 140 ∧ (s = 1 ∨ s = 2 ∨ s = 3) ∧ m ≤ 3 ∧ Rem p q m x y ∧ Q (.l (vc x y :: qb p q s m x y)) []
noncomputable abbrev s_quarters_between : Stmt := top 18
theorem sc_quarters_between : FnScope ["one", "other", "steps", "units", "last", "tangent"] ["one", "other", "steps"] (defScope s_quarters_between) := ⟨rfl, rfl, rfl, by decide +kernel, rfl, by decide +kernel, by decide +kernel⟩
theorem ok_quarters_between {f : Addr} {fd : FuncData} (F : Fun K "quarters_between" "quarters_between" s_quarters_between f fd) (TX : Txt mg) (g_has_quarter : Fn P w K mg base 5 "has_quarter" ["one", "other"] (spOf K tHq)) (g_stepped : Fn P w K mg base 5 "stepped" ["unit", "tangent", "steps"] (spOf K tStepped)) (g_over : Fn P w K mg base 3 "over" ["one", "other"] (spOf K tOver)) (g_cross : Fn P w K mg base 4 "cross" ["one", "other"] (spOf K (tVV fcross))) (g_added : Fn P w K mg base 3 "added" ["one", "other"] (spOf K (tBin fadd))) (g_dot : Fn P w K mg base 4 "dot" ["one", "other"] (spOf K (tVV fdot))) (c_ONE : Const mg K "ONE" (.tup [.int 1, .int 1])) : FnOk P w K mg base CX0 6 f fd ["one", "other", "steps"] (spOf K tQb) := by
  refine F.okT sc_quarters_between ?len (fun cdv A outer s H E hr => (fb_cons (fs_set (i := 3) sc_quarters_between.nd rfl (Or.inl rfl) (fe_lst (fc (fv 0) fa_nil)))
  (fb_cons (fs_while PassesOwn.never (ft_val (fe_call g_has_quarter hr (by omega) rfl (fc (fe_ix rfl (fv 3) (fe_neg fe_int) (fun _ _ => rfl)) (fc (fv 1) fa_nil)))) (fb_one (fs_expr (fe_extend rfl (fv 3) (fc (fe_call g_stepped hr (by omega) rfl (fc (fe_ix rfl (fv 3) (fe_neg fe_int) (fun _ _ => rfl)) (fc (fe_glob rfl c_ONE) (fc (fv 2) fa_nil)))) fa_nil)))))
  (fb_cons (fs_set (i := 4) sc_quarters_between.nd rfl (Or.inl rfl) (fe_ix rfl (fv 3) (fe_neg fe_int) (fun _ _ => rfl)))
  (fb_cons (fs_if (ft_ne rfl hr (fv 4) (fv 1) (nomark _)) (fb_cons (fs_set (i := 5) sc_quarters_between.nd rfl (Or.inl rfl) (fe_call g_over hr (by omega) rfl (fc (fe_call g_cross hr (by omega) rfl (fc (fv 4) (fc (fv 1) fa_nil))) (fc (fe_call g_added hr (by omega) rfl (fc (fe_glob rfl c_ONE) (fc (fe_call g_dot hr (by omega) rfl (fc (fv 4) (fc (fv 1) fa_nil))) fa_nil))) fa_nil))))
  (fb_one (fs_expr (fe_extend rfl (fv 3) (fc (fe_call g_stepped hr (by omega) rfl (fc (fv 4) (fc (fv 5) (fc (fv 2) fa_nil)))) fa_nil))))) fb_nil)
  (fb_one (fs_ret (fv 3)))))))) ?rd
  case len => rintro as Q ⟨x, y, p, q, s, e, f, m, rfl, _⟩; rfl
  case rd =>
    rintro as Q ⟨x, y, p, q, s, e, f, m0, rfl, hu, hv, he, hs, hm, hr, z⟩
    refine ⟨fun m' E => ∃ (L : List L2.T) (x' y' : Fr), E = [some (.p (vc x y)), some (.p (vc p q)), some (.p (.int s)), some (.o false (L ++ [vc x' y'])), none, none] ∧ UnE x' y' e ∧ Rem p q m' x' y' ∧ L.length + 3 * m' ≤ 9 ∧ L ++ vc x' y' :: qb p q s m' x' y' = vc x y :: qb p q s m0 x y, ⟨m0, [], x, y, rfl, hu, hr, by show 0 + 3 * m0 ≤ 9; omega, rfl⟩, ?_⟩
    rintro m E ⟨L, x', y', rfl, hu', hr, hl, hL⟩
    have hat := atI_last L (vc x' y')
    show o1 (atI (L ++ [vc x' y']) (-1)) _
    rw [hat]
    refine ⟨x', y', p, q, e, f, rfl, hu'.nv, hv.nv, by omega, fun b hb => ?_⟩
    show if b = true then _ else _
    by_cases c : hq x' y' p q
    · rw [if_pos (hb.2 c)]
      obtain ⟨m, rfl⟩ : ∃ k, m = k + 1 := by
        cases m with
        | zero => exact absurd c hr
        | succ k => exact ⟨k, rfl⟩
      obtain ⟨L', hL', l2⟩ := els_last x' y' (nrm_int 1) hs
      show o1 (atI (L ++ [vc x' y']) (-1)) _
      rw [hat]
      refine ⟨x', y', (1, 1), s, e, 1, rfl, hu'.nv, nrm_int 1, by decide, by omega, hs, ?_⟩
      refine ⟨?_, m, Nat.lt_succ_self m, L ++ [vc x' y'] ++ L', fneg y', x', ?_, hu'.left, hr.2, ?_, ?_⟩
      · have := len_els x' y' (1, 1) hs
        show ((L ++ [vc x' y']) ++ els x' y' (1, 1) s).length ≤ 1000
        rw [List.length_append, List.length_append, List.length_singleton]
        omega
      · show [_, _, _, some (U.o false ((L ++ [vc x' y']) ++ els x' y' (1, 1) s)), _, _] = _
        rw [hL', el_left hu'.nv, List.append_assoc (L ++ [vc x' y'])]
      · rw [List.length_append, List.length_append, List.length_singleton]
        omega
      · rw [← hL]
        show _ = L ++ vc x' y' :: (els x' y' (1, 1) s ++ qb p q s m (fneg y') x')
        rw [hL', el_left hu'.nv]
        simp
    · rw [if_neg (fun r => c (hb.1 r))]
      obtain rfl : m = 0 := by
        cases m with
        | zero => rfl
        | succ k => exact absurd hr.1 c
      have nl : noLs (vc x y :: qb p q s m0 x y) = true := noLs_qb p q hs m0 x y
      show o1 (atI (L ++ [vc x' y']) (-1)) _
      rw [hat]
      refine ⟨le_ok rfl, ?_⟩
      show if (!L2.eqT (vc x' y') (vc p q)) = true then _ else _
      rw [eq_vc]
      have e0 : qb p q s 0 x' y' = restL p q s x' y' := rfl
      rw [e0] at hL
      unfold restL at hL
      by_cases d : x' = p ∧ y' = q
      · rw [if_pos d] at hL
        rw [if_neg (by simpa using d)]
        rw [hL]
        exact ⟨nl, z⟩
      · rw [if_neg d] at hL
        rw [if_pos (by rw [decide_eq_false d]; rfl)]
        have ne := under_ne hu'.nv hv.nv c
        obtain ⟨t1, t2⟩ := sz_tng hu'.nv hv.nv ne
        have := (hu'.nv.tr hv.nv)
        refine ⟨x', y', p, q, e, f, rfl, hu'.nv, hv.nv, by omega, x', y', p, q, e, f, rfl, hu'.nv, hv.nv, by omega, (1, 1), _, rfl, nrm_int 1, nrm_dot hu'.nv hv.nv, ?_, _, _, rfl, nrm_cross hu'.nv hv.nv, nrm_add (nrm_int 1) (nrm_dot hu'.nv hv.nv), ne, ?_, ?_⟩
        · have := sz_dot hu'.nv hv.nv
          have o : sz (1, 1) = 1 := by decide
          omega
        · have := sz_dot hu'.nv hv.nv
          have := sz_cross hu'.nv hv.nv
          have o : sz (1, 1) = 1 := by decide
          have := sz_add (nrm_int 1) (nrm_dot hu'.nv hv.nv)
          omega
        refine ⟨x', y', _, s, e, _, rfl, hu'.nv, t1, t2, by omega, hs, ?_⟩
        have ee : (L ++ [vc x' y']) ++ els x' y' (tng x' y' p q) s = vc x y :: qb p q s m0 x y := by rw [← hL]; simp
        refine ⟨?_, ?_, ?_⟩
        · have := len_els x' y' (tng x' y' p q) hs
          show ((L ++ [vc x' y']) ++ els x' y' (tng x' y' p q) s).length ≤ 1000
          rw [List.length_append, List.length_append, List.length_singleton]
          omega
        · show noLs ((L ++ [vc x' y']) ++ els x' y' (tng x' y' p q) s) = true
          rw [ee]; exact nl
        · show Q (.l ((L ++ [vc x' y']) ++ els x' y' (tng x' y' p q) s)) []
          rw [ee]; exact z
end
end My
set_option Elab.async false
set_option linter.all false
set_option maxRecDepth 100000
set_option maxHeartbeats 4000000
namespace My
open PySem L2 PyProof.Rows
section
variable {P : Program} {w : World} {K : PySem.W.Frag} {mg : Str → Option Value} {base : Heap}
theorem val_two_ct {h : Fr} (n : Nrm h) (ne : (fadd (1, 1) (fmul h h)).1 ≠ 0) : fover (fsub (1, 1) (fmul h h)) (fadd (1, 1) (fmul h h)) = cT h ∧ fover (fadd h h) (fadd (1, 1) (fmul h h)) = sT h := by
  have n1 := nrm_mul n n
  have n2 := nrm_add (nrm_int 1) n1
  have n3 := nrm_sub (nrm_int 1) n1
  have v2 := val_add (nrm_int 1) n1
  rw [val10, val_mul n n] at v2
  have z := sq_pos1 (val h)
  constructor
  · refine val_inj (nrm_over n3 ne) (nv_ct n).x ?_
    rw [val_over n3 n2 ne, val_ct n, v2, val_sub (nrm_int 1) n1, val10, val_mul n n]
  · refine val_inj (nrm_over (nrm_add n n) ne) (nv_ct n).y ?_
    rw [val_over (nrm_add n n) n2 ne, val_st n, v2, val_add n n]
    grind
theorem sq_ne {h : Fr} (n : Nrm h) : (fadd (1, 1) (fmul h h)).1 ≠ 0 := by
  have n1 := nrm_mul n n
  have v2 := val_add (nrm_int 1) n1
  rw [val10, val_mul n n] at v2
  have z := sq_pos1 (val h)
  rw [← v2] at z
  intro c
  apply z
  unfold val
  rw [c]
  grind
theorem sz_k {k : Int} (h : k.natAbs ≤ 3) : sz (k, 1) ≤ 2 := sz_le (Nat.lt_of_le_of_lt h (by decide)) (show (1 : Int).natAbs < 2 ^ 2 by decide) (by decide)
noncomputable def tOn : SpT := fun as Q => ∃ (x y n : Fr) (k : Int) (e f : Nat), as = [.v (vc x y), .v (fr n), .v (.int k)] ∧ Nv x y e ∧ Nrm n ∧ sz n ≤ f ∧ e + 2 * f ≤ 1400 ∧ k.natAbs ≤ 3 ∧ Q (.v (elT x y (fmul (k, 1) n))) []
noncomputable abbrev s_on : Stmt := top 34
theorem sc_on : FnScope ["_law_unit", "_law_number", "_law_k", "_law_kh", "_law_square", "_law_under", "_law_by", "_law_c", "_law_s"] ["_law_unit", "_law_number", "_law_k"] (defScope s_on) := ⟨rfl, rfl, rfl, by decide +kernel, rfl, by decide +kernel, by decide +kernel⟩
theorem ok_on {f : Addr} {fd : FuncData} (F : Fun K "_law_on" "_law_on" s_on f fd) (TX : Txt mg) (g_product : Fn P w K mg base 2 "_law_product" ["_law_p", "_law_q"] (spOf K (tBin fmul))) (g_sum : Fn P w K mg base 2 "_law_sum" ["_law_p", "_law_q"] (spOf K (tBin fadd))) (g_less : Fn P w K mg base 2 "_law_less" ["_law_p", "_law_q"] (spOf K (tBin fsub))) (g_lowest : Fn P w K mg base 1 "_law_lowest" ["_law_n", "_law_d"] (spOf K tLow)) (g_lturned : Fn P w K mg base 3 "_law_turned" ["_law_unit", "_law_by"] (spOf K tTurned))  : FnOk P w K mg base CX0 4 f fd ["_law_unit", "_law_number", "_law_k"] (spOf K tOn) := by
  refine F.okT sc_on ?len (fun cdv A outer s H E hr => (fb_cons (fs_set (i := 3) sc_on.nd rfl (Or.inl rfl) (fe_call g_product hr (by omega) rfl (fc (fe_tup (fc (fv 2) (fc fe_int fa_nil))) (fc (fv 1) fa_nil))))
  (fb_cons (fs_set (i := 4) sc_on.nd rfl (Or.inl rfl) (fe_call g_product hr (by omega) rfl (fc (fv 3) (fc (fv 3) fa_nil))))
  (fb_cons (fs_set (i := 5) sc_on.nd rfl (Or.inl rfl) (fe_call g_sum hr (by omega) rfl (fc (fe_tup (fc fe_int (fc fe_int fa_nil))) (fc (fv 4) fa_nil))))
  (fb_cons (fs_par (i := 7) (j := 8) rfl sc_on.nd rfl rfl (by decide) rfl rfl (fc (fe_call g_less hr (by omega) rfl (fc (fe_tup (fc fe_int (fc fe_int fa_nil))) (fc (fv 4) fa_nil))) (fc (fe_call g_sum hr (by omega) rfl (fc (fv 3) (fc (fv 3) fa_nil))) fa_nil)) rfl)
  (fb_cons (fs_set (i := 6) sc_on.nd rfl (Or.inl rfl) (fe_tup (fc (fe_call g_lowest hr (by omega) rfl (fc (fe_opI op_mulA (fe_ix rfl (fv 7) fe_int (fun _ _ => rfl)) (fe_ix rfl (fv 5) fe_int (fun _ _ => rfl))) (fc (fe_opI op_mulA (fe_ix rfl (fv 7) fe_int (fun _ _ => rfl)) (fe_ix rfl (fv 5) fe_int (fun _ _ => rfl))) fa_nil))) (fc (fe_call g_lowest hr (by omega) rfl (fc (fe_opI op_mulA (fe_ix rfl (fv 8) fe_int (fun _ _ => rfl)) (fe_ix rfl (fv 5) fe_int (fun _ _ => rfl))) (fc (fe_opI op_mulA (fe_ix rfl (fv 8) fe_int (fun _ _ => rfl)) (fe_ix rfl (fv 5) fe_int (fun _ _ => rfl))) fa_nil))) fa_nil))))
  (fb_one (fs_ret (fe_call g_lturned hr (by omega) rfl (fc (fv 0) (fc (fv 6) fa_nil))))))))))) ?rd
  case len => rintro as Q ⟨x, y, n, k, e, f, rfl, _⟩; rfl
  case rd =>
    rintro as Q ⟨x, y, n, k, e, f, rfl, hv, hn, hf, he, hk, q⟩
    have k2 := sz_k hk
    have nk := nrm_mul (nrm_int k) hn
    have sk := sz_mul (nrm_int k) hn
    refine ⟨(k, 1), n, rfl, nrm_int k, hn, by omega, ?_⟩
    unfold elT at q
    generalize fmul (k, 1) n = h at nk sk q ⊢
    have ne := sq_ne nk
    obtain ⟨e1, e2⟩ := val_two_ct nk ne
    have o : sz (1, 1) = 1 := by decide
    have n1 := nrm_mul nk nk
    have n2 := nrm_add (nrm_int 1) n1
    have n3 := nrm_sub (nrm_int 1) n1
    have n4 := nrm_add nk nk
    have s1 := sz_mul nk nk
    have s2 := sz_add (nrm_int 1) n1
    have s3 := sz_sub (nrm_int 1) n1
    have s4 := sz_add nk nk
    have nt := (nv_ct nk).up (show 2 * sz h + 1 ≤ 2 * f + 5 by omega)
    unfold fover at e1 e2
    have b1 : ((fsub (1, 1) (fmul h h)).2 * (fadd (1, 1) (fmul h h)).1).natAbs < 2 ^ 8000 := pow8 (mul_pow (sz_d _) (sz_n _)) (by omega)
    have b2 : ((fadd h h).2 * (fadd (1, 1) (fmul h h)).1).natAbs < 2 ^ 8000 := pow8 (mul_pow (sz_d _) (sz_n _)) (by omega)
    refine ⟨h, h, rfl, nk, nk, by omega, (1, 1), _, rfl, nrm_int 1, n1, by omega, (1, 1), _, rfl, nrm_int 1, n1, by omega, h, h, rfl, nk, nk, by omega, ?_⟩
    refine ⟨mulA (e := 2000) (pl (sz_n _) (by omega)) (pl (sz_d _) (by omega)) (by decide), mulA (e := 2000) (pl (sz_d _) (by omega)) (pl (sz_n _) (by omega)) (by decide), _, _, rfl, Int.mul_ne_zero n3.ne ne, b1, ?_⟩
    refine ⟨mulA (e := 2000) (pl (sz_n _) (by omega)) (pl (sz_d _) (by omega)) (by decide), mulA (e := 2000) (pl (sz_d _) (by omega)) (pl (sz_n _) (by omega)) (by decide), _, _, rfl, Int.mul_ne_zero n4.ne ne, b2, ?_⟩
    rw [e1, e2]
    exact ⟨x, y, _, _, e, _, rfl, hv, nt, by omega, rfl, q⟩
theorem on_quarter {k s : Int} (hs : s ≠ 0) (s1 : 1 ≤ s) : fmul (k, 1) (1, s) = fmul (1, 1) (low k s) := by
  have n : Nrm ((1 : Int), s) := ⟨s1, by simp⟩
  refine val_inj (nrm_mul (nrm_int k) n) (nrm_mul (nrm_int 1) (low_nrm hs)) ?_
  rw [val_mul (nrm_int k) n, val_mul (nrm_int 1) (low_nrm hs), val10, val_int, val_low hs]
  show (k : Rat) * (((1 : Int) : Rat) / (s : Rat)) = _
  have : (s : Rat) ≠ 0 := by exact_mod_cast hs
  push_cast
  grind
theorem on_rest {k s : Int} {h : Fr} (nh : Nrm h) (hs : s ≠ 0) (s1 : 1 ≤ s) : fmul (k, 1) (fmul h (1, s)) = fmul h (low k s) := by
  have n : Nrm ((1 : Int), s) := ⟨s1, by simp⟩
  refine val_inj (nrm_mul (nrm_int k) (nrm_mul nh n)) (nrm_mul nh (low_nrm hs)) ?_
  rw [val_mul (nrm_int k) (nrm_mul nh n), val_mul nh n, val_mul nh (low_nrm hs), val_int, val_low hs]
  show (k : Rat) * (val h * (((1 : Int) : Rat) / (s : Rat))) = _
  have : (s : Rat) ≠ 0 := by exact_mod_cast hs
  push_cast
  grind
theorem rng_at {lo : Int} {n i : Nat} {t : L2.T} (h : (rngT lo n)[i]? = some t) : i < n ∧ t = .int (lo + (i : Int)) := by
  unfold rngT at h
  rw [List.getElem?_map] at h
  rcases Nat.lt_or_ge i n with c | c
  · rw [List.getElem?_range c] at h
    cases h
    exact ⟨c, rfl⟩
  · rw [List.getElem?_eq_none (by simpa using c)] at h; cases h
theorem els_q1 (x y : Fr) : els x y (1, 1) 1 = [elT x y (fmul (1, 1) (1, 1))] := by rw [on_quarter (k := 1) (s := 1) (by decide) (by decide)]; rfl
theorem els_q2 (x y : Fr) : els x y (1, 1) 2 = [elT x y (fmul (1, 1) (1, 2)), elT x y (fmul (2, 1) (1, 2))] := by rw [on_quarter (k := 1) (s := 2) (by decide) (by decide), on_quarter (k := 2) (s := 2) (by decide) (by decide)]; rfl
theorem els_q3 (x y : Fr) : els x y (1, 1) 3 = [elT x y (fmul (1, 1) (1, 3)), elT x y (fmul (2, 1) (1, 3)), elT x y (fmul (3, 1) (1, 3))] := by rw [on_quarter (k := 1) (s := 3) (by decide) (by decide), on_quarter (k := 2) (s := 3) (by decide) (by decide), on_quarter (k := 3) (s := 3) (by decide) (by decide)]; rfl
theorem els_r1 {t : Fr} (x y : Fr) (n : Nrm t) : els x y t 1 = [elT x y (fmul (1, 1) (fmul t (1, 1)))] := by rw [on_rest (k := 1) (s := 1) n (by decide) (by decide)]; rfl
theorem els_r2 {t : Fr} (x y : Fr) (n : Nrm t) : els x y t 2 = [elT x y (fmul (1, 1) (fmul t (1, 2))), elT x y (fmul (2, 1) (fmul t (1, 2)))] := by rw [on_rest (k := 1) (s := 2) n (by decide) (by decide), on_rest (k := 2) (s := 2) n (by decide) (by decide)]; rfl
theorem els_r3 {t : Fr} (x y : Fr) (n : Nrm t) : els x y t 3 = [elT x y (fmul (1, 1) (fmul t (1, 3))), elT x y (fmul (2, 1) (fmul t (1, 3))), elT x y (fmul (3, 1) (fmul t (1, 3)))] := by rw [on_rest (k := 1) (s := 3) n (by decide) (by decide), on_rest (k := 2) (s := 3) n (by decide) (by decide), on_rest (k := 3) (s := 3) n (by decide) (by decide)]; rfl
theorem n1s {s : Int} (hs : s = 1 ∨ s = 2 ∨ s = 3) : Nrm ((1 : Int), s) ∧ sz ((1 : Int), s) ≤ 2 := by
  rcases hs with rfl | rfl | rfl
  · exact ⟨nrm_int 1, by decide⟩
  · exact ⟨⟨by decide, by decide⟩, by decide⟩
  · exact ⟨⟨by decide, by decide⟩, by decide⟩
theorem un_eq {x y p q : Fr} {e f : Nat} (h : UnE x y e) (k : UnE p q f) (c : ¬ hq x y p q) (c1 : ¬ 0 < (fcross x y p q).1) : x = p ∧ y = q := by
  have hh := not_hq h.nv k.nv c
  have c3 : val (fcross x y p q) = 0 := by
    have := (val_le (nrm_cross h.nv k.nv)).2 (by omega)
    grind
  have d1 := hh.1
  rw [val_dot h.nv k.nv] at d1
  rw [val_cross h.nv k.nv] at c3
  have h1 := h.one; have k1 := k.one
  have one : (val x * val p + val y * val q) * (val x * val p + val y * val q) = 1 := by
    have : (val x * val p + val y * val q) * (val x * val p + val y * val q) + (val x * val q - val y * val p) * (val x * val q - val y * val p) = 1 := by grind
    rw [c3] at this
    grind
  have ex : val p = val x * (val x * val p + val y * val q) - val y * (val x * val q - val y * val p) := by grind
  have ey : val q = val y * (val x * val p + val y * val q) + val x * (val x * val q - val y * val p) := by grind
  rw [c3] at ex ey
  generalize val x * val p + val y * val q = D at *
  have d2 : D = 1 := by
    have : (D - 1) * (D + 1) = 0 := by grind
    rcases Rat.mul_eq_zero.mp this with a | a <;> grind
  rw [d2] at ex ey
  exact ⟨val_inj h.nv.x k.nv.x (by grind), val_inj h.nv.y k.nv.y (by grind)⟩
theorem not_self {x y : Fr} {e : Nat} (h : UnE x y e) : ¬ hq x y x y := by
  rw [hq_iff h.nv h.nv]
  have := h.one
  grind
theorem cross_self {x y : Fr} {e : Nat} (h : UnE x y e) : ¬ 0 < (fcross x y x y).1 := by
  rw [← val_gt (nrm_cross h.nv h.nv), val_cross h.nv h.nv]
  grind
noncomputable abbrev s_quarters : Stmt := top 35
theorem sc_quarters : FnScope ["_law_one", "_law_other", "_law_steps", "_law_found", "_law_quarter", "_law_last", "_law_sharp", "_law_h", "_law_up", "_law_under"] ["_law_one", "_law_other", "_law_steps"] (defScope s_quarters) := ⟨rfl, rfl, rfl, by decide +kernel, rfl, by decide +kernel, by decide +kernel⟩
theorem ok_quarters {f : Addr} {fd : FuncData} (F : Fun K "_law_quarters" "_law_quarters" s_quarters f fd) (TX : Txt mg) (g_lcross : Fn P w K mg base 3 "_law_cross" ["_law_p", "_law_q"] (spOf K (tVV fcross))) (g_ldot : Fn P w K mg base 3 "_law_dot" ["_law_p", "_law_q"] (spOf K (tVV fdot))) (g_on : Fn P w K mg base 4 "_law_on" ["_law_unit", "_law_number", "_law_k"] (spOf K tOn)) (g_sum : Fn P w K mg base 2 "_law_sum" ["_law_p", "_law_q"] (spOf K (tBin fadd))) (g_lowest : Fn P w K mg base 1 "_law_lowest" ["_law_n", "_law_d"] (spOf K tLow)) (g_product : Fn P w K mg base 2 "_law_product" ["_law_p", "_law_q"] (spOf K (tBin fmul)))  : FnOk P w K mg base CX0 5 f fd ["_law_one", "_law_other", "_law_steps"] (spOf K tQb) := by
  refine F.okT sc_quarters ?len (fun cdv A outer s H E hr => (fb_cons (fs_set (i := 3) sc_quarters.nd rfl (Or.inl rfl) (fe_lst (fc (fv 0) fa_nil)))
  (fb_cons (fs_for PassesOwn.never rfl (fi_range1 rfl TX.n_range (fc fe_int fa_nil)) (fg_name (i := 4) sc_quarters.nd rfl (Or.inl rfl))
    (fb_cons (fs_set (i := 5) sc_quarters.nd rfl (Or.inr rfl) (fe_ix rfl (fv 3) (fe_neg fe_int) (fun _ _ => rfl)))
  (fb_cons (fs_set (i := 6) sc_quarters.nd rfl (Or.inl rfl) (fe_and (fe_cp op_gt (fe_ix rfl (fe_call g_lcross hr (by omega) rfl (fc (fv 5) (fc (fv 1) fa_nil))) fe_int (fun _ _ => rfl)) fe_int (nomark _)) (fe_one (fe_cp op_gt (fe_ix rfl (fe_call g_ldot hr (by omega) rfl (fc (fv 5) (fc (fv 1) fa_nil))) fe_int (fun _ _ => rfl)) fe_int (nomark _)))))
  (fb_one (fs_if (ft_w (fw_and (ft_ne rfl hr (fv 5) (fv 1) (nomark _)) (fw_and1 (ft_not (ft_val (fv 6)))))) (fb_one (fs_set (i := 3) sc_quarters.nd rfl (Or.inl rfl) (fe_cat (fv 3) (fe_comp (N' := ["_law_k", "_law_last", "_law_steps"]) (t := 1) (cap := [(5, false), (2, false)]) rfl (CompOk.of rfl) rfl (by decide) (fi_range2 rfl TX.n_range (fc fe_int (fc (fe_opI0 op_add (fv 2) fe_int) fa_nil))) (fun _ _ _ _ => (fg_name (i := 0) (show List.Nodup (["_law_k", "_law_last", "_law_steps"] : List Str) by decide +kernel) rfl (Or.inl rfl) (Or.inr rfl))) (fun _ _ _ _ => (fe_call g_on hr (by omega) rfl (fc (fv 1) (fc (fe_tup (fc fe_int (fc (fv 2) fa_nil))) (fc (fv 0) fa_nil))))))))) fb_nil)))))
  (fb_cons (fs_set (i := 5) sc_quarters.nd rfl (Or.inr rfl) (fe_ix rfl (fv 3) (fe_neg fe_int) (fun _ _ => rfl)))
  (fb_cons (fs_if (ft_ne rfl hr (fv 5) (fv 1) (nomark _)) (fb_cons (fs_par (i := 8) (j := 9) rfl sc_quarters.nd rfl rfl (by decide) rfl rfl (fc (fe_call g_lcross hr (by omega) rfl (fc (fv 5) (fc (fv 1) fa_nil))) (fc (fe_call g_sum hr (by omega) rfl (fc (fe_tup (fc fe_int (fc fe_int fa_nil))) (fc (fe_call g_ldot hr (by omega) rfl (fc (fv 5) (fc (fv 1) fa_nil))) fa_nil))) fa_nil)) rfl)
  (fb_cons (fs_set (i := 7) sc_quarters.nd rfl (Or.inr rfl) (fe_call g_lowest hr (by omega) rfl (fc (fe_opI op_mulA (fe_ix rfl (fv 8) fe_int (fun _ _ => rfl)) (fe_ix rfl (fv 9) fe_int (fun _ _ => rfl))) (fc (fe_opI op_mulA (fe_ix rfl (fv 8) fe_int (fun _ _ => rfl)) (fe_ix rfl (fv 9) fe_int (fun _ _ => rfl))) fa_nil))))
  (fb_one (fs_set (i := 3) sc_quarters.nd rfl (Or.inl rfl) (fe_cat (fv 3) (fe_comp (N' := ["_law_k", "_law_last", "_law_h", "_law_steps"]) (t := 1) (cap := [(5, false), (7, false), (2, false)]) rfl (CompOk.of rfl) rfl (by decide) (fi_range2 rfl TX.n_range (fc fe_int (fc (fe_opI0 op_add (fv 2) fe_int) fa_nil))) (fun _ _ _ _ => (fg_name (i := 0) (show List.Nodup (["_law_k", "_law_last", "_law_h", "_law_steps"] : List Str) by decide +kernel) rfl (Or.inl rfl) (Or.inr rfl))) (fun _ _ _ _ => (fe_call g_on hr (by omega) rfl (fc (fv 1) (fc (fe_call g_product hr (by omega) rfl (fc (fv 2) (fc (fe_tup (fc fe_int (fc (fv 3) fa_nil))) fa_nil))) (fc (fv 0) fa_nil))))))))))) fb_nil)
  (fb_one (fs_ret (fv 3)))))))) ?rd
  case len => rintro as Q ⟨x, y, p, q, s, e, f, m, rfl, _⟩; rfl
  case rd =>
    rintro as Q ⟨x, y, p, q, s, e, f, m0, rfl, hu, hv, he, hs, hm, hr, z⟩
    have ns := n1s hs
    refine ⟨⟨by decide, by decide⟩, ?_⟩
    refine loopT_inv (fun i E => ∃ (L : List L2.T) (x' y' : Fr) (m' : Nat) (v4 v5 v6 : Option U), E = [some (.p (vc x y)), some (.p (vc p q)), some (.p (.int s)), some (.o false (L ++ [vc x' y'])), v4, v5, v6, none, none, none] ∧ UnE x' y' e ∧ Rem p q m' x' y' ∧ m' ≤ 3 - i ∧ L.length ≤ 3 * i ∧ L ++ vc x' y' :: qb p q s m' x' y' = vc x y :: qb p q s m0 x y) ⟨[], x, y, m0, none, none, none, rfl, hu, hr, by omega, by decide, rfl⟩ ?_ ?_
    · rintro i t rest E hi ⟨L, x', y', m, v4, v5, v6, rfl, hu', hr, hm', hl, hL⟩ KK
      obtain ⟨hin, rfl⟩ := rng_at hi
      have hin' : i < 4 := hin
      have hat := atI_last L (vc x' y')
      show o1 (atI (L ++ [vc x' y']) (-1)) _
      rw [hat]
      refine ⟨x', y', p, q, e, f, rfl, hu'.nv, hv.nv, by omega, ?_⟩
      show if decide (0 < (fcross x' y' p q).1) = true then _ else _
      by_cases c : hq x' y' p q
      · have dne : ¬ (x' = p ∧ y' = q) := by
          rintro ⟨rfl, rfl⟩
          exact not_self hu' c
        obtain ⟨m, rfl⟩ : ∃ k, m = k + 1 := by
          cases m with
          | zero => exact absurd c hr
          | succ k => exact ⟨k, rfl⟩
        obtain ⟨L', hL', l2⟩ := els_last x' y' (nrm_int 1) hs
        by_cases c1 : 0 < (fcross x' y' p q).1
        · rw [decide_eq_true c1, if_pos rfl]
          refine ⟨x', y', p, q, e, f, rfl, hu'.nv, hv.nv, by omega, ?_⟩
          have c2 : ¬ 0 < (fdot x' y' p q).1 := by
            rcases c with c | c <;> omega
          refine ⟨le_ok rfl, ?_⟩
          show if (!L2.eqT (vc x' y') (vc p q)) = true then _ else _
          rw [eq_vc]
          rw [if_pos (by rw [decide_eq_false dne]; rfl)]
          show if (!decide (0 < (fdot x' y' p q).1)) = true then _ else _
          rw [decide_eq_false c2, if_pos (by decide)]
          rcases hs with rfl | rfl | rfl
          · refine ⟨by decide, rfl, x', y', _, _, e, 2, rfl, hu'.nv, ns.1, ns.2, by omega, by decide, le_ok rfl, rfl, ?_, KK _ ⟨L ++ [vc x' y'] ++ L', fneg y', x', m, some (.p (.int (0 + (i : Int)))), some (.p (vc x' y')), some (.p (.bl (decide (0 < (fdot x' y' p q).1)))), ?_, hu'.left, hr.2, by omega, ?_, ?_⟩⟩
            · show (L ++ [vc x' y']).length + 1 ≤ 1000
              rw [List.length_append, List.length_singleton]; omega
            · rw [List.append_assoc (L ++ [vc x' y']), ← el_left hu'.nv, ← hL', els_q1]; rfl
            · rw [List.length_append, List.length_append, List.length_singleton]; omega
            · rw [← hL]
              show _ = L ++ vc x' y' :: (els x' y' (1, 1) _ ++ qb p q _ m (fneg y') x')
              rw [hL', el_left hu'.nv]
              simp
          · refine ⟨by decide, rfl, x', y', _, _, e, 2, rfl, hu'.nv, ns.1, ns.2, by omega, by decide, le_ok rfl, x', y', _, _, e, 2, rfl, hu'.nv, ns.1, ns.2, by omega, by decide, le_ok rfl, rfl, ?_, KK _ ⟨L ++ [vc x' y'] ++ L', fneg y', x', m, some (.p (.int (0 + (i : Int)))), some (.p (vc x' y')), some (.p (.bl (decide (0 < (fdot x' y' p q).1)))), ?_, hu'.left, hr.2, by omega, ?_, ?_⟩⟩
            · show (L ++ [vc x' y']).length + 2 ≤ 1000
              rw [List.length_append, List.length_singleton]; omega
            · rw [List.append_assoc (L ++ [vc x' y']), ← el_left hu'.nv, ← hL', els_q2]; rfl
            · rw [List.length_append, List.length_append, List.length_singleton]; omega
            · rw [← hL]
              show _ = L ++ vc x' y' :: (els x' y' (1, 1) _ ++ qb p q _ m (fneg y') x')
              rw [hL', el_left hu'.nv]
              simp
          · refine ⟨by decide, rfl, x', y', _, _, e, 2, rfl, hu'.nv, ns.1, ns.2, by omega, by decide, le_ok rfl, x', y', _, _, e, 2, rfl, hu'.nv, ns.1, ns.2, by omega, by decide, le_ok rfl, x', y', _, _, e, 2, rfl, hu'.nv, ns.1, ns.2, by omega, by decide, le_ok rfl, rfl, ?_, KK _ ⟨L ++ [vc x' y'] ++ L', fneg y', x', m, some (.p (.int (0 + (i : Int)))), some (.p (vc x' y')), some (.p (.bl (decide (0 < (fdot x' y' p q).1)))), ?_, hu'.left, hr.2, by omega, ?_, ?_⟩⟩
            · show (L ++ [vc x' y']).length + 3 ≤ 1000
              rw [List.length_append, List.length_singleton]; omega
            · rw [List.append_assoc (L ++ [vc x' y']), ← el_left hu'.nv, ← hL', els_q3]; rfl
            · rw [List.length_append, List.length_append, List.length_singleton]; omega
            · rw [← hL]
              show _ = L ++ vc x' y' :: (els x' y' (1, 1) _ ++ qb p q _ m (fneg y') x')
              rw [hL', el_left hu'.nv]
              simp
        · rw [decide_eq_false c1, if_neg (by decide)]
          refine ⟨le_ok rfl, ?_⟩
          show if (!L2.eqT (vc x' y') (vc p q)) = true then _ else _
          rw [eq_vc]
          rw [if_pos (by rw [decide_eq_false dne]; rfl)]
          rcases hs with rfl | rfl | rfl
          · refine ⟨by decide, rfl, x', y', _, _, e, 2, rfl, hu'.nv, ns.1, ns.2, by omega, by decide, le_ok rfl, rfl, ?_, KK _ ⟨L ++ [vc x' y'] ++ L', fneg y', x', m, some (.p (.int (0 + (i : Int)))), some (.p (vc x' y')), some (.p (.bl false)), ?_, hu'.left, hr.2, by omega, ?_, ?_⟩⟩
            · show (L ++ [vc x' y']).length + 1 ≤ 1000
              rw [List.length_append, List.length_singleton]; omega
            · rw [List.append_assoc (L ++ [vc x' y']), ← el_left hu'.nv, ← hL', els_q1]; rfl
            · rw [List.length_append, List.length_append, List.length_singleton]; omega
            · rw [← hL]
              show _ = L ++ vc x' y' :: (els x' y' (1, 1) _ ++ qb p q _ m (fneg y') x')
              rw [hL', el_left hu'.nv]
              simp
          · refine ⟨by decide, rfl, x', y', _, _, e, 2, rfl, hu'.nv, ns.1, ns.2, by omega, by decide, le_ok rfl, x', y', _, _, e, 2, rfl, hu'.nv, ns.1, ns.2, by omega, by decide, le_ok rfl, rfl, ?_, KK _ ⟨L ++ [vc x' y'] ++ L', fneg y', x', m, some (.p (.int (0 + (i : Int)))), some (.p (vc x' y')), some (.p (.bl false)), ?_, hu'.left, hr.2, by omega, ?_, ?_⟩⟩
            · show (L ++ [vc x' y']).length + 2 ≤ 1000
              rw [List.length_append, List.length_singleton]; omega
            · rw [List.append_assoc (L ++ [vc x' y']), ← el_left hu'.nv, ← hL', els_q2]; rfl
            · rw [List.length_append, List.length_append, List.length_singleton]; omega
            · rw [← hL]
              show _ = L ++ vc x' y' :: (els x' y' (1, 1) _ ++ qb p q _ m (fneg y') x')
              rw [hL', el_left hu'.nv]
              simp
          · refine ⟨by decide, rfl, x', y', _, _, e, 2, rfl, hu'.nv, ns.1, ns.2, by omega, by decide, le_ok rfl, x', y', _, _, e, 2, rfl, hu'.nv, ns.1, ns.2, by omega, by decide, le_ok rfl, x', y', _, _, e, 2, rfl, hu'.nv, ns.1, ns.2, by omega, by decide, le_ok rfl, rfl, ?_, KK _ ⟨L ++ [vc x' y'] ++ L', fneg y', x', m, some (.p (.int (0 + (i : Int)))), some (.p (vc x' y')), some (.p (.bl false)), ?_, hu'.left, hr.2, by omega, ?_, ?_⟩⟩
            · show (L ++ [vc x' y']).length + 3 ≤ 1000
              rw [List.length_append, List.length_singleton]; omega
            · rw [List.append_assoc (L ++ [vc x' y']), ← el_left hu'.nv, ← hL', els_q3]; rfl
            · rw [List.length_append, List.length_append, List.length_singleton]; omega
            · rw [← hL]
              show _ = L ++ vc x' y' :: (els x' y' (1, 1) _ ++ qb p q _ m (fneg y') x')
              rw [hL', el_left hu'.nv]
              simp
      · obtain rfl : m = 0 := by
          cases m with
          | zero => rfl
          | succ k => exact absurd hr.1 c
        by_cases c1 : 0 < (fcross x' y' p q).1
        · rw [decide_eq_true c1, if_pos rfl]
          refine ⟨x', y', p, q, e, f, rfl, hu'.nv, hv.nv, by omega, ?_⟩
          have c2 : 0 < (fdot x' y' p q).1 := (val_gt (nrm_dot hu'.nv hv.nv)).1 (not_hq hu'.nv hv.nv c).1
          have dne : ¬ (x' = p ∧ y' = q) := by
            rintro ⟨rfl, rfl⟩
            exact cross_self hu' c1
          refine ⟨le_ok rfl, ?_⟩
          show if (!L2.eqT (vc x' y') (vc p q)) = true then _ else _
          rw [eq_vc]
          rw [if_pos (by rw [decide_eq_false dne]; rfl)]
          show if (!decide (0 < (fdot x' y' p q).1)) = true then _ else _
          rw [decide_eq_true c2, if_neg (by decide)]
          exact KK _ ⟨L, x', y', 0, _, _, _, rfl, hu', hr, by omega, by omega, hL⟩
        · rw [decide_eq_false c1, if_neg (by decide)]
          have de : x' = p ∧ y' = q := un_eq hu' hv c c1
          refine ⟨le_ok rfl, ?_⟩
          show if (!L2.eqT (vc x' y') (vc p q)) = true then _ else _
          rw [eq_vc]
          rw [if_neg (by rw [decide_eq_true de]; decide)]
          exact KK _ ⟨L, x', y', 0, _, _, _, rfl, hu', hr, by omega, by omega, hL⟩
    · rintro E ⟨L, x', y', m, v4, v5, v6, rfl, hu', hr, hm', hl, hL⟩
      have hm0 : m = 0 := by
        have : m ≤ 3 - 4 := hm'
        omega
      subst hm0
      have hl9 : L.length ≤ 12 := hl
      have c : ¬ hq x' y' p q := hr
      have nl : noLs (vc x y :: qb p q s m0 x y) = true := noLs_qb p q hs m0 x y
      have hat := atI_last L (vc x' y')
      show o1 (atI (L ++ [vc x' y']) (-1)) _
      rw [hat]
      refine ⟨le_ok rfl, ?_⟩
      show if (!L2.eqT (vc x' y') (vc p q)) = true then _ else _
      rw [eq_vc]
      have e0 : qb p q s 0 x' y' = restL p q s x' y' := rfl
      rw [e0] at hL
      unfold restL at hL
      by_cases d : x' = p ∧ y' = q
      · rw [if_pos d] at hL
        rw [if_neg (by simpa using d)]
        rw [hL]
        exact ⟨nl, z⟩
      · rw [if_neg d] at hL
        rw [if_pos (by rw [decide_eq_false d]; rfl)]
        have ne := under_ne hu'.nv hv.nv c
        obtain ⟨t1, t2⟩ := sz_tng hu'.nv hv.nv ne
        have s1 := sz_dot hu'.nv hv.nv
        have s2 := sz_cross hu'.nv hv.nv
        have o : sz (1, 1) = 1 := by decide
        have s3 := sz_add (nrm_int 1) (nrm_dot hu'.nv hv.nv)
        have tm := nrm_mul t1 ns.1
        have tz := sz_mul t1 ns.1
        have nsz := ns.2
        have ee : (L ++ [vc x' y']) ++ els x' y' (tng x' y' p q) s = vc x y :: qb p q s m0 x y := by rw [← hL]; simp
        have b1 : ((fcross x' y' p q).2 * (fadd (1, 1) (fdot x' y' p q)).1).natAbs < 2 ^ 8000 := pow8 (mul_pow (sz_d _) (sz_n _)) (by omega)
        refine ⟨x', y', p, q, e, f, rfl, hu'.nv, hv.nv, by omega, x', y', p, q, e, f, rfl, hu'.nv, hv.nv, by omega, (1, 1), _, rfl, nrm_int 1, nrm_dot hu'.nv hv.nv, by omega, ?_⟩
        refine ⟨mulA (e := 2000) (pl (sz_n _) (by omega)) (pl (sz_d _) (by omega)) (by decide), mulA (e := 2000) (pl (sz_d _) (by omega)) (pl (sz_n _) (by omega)) (by decide), _, _, rfl, Int.mul_ne_zero (nrm_cross hu'.nv hv.nv).ne ne, b1, ?_⟩
        rcases hs with rfl | rfl | rfl
        · rw [els_r1 _ _ t1] at ee
          refine ⟨by decide, rfl, tng x' y' p q, _, rfl, t1, ns.1, by omega, x', y', _, _, e, _, rfl, hu'.nv, tm, tz, by omega, by decide, le_ok rfl, rfl, ?_, ?_, ?_⟩
          · show (L ++ [vc x' y']).length + 1 ≤ 1000
            rw [List.length_append, List.length_singleton]; omega
          · show noLs ((L ++ [vc x' y']) ++ [elT x' y' (fmul (1, 1) (fmul (tng x' y' p q) (1, 1)))]) = true
            rw [ee]; exact nl
          · show Q (.l ((L ++ [vc x' y']) ++ [elT x' y' (fmul (1, 1) (fmul (tng x' y' p q) (1, 1)))])) []
            rw [ee]; exact z
        · rw [els_r2 _ _ t1] at ee
          refine ⟨by decide, rfl, tng x' y' p q, _, rfl, t1, ns.1, by omega, x', y', _, _, e, _, rfl, hu'.nv, tm, tz, by omega, by decide, le_ok rfl, tng x' y' p q, _, rfl, t1, ns.1, by omega, x', y', _, _, e, _, rfl, hu'.nv, tm, tz, by omega, by decide, le_ok rfl, rfl, ?_, ?_, ?_⟩
          · show (L ++ [vc x' y']).length + 2 ≤ 1000
            rw [List.length_append, List.length_singleton]; omega
          · show noLs ((L ++ [vc x' y']) ++ [elT x' y' (fmul (1, 1) (fmul (tng x' y' p q) (1, 2))), elT x' y' (fmul (2, 1) (fmul (tng x' y' p q) (1, 2)))]) = true
            rw [ee]; exact nl
          · show Q (.l ((L ++ [vc x' y']) ++ [elT x' y' (fmul (1, 1) (fmul (tng x' y' p q) (1, 2))), elT x' y' (fmul (2, 1) (fmul (tng x' y' p q) (1, 2)))])) []
            rw [ee]; exact z
        · rw [els_r3 _ _ t1] at ee
          refine ⟨by decide, rfl, tng x' y' p q, _, rfl, t1, ns.1, by omega, x', y', _, _, e, _, rfl, hu'.nv, tm, tz, by omega, by decide, le_ok rfl, tng x' y' p q, _, rfl, t1, ns.1, by omega, x', y', _, _, e, _, rfl, hu'.nv, tm, tz, by omega, by decide, le_ok rfl, tng x' y' p q, _, rfl, t1, ns.1, by omega, x', y', _, _, e, _, rfl, hu'.nv, tm, tz, by omega, by decide, le_ok rfl, rfl, ?_, ?_, ?_⟩
          · show (L ++ [vc x' y']).length + 3 ≤ 1000
            rw [List.length_append, List.length_singleton]; omega
          · show noLs ((L ++ [vc x' y']) ++ [elT x' y' (fmul (1, 1) (fmul (tng x' y' p q) (1, 3))), elT x' y' (fmul (2, 1) (fmul (tng x' y' p q) (1, 3))), elT x' y' (fmul (3, 1) (fmul (tng x' y' p q) (1, 3)))]) = true
            rw [ee]; exact nl
          · show Q (.l ((L ++ [vc x' y']) ++ [elT x' y' (fmul (1, 1) (fmul (tng x' y' p q) (1, 3))), elT x' y' (fmul (2, 1) (fmul (tng x' y' p q) (1, 3))), elT x' y' (fmul (3, 1) (fmul (tng x' y' p q) (1, 3)))])) []
            rw [ee]; exact z
end
end My
set_option Elab.async false
set_option linter.all false
set_option maxRecDepth 100000
set_option maxHeartbeats 4000000
namespace My
open PySem L2 PyProof.Rows
section
variable {P : Program} {w : World} {K : PySem.W.Frag} {mg : Str → Option Value} {base : Heap}
theorem UnE.mir {x y : Fr} {e : Nat} (h : UnE x y e) : UnE x (fneg y) e := ⟨h.nv.back, by rw [val_neg h.nv.y, ← h.one]; grind⟩
theorem UnE.up {x y : Fr} {e f : Nat} (h : UnE x y e) (k : e ≤ f) : UnE x y f := ⟨h.nv.up k, h.one⟩
theorem UnE.tr {x y c s : Fr} {e f : Nat} (h : UnE x y e) (k : UnE c s f) : UnE (trx x y c s) (trY x y c s) (2 * (e + f) + 1) := ⟨h.nv.tr k.nv, by
  rw [val_trx h.nv k.nv, val_trY h.nv k.nv]
  have := h.one; have := k.one
  grind⟩
theorem un_little {m : Int} (h1 : 5 ≤ m) (h2 : m ≤ 22) : UnE (low (m * m - 1) (m * m + 1)) (low (2 * m) (m * m + 1)) 9 ∧ m * m + 1 ≠ 0 ∧ (m * m + 1).natAbs < 2 ^ 9 := by
  have h3 : m * m ≤ 22 * 22 := Int.mul_le_mul h2 h2 (by omega) (by omega)
  have h4 : 5 * 5 ≤ m * m := Int.mul_le_mul h1 h1 (by omega) (by omega)
  have nz : m * m + 1 ≠ 0 := by omega
  have B3 : ∀ {k : Nat}, k ≤ 500 → k < 2 ^ 9 := fun h => Nat.lt_of_le_of_lt h (by decide)
  refine ⟨⟨⟨low_nrm nz, low_nrm nz, sz_low nz (B3 (by omega)) (B3 (by omega)) (by decide), sz_low nz (B3 (by omega)) (B3 (by omega)) (by decide)⟩, ?_⟩, nz, B3 (by omega)⟩
  rw [val_low nz, val_low nz]
  have nz' : ((m * m + 1 : Int) : Rat) ≠ 0 := by exact_mod_cast nz
  push_cast at nz' ⊢
  grind
noncomputable def tTwoBy : SpT := fun as Q => ∃ (xs : List L2.T) (n : Int), as = [.b xs] ∧ Bx xs n ∧ n ≤ 800000 ∧ ∀ x y u v ys, Un x y → UnE u v 39 → ¬ (u = x ∧ v = y) → Bx ys (n + 14) → noLs ys = true → Q (.v (.tup [vc x y, vc u v])) ys
noncomputable abbrev s_two_by : Stmt := top 36
theorem sc_two_by : FnScope ["_law_box", "_law_many", "_law_little", "_law_way", "_law_one", "_law_other", "_law_x", "_law_y"] ["_law_box"] (defScope s_two_by) := ⟨rfl, rfl, rfl, by decide +kernel, rfl, by decide +kernel, by decide +kernel⟩
theorem ok_two_by {f : Addr} {fd : FuncData} (F : Fun K "_law_two_by" "_law_two_by" s_two_by f fd) (TX : Txt mg) (g_take : Fn P w K mg base 1 "_law_take" ["_law_box", "_law_many"] (spOf K tTake)) (g_unit_by : Fn P w K mg base 2 "_law_unit_by" ["_law_box"] (spOf K tUnitBy)) (g_lowest : Fn P w K mg base 1 "_law_lowest" ["_law_n", "_law_d"] (spOf K tLow)) (g_lturned : Fn P w K mg base 3 "_law_turned" ["_law_unit", "_law_by"] (spOf K tTurned))  : FnOk P w K mg base CX0 4 f fd ["_law_box"] (spOf K tTwoBy) := by
  refine F.okT sc_two_by ?len (fun cdv A outer s H E hr => (fb_cons (fs_par3 (i := 3) (j := 4) (k := 5) rfl sc_two_by.nd rfl rfl rfl (by decide) (by decide) (by decide) rfl rfl rfl (fc (fe_callB g_take hr (by omega) rfl (fc (fv 0) (fc fe_int fa_nil))) (fc (fe_callB g_unit_by hr (by omega) rfl (fc (fv 0) fa_nil)) (fc (fe_callB g_unit_by hr (by omega) rfl (fc (fv 0) fa_nil)) fa_nil))) rfl)
  (fb_cons (fs_asg (fv 4) (fg_tup (n := 2) rfl rfl (fgs_cons (fg_name (i := 6) sc_two_by.nd rfl (Or.inl rfl)) (fgs_cons (fg_name (i := 7) sc_two_by.nd rfl (Or.inl rfl)) fgs_nil))))
  (fb_cons (fs_set (i := 1) sc_two_by.nd rfl (Or.inl rfl) (fe_opI0 op_add fe_int (fe_callB g_take hr (by omega) rfl (fc (fv 0) (fc fe_int fa_nil)))))
  (fb_cons (fs_set (i := 2) sc_two_by.nd rfl (Or.inl rfl) (fe_tup (fc (fe_call g_lowest hr (by omega) rfl (fc (fe_opI0 op_sub (fe_opI op_mulA (fv 1) (fv 1)) fe_int) (fc (fe_opI0 op_add (fe_opI op_mulA (fv 1) (fv 1)) fe_int) fa_nil))) (fc (fe_call g_lowest hr (by omega) rfl (fc (fe_opI op_mulA fe_int (fv 1)) (fc (fe_opI0 op_add (fe_opI op_mulA (fv 1) (fv 1)) fe_int) fa_nil))) fa_nil))))
  (fb_cons (fs_if (ft_cp op_lt (fv 3) fe_int (nomark _)) (fb_one (fs_set (i := 5) sc_two_by.nd rfl (Or.inl rfl) (fe_ix rfl (fe_lst (fc (fe_tup (fc (fe_tup (fc (fe_neg (fe_ix rfl (fv 7) fe_int (fun _ _ => rfl))) (fc (fe_ix rfl (fv 7) fe_int (fun _ _ => rfl)) fa_nil))) (fc (fv 6) fa_nil))) (fc (fe_tup (fc (fe_tup (fc (fe_neg (fe_ix rfl (fv 6) fe_int (fun _ _ => rfl))) (fc (fe_ix rfl (fv 6) fe_int (fun _ _ => rfl)) fa_nil))) (fc (fe_tup (fc (fe_neg (fe_ix rfl (fv 7) fe_int (fun _ _ => rfl))) (fc (fe_ix rfl (fv 7) fe_int (fun _ _ => rfl)) fa_nil))) fa_nil))) (fc (fe_tup (fc (fv 7) (fc (fe_tup (fc (fe_neg (fe_ix rfl (fv 6) fe_int (fun _ _ => rfl))) (fc (fe_ix rfl (fv 6) fe_int (fun _ _ => rfl)) fa_nil))) fa_nil))) fa_nil)))) (fv 3) (fun _ _ => rfl)))) fb_nil)
  (fb_cons (fs_if (ft_eq rfl hr (fv 3) fe_int (nomark _)) (fb_one (fs_set (i := 5) sc_two_by.nd rfl (Or.inl rfl) (fe_call g_lturned hr (by omega) rfl (fc (fv 4) (fc (fv 2) fa_nil))))) fb_nil)
  (fb_cons (fs_if (ft_eq rfl hr (fv 3) fe_int (nomark _)) (fb_one (fs_set (i := 5) sc_two_by.nd rfl (Or.inl rfl) (fe_call g_lturned hr (by omega) rfl (fc (fv 4) (fc (fe_tup (fc (fe_ix rfl (fv 2) fe_int (fun _ _ => rfl)) (fc (fe_tup (fc (fe_neg (fe_ix rfl (fe_ix rfl (fv 2) fe_int (fun _ _ => rfl)) fe_int (fun _ _ => rfl))) (fc (fe_ix rfl (fe_ix rfl (fv 2) fe_int (fun _ _ => rfl)) fe_int (fun _ _ => rfl)) fa_nil))) fa_nil))) fa_nil))))) fb_nil)
  (fb_cons (fs_if (ft_eq rfl hr (fv 5) (fv 4) (nomark _)) (fb_one (fs_set (i := 5) sc_two_by.nd rfl (Or.inl rfl) (fe_tup (fc (fe_tup (fc (fe_neg (fe_ix rfl (fv 6) fe_int (fun _ _ => rfl))) (fc (fe_ix rfl (fv 6) fe_int (fun _ _ => rfl)) fa_nil))) (fc (fe_tup (fc (fe_neg (fe_ix rfl (fv 7) fe_int (fun _ _ => rfl))) (fc (fe_ix rfl (fv 7) fe_int (fun _ _ => rfl)) fa_nil))) fa_nil))))) fb_nil)
  (fb_one (fs_ret (fe_tup (fc (fv 4) (fc (fv 5) fa_nil)))))))))))))) ?rd
  case len => rintro as Q ⟨xs, n, rfl, _⟩; rfl
  case rd =>
    rintro as Q ⟨xs, n, rfl, hB, hn, q⟩
    refine ⟨xs, 8, n, rfl, hB, by omega, by decide, by decide, fun way y1 w0 w1 b1 => ?_⟩
    refine ⟨y1, n + 1, rfl, b1, by omega, fun x y y2 un b2 nl2 => ?_⟩
    refine ⟨y2, n + 1 + 6, rfl, b2, by omega, fun u v y3 un' b3 nl3 => ?_⟩
    refine ⟨y3, 18, n + 1 + 6 + 6, rfl, b3, by omega, by decide, by decide, fun g y4 g0 g1 b4 => ?_⟩
    have b4' := b4
    obtain ⟨A, B, c, rfl, _⟩ := b4
    obtain ⟨ul, nz, nb⟩ := un_little (m := 5 + g) (by omega) (by omega)
    refine ⟨mulL (by omega), mulL (by omega), _, _, rfl, nz, pow8 nb (by decide), mulL (by decide), mulL (by omega), _, _, rfl, nz, pow8 nb (by decide), ?_⟩
    generalize low ((5 + g) * (5 + g) - 1) ((5 + g) * (5 + g) + 1) = lx at ul ⊢
    generalize low (2 * (5 + g)) ((5 + g) * (5 + g) + 1) = ly at ul ⊢
    have u9 := un'.up (show 10 ≤ 39 by decide)
    apply join2 (R := fun (u v : Fr) => UnE u v 39)
    case h =>
      intro J
      show if decide (way < 3) = true then _ else _
      by_cases hw : ¬ way < 3
      · rw [decide_eq_false hw, if_neg (by decide)]
        obtain ⟨u', hu⟩ : ∃ u', u' = u := ⟨_, rfl⟩
        obtain ⟨v', hv⟩ : ∃ v', v' = v := ⟨_, rfl⟩
        rw [← hu, ← hv] at u9 ⊢
        exact J u' v' u9
      · have hw := Decidable.not_not.mp hw
        rw [decide_eq_true hw, if_pos rfl]
        obtain ⟨a, b, hat, un⟩ : ∃ a b : Fr, atI [vc (fneg y) x, vc (fneg x) (fneg y), vc y (fneg x)] way = some (vc a b) ∧ UnE a b 10 := by
          have : way = 0 ∨ way = 1 ∨ way = 2 := by omega
          rcases this with rfl | rfl | rfl
          · exact ⟨_, _, rfl, un.left⟩
          · exact ⟨_, _, rfl, un.left.left⟩
          · exact ⟨_, _, rfl, un.swap.mir⟩
        show o1 (atI [vc (fneg y) x, vc (fneg x) (fneg y), vc y (fneg x)] way) _
        rw [hat]
        exact J a b (un.up (by decide))
    intro u v u9
    apply join2 (R := fun (u v : Fr) => UnE u v 39)
    case h =>
      intro J
      refine ⟨Nat.zero_le _, ?_⟩
      show if (way == 3) = true then _ else _
      by_cases hw : ¬ way = 3
      · rw [if_neg (by simpa using hw)]
        obtain ⟨u', hu⟩ : ∃ u', u' = u := ⟨_, rfl⟩
        obtain ⟨v', hv⟩ : ∃ v', v' = v := ⟨_, rfl⟩
        rw [← hu, ← hv] at u9 ⊢
        exact J u' v' u9
      · rw [if_pos (by simpa using hw)]
        refine ⟨x, y, lx, ly, 10, 9, rfl, un.nv, ul.nv, by decide, ?_⟩
        exact J _ _ (un.tr ul)
    intro u v u9
    apply join2 (R := fun (u v : Fr) => UnE u v 39)
    case h =>
      intro J
      refine ⟨Nat.zero_le _, ?_⟩
      show if (way == 4) = true then _ else _
      by_cases hw : ¬ way = 4
      · rw [if_neg (by simpa using hw)]
        obtain ⟨u', hu⟩ : ∃ u', u' = u := ⟨_, rfl⟩
        obtain ⟨v', hv⟩ : ∃ v', v' = v := ⟨_, rfl⟩
        rw [← hu, ← hv] at u9 ⊢
        exact J u' v' u9
      · rw [if_pos (by simpa using hw)]
        refine ⟨x, y, lx, fneg ly, 10, 9, rfl, un.nv, ul.nv.back, by decide, ?_⟩
        exact J _ _ (un.tr ul.mir)
    intro u v u9
    refine ⟨le_ok rfl, ?_⟩
    show if L2.eqT (vc u v) (vc x y) = true then _ else _
    rw [eq_vc]
    by_cases d : u = x ∧ v = y
    · rw [if_pos (by simpa using d)]
      refine ⟨rfl, q x y (fneg x) (fneg y) _ un (un.left.left.up (by decide)) ?_ (b4'.mono (by omega)) rfl⟩
      rintro ⟨e1, e2⟩
      have v1 := val_neg un.nv.x
      have v2 := val_neg un.nv.y
      rw [e1] at v1; rw [e2] at v2
      have := un.one
      have z1 : val x = 0 := by grind
      have z2 : val y = 0 := by grind
      rw [z1, z2] at this
      grind
    · rw [if_neg (by simpa using d)]
      exact ⟨rfl, q x y u v _ un u9 d (b4'.mono (by omega)) rfl⟩
theorem pos_of_mul {z k : Rat} (hk : 0 < k) (h : 0 < z * k) : 0 < z := by
  rcases Rat.le_total (a := z) (b := 0) with c | c
  · have := Rat.mul_nonneg (a := -z) (b := k) (by grind) (Rat.le_of_lt hk)
    grind
  · by_cases e : z = 0
    · rw [e] at h; grind
    · grind
theorem nonneg_of_mul {z k : Rat} (hk : 0 < k) (h : 0 ≤ z * k) : 0 ≤ z := by
  rcases Rat.le_total (a := z) (b := 0) with c | c
  · by_cases e : z = 0
    · grind
    · have := Rat.mul_pos (a := -z) (b := k) (by grind) hk
      grind
  · exact c
theorem one_sq (r : Rat) : 0 < 1 + r * r := by
  have : 0 ≤ r * r := by rcases Rat.le_total (a := 0) (b := r) with c | c
                         · exact Rat.mul_nonneg c c
                         · have h := Rat.mul_nonneg (a := -r) (b := -r) (by grind) (by grind); grind
  grind
theorem turn_pos {a b c1 s1 c2 s2 : Rat} (ha : 0 ≤ a) (hab : a < b) (hb : b ≤ 1) (e1 : c1 = (1 - a * a) / (1 + a * a)) (e2 : s1 = 2 * a / (1 + a * a)) (e3 : c2 = (1 - b * b) / (1 + b * b)) (e4 : s2 = 2 * b / (1 + b * b)) : 0 < c1 * s2 - s1 * c2 ∧ 0 ≤ c1 * c2 + s1 * s2 := by
  have A := one_sq a
  have B := one_sq b
  have AB := Rat.mul_pos A B
  have h1 : c1 * (1 + a * a) = 1 - a * a := by grind
  have h2 : s1 * (1 + a * a) = 2 * a := by grind
  have h3 : c2 * (1 + b * b) = 1 - b * b := by grind
  have h4 : s2 * (1 + b * b) = 2 * b := by grind
  have p1 : 0 ≤ a * b := Rat.mul_nonneg ha (by grind)
  have p2 : 0 < (b - a) * (1 + a * b) := Rat.mul_pos (by grind) (by grind)
  have p3 : 0 ≤ (1 - a) * (1 + a) := Rat.mul_nonneg (by grind) (by grind)
  have p4 : 0 ≤ (1 - b) * (1 + b) := Rat.mul_nonneg (by grind) (by grind)
  have p5 : 0 ≤ ((1 - a) * (1 + a)) * ((1 - b) * (1 + b)) := Rat.mul_nonneg p3 p4
  constructor
  · apply pos_of_mul AB
    have : (c1 * s2 - s1 * c2) * ((1 + a * a) * (1 + b * b)) = (c1 * (1 + a * a)) * (s2 * (1 + b * b)) - (s1 * (1 + a * a)) * (c2 * (1 + b * b)) := by grind
    rw [this, h1, h2, h3, h4]
    have : (1 - a * a) * (2 * b) - 2 * a * (1 - b * b) = 2 * ((b - a) * (1 + a * b)) := by grind
    rw [this]
    grind
  · apply nonneg_of_mul AB
    have : (c1 * c2 + s1 * s2) * ((1 + a * a) * (1 + b * b)) = (c1 * (1 + a * a)) * (c2 * (1 + b * b)) + (s1 * (1 + a * a)) * (s2 * (1 + b * b)) := by grind
    rw [this, h1, h2, h3, h4]
    have : (1 - a * a) * (1 - b * b) + 2 * a * (2 * b) = ((1 - a) * (1 + a)) * ((1 - b) * (1 + b)) + 4 * (a * b) := by grind
    rw [this]
    grind
end
end My
set_option Elab.async false
set_option linter.all false
set_option maxRecDepth 100000
set_option maxHeartbeats 4000000
namespace My
open PySem L2 PyProof.Rows
section
variable {P : Program} {w : World} {K : PySem.W.Frag} {mg : Str → Option Value} {base : Heap}
structure Nb (u v : L2.T) : Prop where
  ex : ∃ a b c d : Fr, u = vc a b ∧ v = vc c d ∧ Nv a b 2500 ∧ Nv c d 2500 ∧ val c * val c + val d * val d = 1 ∧ 0 < val a * val d - val b * val c ∧ 0 ≤ val a * val c + val b * val d
noncomputable def chn : L2.T → List L2.T → Prop
  | _, [] => True
  | a, b :: l => Nb a b ∧ chn b l
noncomputable def lst : L2.T → List L2.T → L2.T
  | a, [] => a
  | _, b :: l => lst b l
theorem chn_app : ∀ {a : L2.T} {l m : List L2.T}, chn a l → chn (lst a l) m → chn a (l ++ m)
  | _, [], _, _, h => h
  | _, _ :: _, _, h, k => ⟨h.1, chn_app h.2 k⟩
theorem lst_app : ∀ (a : L2.T) (l m : List L2.T), lst a (l ++ m) = lst (lst a l) m
  | _, [], _ => rfl
  | _, b :: l, m => lst_app b l m
theorem lst_at : ∀ (a : L2.T) (l : List L2.T), ∃ L, a :: l = L ++ [lst a l]
  | a, [] => ⟨[], rfl⟩
  | a, b :: l => by obtain ⟨L, h⟩ := lst_at b l; exact ⟨a :: L, by show a :: (b :: l) = a :: (L ++ [lst b l]); rw [h]⟩
theorem nb_el {x y t1 t2 : Fr} {e : Nat} (h : UnE x y e) (he : e ≤ 100) (n1 : Nrm t1) (n2 : Nrm t2) (z1 : sz t1 ≤ 566) (z2 : sz t2 ≤ 566) (ha : 0 ≤ val t1) (hab : val t1 < val t2) (hb : val t2 ≤ 1) : Nb (elT x y t1) (elT x y t2) := by
  have v1 := (nv_ct n1).up (show _ ≤ 1133 by omega)
  have v2 := (nv_ct n2).up (show _ ≤ 1133 by omega)
  obtain ⟨p1, p2⟩ := turn_pos ha hab hb (val_ct n1) (val_st n1) (val_ct n2) (val_st n2)
  have o2 : val (cT t2) * val (cT t2) + val (sT t2) * val (sT t2) = 1 := by
    rw [val_ct n2, val_st n2]
    have := sq_pos1 (val t2)
    grind
  have o := h.one
  refine ⟨_, _, _, _, rfl, rfl, (h.nv.tr v1).up (by omega), (h.nv.tr v2).up (by omega), ?_, ?_, ?_⟩
  · rw [val_trx h.nv v2, val_trY h.nv v2]
    grind
  · rw [val_trx h.nv v2, val_trY h.nv v2, val_trx h.nv v1, val_trY h.nv v1]
    generalize val (cT t1) = c1 at *; generalize val (sT t1) = s1 at *; generalize val (cT t2) = c2 at *; generalize val (sT t2) = s2 at *
    have : (val x * c1 - val y * s1) * (val x * s2 + val y * c2) - (val x * s1 + val y * c1) * (val x * c2 - val y * s2) = (val x * val x + val y * val y) * (c1 * s2 - s1 * c2) := by grind
    rw [this, o]; grind
  · rw [val_trx h.nv v2, val_trY h.nv v2, val_trx h.nv v1, val_trY h.nv v1]
    generalize val (cT t1) = c1 at *; generalize val (sT t1) = s1 at *; generalize val (cT t2) = c2 at *; generalize val (sT t2) = s2 at *
    have : (val x * c1 - val y * s1) * (val x * c2 - val y * s2) + (val x * s1 + val y * c1) * (val x * s2 + val y * c2) = (val x * val x + val y * val y) * (c1 * c2 + s1 * s2) := by grind
    rw [this, o]; grind
theorem el_zero {x y : Fr} {e : Nat} (h : Nv x y e) : elT x y (0, 1) = vc x y := by
  have e1 : cT (0, 1) = (1, 1) := by decide
  have e2 : sT (0, 1) = (0, 1) := by decide
  unfold elT
  rw [e1, e2]
  have e8 : trx x y (1, 1) (0, 1) = x := val_inj (h.tr nv10).x h.x (by rw [val_trx h nv10, val10, val01]; grind)
  have e9 : trY x y (1, 1) (0, 1) = y := val_inj (h.tr nv10).y h.y (by rw [val_trY h nv10, val10, val01]; grind)
  rw [e8, e9]
theorem chn_els {x y t : Fr} {e : Nat} {s : Int} (h : UnE x y e) (he : e ≤ 100) (n : Nrm t) (z : sz t ≤ 564) (t0 : 0 < val t) (t1 : val t ≤ 1) (hs : s = 1 ∨ s = 2 ∨ s = 3) : chn (vc x y) (els x y t s) ∧ lst (vc x y) (els x y t s) = elT x y t := by
  have k : ∀ {k s : Int}, k.natAbs ≤ 3 → 1 ≤ s ∧ s ≤ 3 → Nrm (fmul t (low k s)) ∧ sz (fmul t (low k s)) ≤ 566 ∧ val (fmul t (low k s)) * (s : Rat) = val t * (k : Rat) := fun {k s} h1 h2 => by
    obtain ⟨n1, n2⟩ := sz_ks h1 h2
    have := sz_mul n n1
    have nz : s ≠ 0 := by omega
    refine ⟨nrm_mul n n1, by omega, ?_⟩
    rw [val_mul n n1, val_low nz]
    have : (s : Rat) ≠ 0 := by exact_mod_cast nz
    grind
  have b0 : Nrm ((0 : Int), 1) := nrm_int 0
  have z0 : sz ((0 : Int), 1) ≤ 566 := by decide
  rcases hs with rfl | rfl | rfl
  · obtain ⟨a1, a2, a3⟩ := k (k := 1) (s := 1) (by decide) (by decide)
    refine ⟨⟨?_, trivial⟩, ?_⟩
    · rw [← el_zero h.nv]
      exact nb_el h he b0 a1 z0 a2 (by rw [val01]; grind) (by rw [val01]; grind) (by grind)
    · show elT x y (fmul t (low 1 1)) = _
      rw [val_inj a1 n (by grind)]
  · obtain ⟨a1, a2, a3⟩ := k (k := 1) (s := 2) (by decide) (by decide)
    obtain ⟨b1, b2, b3⟩ := k (k := 2) (s := 2) (by decide) (by decide)
    refine ⟨⟨?_, ?_, trivial⟩, ?_⟩
    · rw [← el_zero h.nv]
      exact nb_el h he b0 a1 z0 a2 (by rw [val01]; grind) (by rw [val01]; grind) (by grind)
    · exact nb_el h he a1 b1 a2 b2 (by grind) (by grind) (by grind)
    · show elT x y (fmul t (low 2 2)) = _
      rw [val_inj b1 n (by grind)]
  · obtain ⟨a1, a2, a3⟩ := k (k := 1) (s := 3) (by decide) (by decide)
    obtain ⟨b1, b2, b3⟩ := k (k := 2) (s := 3) (by decide) (by decide)
    obtain ⟨c1, c2, c3⟩ := k (k := 3) (s := 3) (by decide) (by decide)
    refine ⟨⟨?_, ?_, ?_, trivial⟩, ?_⟩
    · rw [← el_zero h.nv]
      exact nb_el h he b0 a1 z0 a2 (by rw [val01]; grind) (by rw [val01]; grind) (by grind)
    · exact nb_el h he a1 b1 a2 b2 (by grind) (by grind) (by grind)
    · exact nb_el h he b1 c1 b2 c2 (by grind) (by grind) (by grind)
    · show elT x y (fmul t (low 3 3)) = _
      rw [val_inj c1 n (by grind)]
theorem tng_facts {x y p q : Fr} {e f : Nat} (h : UnE x y e) (k : UnE p q f) (c : ¬ hq x y p q) (d : ¬ (x = p ∧ y = q)) : 0 < val (tng x y p q) ∧ val (tng x y p q) ≤ 1 ∧ elT x y (tng x y p q) = vc p q := by
  have hh := not_hq h.nv k.nv c
  have ne := under_ne h.nv k.nv c
  have c0 : 0 < val (fcross x y p q) := (val_gt (nrm_cross h.nv k.nv)).2 (by
    rcases Int.lt_or_le 0 (fcross x y p q).1 with a | a
    · exact a
    · exact absurd (un_eq h k c (by omega)) d)
  have hd := hh.1
  have nt := (sz_tng h.nv k.nv ne).1
  have vt : val (tng x y p q) = val (fcross x y p q) / (1 + val (fdot x y p q)) := by
    unfold tng
    rw [val_over (nrm_cross h.nv k.nv) (nrm_add (nrm_int 1) (nrm_dot h.nv k.nv)) ne, val_add (nrm_int 1) (nrm_dot h.nv k.nv), val10]
  have one : val (fdot x y p q) * val (fdot x y p q) + val (fcross x y p q) * val (fcross x y p q) = 1 := by
    rw [val_dot h.nv k.nv, val_cross h.nv k.nv]
    have := h.one; have := k.one
    grind
  have hD := val_dot h.nv k.nv
  have hC := val_cross h.nv k.nv
  have wt := nv_ct nt
  have vc1 := val_ct nt
  have vs1 := val_st nt
  have zz := sq_pos1 (val (tng x y p q))
  have ex : val p = val x * val (fdot x y p q) - val y * val (fcross x y p q) := by rw [hD, hC]; have := h.one; grind
  have ey : val q = val x * val (fcross x y p q) + val y * val (fdot x y p q) := by rw [hD, hC]; have := h.one; grind
  have t1 : val (tng x y p q) * (1 + val (fdot x y p q)) = val (fcross x y p q) := by
    rw [vt]
    have n1 : 1 + val (fdot x y p q) ≠ 0 := by grind
    clear vt vc1 vs1 zz ex ey hD hC one
    exact Rat.div_mul_cancel n1
  have cle : val (fcross x y p q) ≤ 1 := by
    rcases Rat.le_total (a := val (fcross x y p q)) (b := 1) with a | a
    · exact a
    · have p1 := Rat.mul_nonneg (a := val (fcross x y p q) - 1) (b := val (fcross x y p q) + 1) (by grind) (by grind)
      have p2 := Rat.mul_pos hd hd
      grind
  have t0 : 0 < val (tng x y p q) := pos_of_mul (k := 1 + val (fdot x y p q)) (by grind) (by rw [t1]; exact c0)
  have t2 : 0 ≤ 1 - val (tng x y p q) := nonneg_of_mul (k := 1 + val (fdot x y p q)) (by grind) (by
    have : (1 - val (tng x y p q)) * (1 + val (fdot x y p q)) = 1 + val (fdot x y p q) - val (fcross x y p q) := by grind
    rw [this]; grind)
  refine ⟨t0, by grind, ?_⟩
  have g1 : val (cT (tng x y p q)) = val (fdot x y p q) := by
    rw [vc1]
    generalize val (tng x y p q) = t at *; generalize val (fdot x y p q) = D at *; generalize val (fcross x y p q) = C at *
    have : (1 - t * t - D * (1 + t * t)) * ((1 + D) * (1 + D)) = 0 := by grind
    have nz : (1 + D) * (1 + D) ≠ 0 := by have := Rat.mul_pos (a := 1 + D) (b := 1 + D) (by grind) (by grind); grind
    rcases Rat.mul_eq_zero.mp this with a | a
    · grind
    · exact absurd a nz
  have g2 : val (sT (tng x y p q)) = val (fcross x y p q) := by
    rw [vs1]
    generalize val (tng x y p q) = t at *; generalize val (fdot x y p q) = D at *; generalize val (fcross x y p q) = C at *
    have : (2 * t - C * (1 + t * t)) * ((1 + D) * (1 + D)) = 0 := by grind
    have nz : (1 + D) * (1 + D) ≠ 0 := by have := Rat.mul_pos (a := 1 + D) (b := 1 + D) (by grind) (by grind); grind
    rcases Rat.mul_eq_zero.mp this with a | a
    · grind
    · exact absurd a nz
  have f1 : trx x y (cT (tng x y p q)) (sT (tng x y p q)) = p := val_inj (h.nv.tr wt).x k.nv.x (by rw [val_trx h.nv wt, g1, g2, ex])
  have f2 : trY x y (cT (tng x y p q)) (sT (tng x y p q)) = q := val_inj (h.nv.tr wt).y k.nv.y (by rw [val_trY h.nv wt, g1, g2, ey])
  unfold elT
  rw [f1, f2]
theorem chn_qb {p q : Fr} {f e : Nat} {s : Int} (k : UnE p q f) (hee : e ≤ 100) (he : e + f ≤ 140) (hs : s = 1 ∨ s = 2 ∨ s = 3) : ∀ (m : Nat) (x y : Fr), UnE x y e → Rem p q m x y → chn (vc x y) (qb p q s m x y) ∧ lst (vc x y) (qb p q s m x y) = vc p q
  | 0, x, y, h, r => by
    show chn (vc x y) (restL p q s x y) ∧ lst (vc x y) (restL p q s x y) = vc p q
    unfold restL
    by_cases d : x = p ∧ y = q
    · rw [if_pos d]
      exact ⟨trivial, by rw [d.1, d.2]; rfl⟩
    · rw [if_neg d]
      obtain ⟨t0, t1, te⟩ := tng_facts h k r d
      obtain ⟨z1, z2⟩ := sz_tng h.nv k.nv (under_ne h.nv k.nv r)
      have := chn_els h hee z1 (by omega) t0 t1 hs
      rw [te] at this
      exact this
  | m + 1, x, y, h, r => by
    obtain ⟨a1, a2⟩ := chn_els (t := (1, 1)) h hee (nrm_int 1) (by decide) (by rw [val10]; grind) (by rw [val10]; grind) hs
    rw [el_left h.nv] at a2
    obtain ⟨b1, b2⟩ := chn_qb k hee he hs m (fneg y) x h.left r.2
    rw [← a2] at b1 b2
    exact ⟨chn_app a1 b1, by rw [← b2]; exact lst_app _ _ _⟩
noncomputable def AllV (l : List L2.T) : Prop := ∀ t ∈ l, ∃ a b, t = vc a b
theorem allV_els (x y t : Fr) (s : Int) : AllV (els x y t s) := fun z hz => by
  obtain ⟨k, _, rfl⟩ := List.mem_map.mp hz
  exact ⟨_, _, rfl⟩
theorem allV_qb (p q : Fr) (s : Int) : ∀ (m : Nat) (x y : Fr), AllV (qb p q s m x y)
  | 0, x, y => fun z hz => by
    have hz : z ∈ restL p q s x y := hz
    unfold restL at hz
    split at hz
    · cases hz
    · exact allV_els _ _ _ _ z hz
  | m + 1, x, y => fun z hz => by
    rcases List.mem_append.mp hz with h | h
    · exact allV_els _ _ _ _ z h
    · exact allV_qb p q s m _ _ z h
theorem len_qb {s : Int} (p q : Fr) (hs : s = 1 ∨ s = 2 ∨ s = 3) : ∀ (m : Nat) (x y : Fr), (qb p q s m x y).length ≤ 3 * m + 3
  | 0, x, y => by
    show (restL p q s x y).length ≤ 3
    unfold restL
    split
    · decide
    · exact len_els _ _ _ hs
  | m + 1, x, y => by
    have := len_els x y (1, 1) hs
    have := len_qb p q hs m (fneg y) x
    show (els x y (1, 1) s ++ qb p q s m (fneg y) x).length ≤ _
    rw [List.length_append]
    omega
end
end My
set_option Elab.async false
set_option linter.all false
set_option maxRecDepth 100000
set_option maxHeartbeats 4000000
namespace My
open PySem L2 PyProof.Rows
section
variable {P : Program} {w : World} {K : PySem.W.Frag} {mg : Str → Option Value} {base : Heap}
noncomputable def key (D C : Rat) : Rat := if 0 ≤ C then 1 - D else 3 + D
noncomputable def cx : L2.T → Fr × Fr
  | .tup [.tup [.int a, .int b], .tup [.int c, .int d]] => ((a, b), (c, d))
  | _ => ((0, 1), (0, 1))
theorem cx_vc (a b : Fr) : cx (vc a b) = (a, b) := rfl
noncomputable def kf (x y : Fr) (t : L2.T) : Rat := key (val x * val (cx t).1 + val y * val (cx t).2) (val x * val (cx t).2 - val y * val (cx t).1)
theorem kf_vc (x y a b : Fr) : kf x y (vc a b) = key (val x * val a + val y * val b) (val x * val b - val y * val a) := rfl
noncomputable def srt (k : L2.T → Rat) : L2.T → List L2.T → Prop
  | _, [] => True
  | a, b :: l => k a < k b ∧ srt k b l
theorem srt_app {k : L2.T → Rat} : ∀ {a : L2.T} {l m : List L2.T}, srt k a l → srt k (lst a l) m → srt k a (l ++ m)
  | _, [], _, _, h => h
  | _, _ :: _, _, h, g => ⟨h.1, srt_app h.2 g⟩
theorem srt_last {k : L2.T → Rat} : ∀ {a : L2.T} {l : List L2.T}, srt k a l → ∀ {i : Nat} {u : L2.T}, (a :: l)[i]? = some u → i < l.length → k u < k (lst a l)
  | a, [], _, i, u, _, h => by simp at h
  | a, [b], h, 0, u, e, _ => by cases e; exact h.1
  | a, b :: c :: l, h, 0, u, e, _ => by
    cases e
    have := srt_last (a := b) (l := c :: l) h.2 (i := 0) rfl (by simp)
    have h1 := h.1
    show k a < k (lst b (c :: l))
    grind
  | a, b :: l, h, i + 1, u, e, hi => srt_last (a := b) (l := l) h.2 e (by simpa using hi)
noncomputable def At (j : Nat) (D C : Rat) : Prop := (j = 0 ∧ D = 1 ∧ C = 0) ∨ (j = 1 ∧ D = 0 ∧ C = 1) ∨ (j = 2 ∧ D = -1 ∧ C = 0) ∨ (j = 3 ∧ D = 0 ∧ C = -1)
noncomputable def part (j : Nat) (a : Rat) : Rat := if j % 2 = 0 then 1 - (1 - a * a) / (1 + a * a) else 2 * a / (1 + a * a)
theorem part_lt {a b : Rat} (j : Nat) (ha : 0 ≤ a) (hab : a < b) (hb : b ≤ 1) : part j a < part j b := by
  have A := one_sq a
  have B := one_sq b
  have AB := Rat.mul_pos A B
  have p0 : 0 ≤ a * (1 - b) := Rat.mul_nonneg ha (by grind)
  have p00 : 0 < 1 - a * b := by have : 1 - a * b = (1 - a) + a * (1 - b) := by grind
                                 rw [this]; grind
  have p1 : 0 < (b - a) * (1 - a * b) := Rat.mul_pos (by grind) p00
  have p2 : 0 < (b - a) * (b + a) := Rat.mul_pos (by grind) (by grind)
  have e1 : (1 - a * a) / (1 + a * a) * (1 + a * a) = 1 - a * a := Rat.div_mul_cancel (by grind)
  have e2 : (1 - b * b) / (1 + b * b) * (1 + b * b) = 1 - b * b := Rat.div_mul_cancel (by grind)
  have e3 : 2 * a / (1 + a * a) * (1 + a * a) = 2 * a := Rat.div_mul_cancel (by grind)
  have e4 : 2 * b / (1 + b * b) * (1 + b * b) = 2 * b := Rat.div_mul_cancel (by grind)
  unfold part
  generalize (1 - a * a) / (1 + a * a) = c1 at *; generalize (1 - b * b) / (1 + b * b) = c2 at *
  generalize 2 * a / (1 + a * a) = s1 at *; generalize 2 * b / (1 + b * b) = s2 at *
  split
  · have : 0 < (1 - c2) - (1 - c1) := pos_of_mul AB (by
      have : ((1 - c2) - (1 - c1)) * ((1 + a * a) * (1 + b * b)) = (c1 * (1 + a * a)) * (1 + b * b) - (c2 * (1 + b * b)) * (1 + a * a) := by grind
      rw [this, e1, e2]
      have : (1 - a * a) * (1 + b * b) - (1 - b * b) * (1 + a * a) = 2 * ((b - a) * (b + a)) := by grind
      rw [this]; grind)
    grind
  · have : 0 < s2 - s1 := pos_of_mul AB (by
      have : (s2 - s1) * ((1 + a * a) * (1 + b * b)) = (s2 * (1 + b * b)) * (1 + a * a) - (s1 * (1 + a * a)) * (1 + b * b) := by grind
      rw [this, e3, e4]
      have : 2 * b * (1 + a * a) - 2 * a * (1 + b * b) = 2 * ((b - a) * (1 - a * b)) := by grind
      rw [this]; grind)
    grind
theorem key_el {x y p q t : Fr} {e f j : Nat} (h : UnE x y e) (k : UnE p q f) (hj : At j (val x * val p + val y * val q) (val x * val q - val y * val p)) (n : Nrm t) (t0 : 0 ≤ val t) (t1 : val t ≤ 1) (t3 : j = 3 → val t < 1) : kf x y (elT p q t) = (j : Rat) + part j (val t) := by
  have w := nv_ct n
  have A := one_sq (val t)
  unfold elT
  rw [kf_vc, val_trx k.nv w, val_trY k.nv w]
  have e1 : val (cT t) * (1 + val t * val t) = 1 - val t * val t := by rw [val_ct n]; exact Rat.div_mul_cancel (by grind)
  have e2 : val (sT t) * (1 + val t * val t) = 2 * val t := by rw [val_st n]; exact Rat.div_mul_cancel (by grind)
  have p3 : 0 ≤ (1 - val t) * (1 + val t) := Rat.mul_nonneg (by grind) (by grind)
  have c0 : 0 ≤ val (cT t) := nonneg_of_mul A (by rw [e1]; grind)
  have s0 : 0 ≤ val (sT t) := nonneg_of_mul A (by rw [e2]; grind)
  have cc : j = 3 → 0 < val (cT t) := fun h => pos_of_mul A (by
    rw [e1]
    have := t3 h
    have := Rat.mul_pos (a := 1 - val t) (b := 1 + val t) (by grind) (by grind)
    grind)
  have gD : val x * (val p * val (cT t) - val q * val (sT t)) + val y * (val p * val (sT t) + val q * val (cT t)) = val (cT t) * (val x * val p + val y * val q) - val (sT t) * (val x * val q - val y * val p) := by grind
  have gC : val x * (val p * val (sT t) + val q * val (cT t)) - val y * (val p * val (cT t) - val q * val (sT t)) = val (sT t) * (val x * val p + val y * val q) + val (cT t) * (val x * val q - val y * val p) := by grind
  rw [gD, gC]
  unfold part
  rw [← val_ct n, ← val_st n]
  generalize val x * val p + val y * val q = D at *; generalize val x * val q - val y * val p = C at *
  unfold key
  rcases hj with ⟨rfl, rfl, rfl⟩ | ⟨rfl, rfl, rfl⟩ | ⟨rfl, rfl, rfl⟩ | ⟨rfl, rfl, rfl⟩
  · rw [if_pos (by grind), if_pos (by decide)]; grind
  · rw [if_pos (by grind), if_neg (by decide)]; grind
  · by_cases z : val (sT t) = 0
    · have z1 : val t = 0 := by rw [z] at e2; grind
      rw [z1] at e1
      rw [if_pos (by grind), if_pos (by decide)]; grind
    · rw [if_neg (by grind), if_pos (by decide)]; grind
  · have := cc rfl
    rw [if_neg (by grind), if_neg (by decide)]; grind
theorem srt_els {x y p q t : Fr} {e f j : Nat} {s : Int} (h : UnE x y e) (k : UnE p q f) (hj : At j (val x * val p + val y * val q) (val x * val q - val y * val p)) (n : Nrm t) (z : sz t ≤ 564) (t0 : 0 < val t) (t1 : val t ≤ 1) (t3 : j = 3 → val t < 1) (hs : s = 1 ∨ s = 2 ∨ s = 3) : srt (kf x y) (vc p q) (els p q t s) := by
  have kk : ∀ {k s : Int}, k.natAbs ≤ 3 → 1 ≤ s ∧ s ≤ 3 → Nrm (fmul t (low k s)) ∧ val (fmul t (low k s)) * (s : Rat) = val t * (k : Rat) := fun {k s} h1 h2 => by
    obtain ⟨n1, n2⟩ := sz_ks h1 h2
    have nz : s ≠ 0 := by omega
    refine ⟨nrm_mul n n1, ?_⟩
    rw [val_mul n n1, val_low nz]
    have : (s : Rat) ≠ 0 := by exact_mod_cast nz
    grind
  have b0 : Nrm ((0 : Int), 1) := nrm_int 0
  have step : ∀ {t1 t2 : Fr}, Nrm t1 → Nrm t2 → 0 ≤ val t1 → val t1 < val t2 → val t2 ≤ val t → kf x y (elT p q t1) < kf x y (elT p q t2) := fun {a b} na nb a0 ab bt => by
    rw [key_el h k hj na a0 (by grind) (fun z => by have := t3 z; grind), key_el h k hj nb (by grind) (by grind) (fun z => by have := t3 z; grind)]
    have := part_lt j a0 ab (by grind)
    grind
  have zero : ∀ {t2 : Fr}, Nrm t2 → 0 < val t2 → val t2 ≤ val t → kf x y (vc p q) < kf x y (elT p q t2) := fun {b} nb ab bt => by
    rw [← el_zero k.nv]
    exact step b0 nb (by rw [val01]; grind) (by rw [val01]; exact ab) bt
  rcases hs with rfl | rfl | rfl
  · obtain ⟨a1, a3⟩ := kk (k := 1) (s := 1) (by decide) (by decide)
    exact ⟨zero a1 (by grind) (by grind), trivial⟩
  · obtain ⟨a1, a3⟩ := kk (k := 1) (s := 2) (by decide) (by decide)
    obtain ⟨b1, b3⟩ := kk (k := 2) (s := 2) (by decide) (by decide)
    exact ⟨zero a1 (by grind) (by grind), step a1 b1 (by grind) (by grind) (by grind), trivial⟩
  · obtain ⟨a1, a3⟩ := kk (k := 1) (s := 3) (by decide) (by decide)
    obtain ⟨b1, b3⟩ := kk (k := 2) (s := 3) (by decide) (by decide)
    obtain ⟨c1, c3⟩ := kk (k := 3) (s := 3) (by decide) (by decide)
    exact ⟨zero a1 (by grind) (by grind), step a1 b1 (by grind) (by grind) (by grind), step b1 c1 (by grind) (by grind) (by grind), trivial⟩
theorem tng_lt {x y p q : Fr} {e f : Nat} (h : UnE x y e) (k : UnE p q f) (c : ¬ hq x y p q) (d : ¬ (x = p ∧ y = q)) : val (tng x y p q) < 1 := by
  have hh := not_hq h.nv k.nv c
  have ne := under_ne h.nv k.nv c
  have hd := hh.1
  have one : val (fdot x y p q) * val (fdot x y p q) + val (fcross x y p q) * val (fcross x y p q) = 1 := by
    rw [val_dot h.nv k.nv, val_cross h.nv k.nv]
    have := h.one; have := k.one
    grind
  have vt : val (tng x y p q) = val (fcross x y p q) / (1 + val (fdot x y p q)) := by
    unfold tng
    rw [val_over (nrm_cross h.nv k.nv) (nrm_add (nrm_int 1) (nrm_dot h.nv k.nv)) ne, val_add (nrm_int 1) (nrm_dot h.nv k.nv), val10]
  have t1 : val (tng x y p q) * (1 + val (fdot x y p q)) = val (fcross x y p q) := by
    rw [vt]
    exact Rat.div_mul_cancel (by grind)
  have cle : val (fcross x y p q) ≤ 1 := by
    rcases Rat.le_total (a := val (fcross x y p q)) (b := 1) with a | a
    · exact a
    · have p1 := Rat.mul_nonneg (a := val (fcross x y p q) - 1) (b := val (fcross x y p q) + 1) (by grind) (by grind)
      have p2 := Rat.mul_pos hd hd
      grind
  have : 0 < 1 - val (tng x y p q) := pos_of_mul (k := 1 + val (fdot x y p q)) (by grind) (by
    have : (1 - val (tng x y p q)) * (1 + val (fdot x y p q)) = 1 + val (fdot x y p q) - val (fcross x y p q) := by grind
    rw [this]; grind)
  grind
theorem at_next {x y p q : Fr} {e f j : Nat} (h : UnE x y e) (k : UnE p q f) (hj : At j (val x * val p + val y * val q) (val x * val q - val y * val p)) (j2 : j ≤ 2) : At (j + 1) (val x * val (fneg q) + val y * val p) (val x * val p - val y * val (fneg q)) := by
  rw [val_neg k.nv.y]
  have e1 : val x * -val q + val y * val p = -(val x * val q - val y * val p) := by grind
  have e2 : val x * val p - val y * -val q = val x * val p + val y * val q := by grind
  rw [e1, e2]
  generalize val x * val p + val y * val q = D at *; generalize val x * val q - val y * val p = C at *
  rcases hj with ⟨rfl, rfl, rfl⟩ | ⟨rfl, rfl, rfl⟩ | ⟨rfl, rfl, rfl⟩ | ⟨rfl, rfl, rfl⟩
  · exact .inr (.inl ⟨rfl, by grind, rfl⟩)
  · exact .inr (.inr (.inl ⟨rfl, by grind, rfl⟩))
  · exact .inr (.inr (.inr ⟨rfl, by grind, rfl⟩))
  · omega
theorem srt_qb {x y p q : Fr} {e f g : Nat} {s : Int} (h : UnE x y e) (k : UnE p q f) (hee : g ≤ 100) (he : g + f ≤ 140) (hs : s = 1 ∨ s = 2 ∨ s = 3) : ∀ (m j : Nat) (a b : Fr), UnE a b g → j + m ≤ 3 → At j (val x * val a + val y * val b) (val x * val b - val y * val a) → Rem p q m a b → srt (kf x y) (vc a b) (qb p q s m a b)
  | 0, j, a, b, u, hm, hj, r => by
    show srt (kf x y) (vc a b) (restL p q s a b)
    unfold restL
    by_cases d : a = p ∧ b = q
    · rw [if_pos d]; trivial
    · rw [if_neg d]
      obtain ⟨t0, t1, te⟩ := tng_facts u k r d
      obtain ⟨z1, z2⟩ := sz_tng u.nv k.nv (under_ne u.nv k.nv r)
      exact srt_els h u hj z1 (by omega) t0 t1 (fun _ => tng_lt u k r d) hs
  | m + 1, j, a, b, u, hm, hj, r => by
    have s1 := srt_els (t := (1, 1)) h u hj (nrm_int 1) (by decide) (by rw [val10]; grind) (by rw [val10]; grind) (fun z => by omega) hs
    have a2 := (chn_els (t := (1, 1)) u hee (nrm_int 1) (by decide) (by rw [val10]; grind) (by rw [val10]; grind) hs).2
    rw [el_left u.nv] at a2
    have s2 := srt_qb h k hee he hs m (j + 1) (fneg b) a u.left (by omega) (at_next h u hj (by omega)) r.2
    rw [← a2] at s2
    exact srt_app s1 s2
end
end My
set_option Elab.async false
set_option linter.all false
set_option maxRecDepth 100000
set_option maxHeartbeats 4000000
namespace My
open PySem L2 PyProof.Rows
section
variable {P : Program} {w : World} {K : PySem.W.Frag} {mg : Str → Option Value} {base : Heap}
noncomputable def tCmp : SpT := fun as Q => ∃ x y : Fr, as = [.v (fr x), .v (fr y)] ∧ Nrm x ∧ Nrm y ∧ sz x ≤ 7000 ∧ sz y ≤ 7000 ∧ ∀ r : Int, (r < 0 ↔ val x < val y) → Q (.v (.int r)) []
theorem cmp_iff {x y : Fr} (hx : Nrm x) (hy : Nrm y) : x.1 * y.2 < y.1 * x.2 ↔ val x < val y := by
  have e := val_sub hx hy
  have n := nrm_sub hx hy
  have l := val_lt n
  have dd := mul_ne hx hy
  have v := val_low (n := x.1 * y.2 - y.1 * x.2) dd
  have s : (fsub x y).1 < 0 ↔ x.1 * y.2 - y.1 * x.2 < 0 := by
    have c := low_cross (n := x.1 * y.2 - y.1 * x.2) dd
    have d1 := (low_facts (n := x.1 * y.2 - y.1 * x.2) dd).2.1
    have d2 : 0 < x.2 * y.2 := by
      have h1 : 1 * 1 ≤ x.2 * y.2 := Int.mul_le_mul hx.d hy.d (by decide) (by have := hx.d; omega)
      omega
    show lowN _ _ < 0 ↔ _
    generalize lowN (x.1 * y.2 - y.1 * x.2) (x.2 * y.2) = N at *
    generalize lowD (x.1 * y.2 - y.1 * x.2) (x.2 * y.2) = D at *
    generalize x.1 * y.2 - y.1 * x.2 = A at *
    generalize x.2 * y.2 = B at *
    constructor
    · intro h
      have : N * B < 0 := Int.mul_neg_of_neg_of_pos h d2
      rw [c] at this
      rcases Int.lt_or_le A 0 with a | a
      · exact a
      · have := Int.mul_nonneg a (show 0 ≤ D by omega); omega
    · intro h
      have : A * D < 0 := Int.mul_neg_of_neg_of_pos h (by omega)
      rw [← c] at this
      rcases Int.lt_or_le N 0 with a | a
      · exact a
      · have := Int.mul_nonneg a (show 0 ≤ B by omega); omega
  rw [e] at l
  constructor
  · intro h
    have := l.2 (s.2 (by omega))
    grind
  · intro h
    have := s.1 (l.1 (by grind))
    omega
noncomputable abbrev s_compared : Stmt := top 7
theorem sc_compared : FnScope ["one", "other", "first", "second"] ["one", "other"] (defScope s_compared) := ⟨rfl, rfl, rfl, by decide +kernel, rfl, by decide +kernel, by decide +kernel⟩
theorem ok_compared {f : Addr} {fd : FuncData} (F : Fun K "compared" "compared" s_compared f fd) (TX : Txt mg)   : FnOk P w K mg base CX0 1 f fd ["one", "other"] (spOf K tCmp) := by
  refine F.okT sc_compared ?len (fun cdv A outer s H E hr => (fb_cons (fs_set (i := 2) sc_compared.nd rfl (Or.inl rfl) (fe_opI op_mulA (fe_ix rfl (fv 0) fe_int (fun _ _ => rfl)) (fe_ix rfl (fv 1) fe_int (fun _ _ => rfl))))
  (fb_cons (fs_set (i := 3) sc_compared.nd rfl (Or.inl rfl) (fe_opI op_mulA (fe_ix rfl (fv 1) fe_int (fun _ _ => rfl)) (fe_ix rfl (fv 0) fe_int (fun _ _ => rfl))))
  (fb_cons (fs_if (ft_cp op_lt (fv 2) (fv 3) (nomark _)) (fb_one (fs_ret (fe_neg fe_int))) fb_nil)
  (fb_cons (fs_if (ft_cp op_gt (fv 2) (fv 3) (nomark _)) (fb_one (fs_ret fe_int)) fb_nil)
  (fb_one (fs_ret fe_int))))))) ?rd
  case len => rintro as Q ⟨x, y, rfl, _⟩; rfl
  case rd =>
    rintro as Q ⟨x, y, rfl, hx, hy, s1, s2, z⟩
    have ci := cmp_iff hx hy
    refine ⟨mulA (e := 7000) (pl (sz_n x) (by omega)) (pl (sz_d y) (by omega)) (by decide), mulA (e := 7000) (pl (sz_n y) (by omega)) (pl (sz_d x) (by omega)) (by decide), ?_⟩
    show if decide (x.1 * y.2 < y.1 * x.2) = true then _ else _
    by_cases c : x.1 * y.2 < y.1 * x.2
    · rw [decide_eq_true c, if_pos rfl]
      exact ⟨rfl, z (-1) ⟨fun _ => ci.1 c, fun _ => by decide⟩⟩
    · rw [decide_eq_false c, if_neg (by decide)]
      have nc : ¬ val x < val y := fun h => c (ci.2 h)
      show if decide (y.1 * x.2 < x.1 * y.2) = true then _ else _
      by_cases c' : y.1 * x.2 < x.1 * y.2
      · rw [decide_eq_true c', if_pos rfl]
        exact ⟨rfl, z 1 ⟨fun h => by omega, fun h => absurd h nc⟩⟩
      · rw [decide_eq_false c', if_neg (by decide)]
        exact ⟨rfl, z 0 ⟨fun h => by omega, fun h => absurd h nc⟩⟩
noncomputable def tTs : SpT := fun as Q => ∃ (x y p q : Fr) (e f : Nat), as = [.v (vc x y), .v (vc p q)] ∧ Nv x y e ∧ Nv p q f ∧ e + f ≤ 3000 ∧ ∀ r : Fr, Nrm r → sz r ≤ 2 * (e + f) + 4 → val r = kf x y (vc p q) → Q (.v (fr r)) []
noncomputable abbrev s_turn_size : Stmt := top 19
theorem sc_turn_size : FnScope ["one", "other"] ["one", "other"] (defScope s_turn_size) := ⟨rfl, rfl, rfl, by decide +kernel, rfl, by decide +kernel, by decide +kernel⟩
theorem ok_turn_size {f : Addr} {fd : FuncData} (F : Fun K "turn_size" "turn_size" s_turn_size f fd) (TX : Txt mg) (g_cross : Fn P w K mg base 4 "cross" ["one", "other"] (spOf K (tVV fcross))) (g_dot : Fn P w K mg base 4 "dot" ["one", "other"] (spOf K (tVV fdot))) (g_taken : Fn P w K mg base 3 "taken" ["one", "other"] (spOf K (tBin fsub))) (g_added : Fn P w K mg base 3 "added" ["one", "other"] (spOf K (tBin fadd))) (c_ONE : Const mg K "ONE" (.tup [.int 1, .int 1])) : FnOk P w K mg base CX0 5 f fd ["one", "other"] (spOf K tTs) := by
  refine F.okT sc_turn_size ?len (fun cdv A outer s H E hr => (fb_cons (fs_if (ft_cp op_ge (fe_ix rfl (fe_call g_cross hr (by omega) rfl (fc (fv 0) (fc (fv 1) fa_nil))) fe_int (fun _ _ => rfl)) fe_int (nomark _)) (fb_one (fs_ret (fe_call g_taken hr (by omega) rfl (fc (fe_glob rfl c_ONE) (fc (fe_call g_dot hr (by omega) rfl (fc (fv 0) (fc (fv 1) fa_nil))) fa_nil))))) fb_nil)
  (fb_one (fs_ret (fe_call g_added hr (by omega) rfl (fc (fe_tup (fc fe_int (fc fe_int fa_nil))) (fc (fe_call g_dot hr (by omega) rfl (fc (fv 0) (fc (fv 1) fa_nil))) fa_nil))))))) ?rd
  case len => rintro as Q ⟨x, y, p, q, e, f, rfl, _⟩; rfl
  case rd =>
    rintro as Q ⟨x, y, p, q, e, f, rfl, h, k, he, z⟩
    have sd := sz_dot h k
    have o : sz (1, 1) = 1 := by decide
    have o3 : sz (3, 1) = 2 := by decide
    refine ⟨x, y, p, q, e, f, rfl, h, k, he, ?_⟩
    show if decide (0 ≤ (fcross x y p q).1) = true then _ else _
    by_cases c : 0 ≤ (fcross x y p q).1
    · rw [decide_eq_true c, if_pos rfl]
      have c' := (val_nonneg (nrm_cross h k)).2 c
      rw [val_cross h k] at c'
      have ss := sz_sub (nrm_int 1) (nrm_dot h k)
      refine ⟨x, y, p, q, e, f, rfl, h, k, he, (1, 1), _, rfl, nrm_int 1, nrm_dot h k, by omega, rfl, z _ (nrm_sub (nrm_int 1) (nrm_dot h k)) (by omega) ?_⟩
      rw [val_sub (nrm_int 1) (nrm_dot h k), val10, val_dot h k, kf_vc]
      unfold key
      rw [if_pos c']
    · rw [decide_eq_false c, if_neg (by decide)]
      have c' : ¬ 0 ≤ val x * val q - val y * val p := fun hh => c ((val_nonneg (nrm_cross h k)).1 (by rw [val_cross h k]; exact hh))
      have ss := sz_add (nrm_int 3) (nrm_dot h k)
      refine ⟨x, y, p, q, e, f, rfl, h, k, he, (3, 1), _, rfl, nrm_int 3, nrm_dot h k, by omega, rfl, z _ (nrm_add (nrm_int 3) (nrm_dot h k)) (by omega) ?_⟩
      rw [val_add (nrm_int 3) (nrm_dot h k), val_int, val_dot h k, kf_vc]
      unfold key
      rw [if_neg c']
      rfl
noncomputable def tFlip : SpT := fun as Q => ∃ x y : Fr, as = [.v (vc x y)] ∧ Q (.v (vc (fneg x) y)) []
noncomputable abbrev s_flipped : Stmt := top 11
theorem sc_flipped : FnScope ["vector", "x", "y"] ["vector"] (defScope s_flipped) := ⟨rfl, rfl, rfl, by decide +kernel, rfl, by decide +kernel, by decide +kernel⟩
theorem ok_flipped {f : Addr} {fd : FuncData} (F : Fun K "flipped" "flipped" s_flipped f fd) (TX : Txt mg)   : FnOk P w K mg base CX0 1 f fd ["vector"] (spOf K tFlip) := by
  refine F.okT sc_flipped ?len (fun cdv A outer s H E hr => (fb_cons (fs_asg (fv 0) (fg_tup (n := 2) rfl rfl (fgs_cons (fg_name (i := 1) sc_flipped.nd rfl (Or.inl rfl)) (fgs_cons (fg_name (i := 2) sc_flipped.nd rfl (Or.inl rfl)) fgs_nil))))
  (fb_one (fs_ret (fe_tup (fc (fe_tup (fc (fe_neg (fe_ix rfl (fv 1) fe_int (fun _ _ => rfl))) (fc (fe_ix rfl (fv 1) fe_int (fun _ _ => rfl)) fa_nil))) (fc (fv 2) fa_nil))))))) ?rd
  case len => rintro as Q ⟨x, y, rfl, _⟩; rfl
  case rd =>
    rintro as Q ⟨x, y, rfl, q⟩
    exact ⟨rfl, q⟩
noncomputable def mU (k : L2.T → Rat) (u : L2.T) (M : List L2.T → List L2.T) : List L2.T → List L2.T
  | [] => u :: M []
  | r :: R => if k r < k u then r :: mU k u M R else u :: M (if L2.eqT r u = true then R else r :: R)
noncomputable def mrg (k : L2.T → Rat) : List L2.T → List L2.T → List L2.T
  | [], _ => []
  | u :: A, B => mU k u (mrg k A) B
noncomputable def Ut (e : Nat) (t : L2.T) : Prop := ∃ a b, t = vc a b ∧ Nv a b e
structure Mg (x y : Fr) (A B : List L2.T) (o : L2.T) : Prop where
  k1 : ∀ i u, A[i]? = some u → i + 1 < A.length → kf x y u < kf x y o
  k2 : ∀ i u, A[i]? = some u → i + 1 = A.length → u = o
  k3 : ∀ i u, B[i]? = some u → i + 1 = B.length → u = o
  lb : 0 < B.length
theorem drop_at {B : List L2.T} {n : Nat} (h : n < B.length) : ∃ r R, B.drop n = r :: R ∧ B[n]? = some r ∧ R = B.drop (n + 1) := ⟨B[n], B.drop (n + 1), List.drop_eq_getElem_cons h, List.getElem?_eq_getElem h, rfl⟩
noncomputable def tMerged : SpT := fun as Q => ∃ (x y : Fr) (A B : List L2.T) (o : L2.T) (e f : Nat), as = [.v (.lst A), .v (.lst B), .v (vc x y)] ∧ Nv x y e ∧ (∀ t ∈ A, Ut f t) ∧ (∀ t ∈ B, Ut f t) ∧ e + f ≤ 3000 ∧ A.length + B.length ≤ 900 ∧ Mg x y A B o ∧ noLs (mrg (kf x y) A B) = true ∧ Q (.l (mrg (kf x y) A B)) []
noncomputable abbrev s_merged : Stmt := top 20
theorem sc_merged : FnScope ["ahead", "back", "one", "units", "at", "unit", "size"] ["ahead", "back", "one"] (defScope s_merged) := ⟨rfl, rfl, rfl, by decide +kernel, rfl, by decide +kernel, by decide +kernel⟩
theorem ok_merged {f : Addr} {fd : FuncData} (F : Fun K "merged" "merged" s_merged f fd) (TX : Txt mg) (g_turn_size : Fn P w K mg base 5 "turn_size" ["one", "other"] (spOf K tTs)) (g_compared : Fn P w K mg base 1 "compared" ["one", "other"] (spOf K tCmp))  : FnOk P w K mg base CX0 6 f fd ["ahead", "back", "one"] (spOf K tMerged) := by
  refine F.okT sc_merged ?len (fun cdv A outer s H E hr => (fb_cons (fs_set (i := 3) sc_merged.nd rfl (Or.inl rfl) (fe_lst fa_nil))
  (fb_cons (fs_set (i := 4) sc_merged.nd rfl (Or.inl rfl) fe_int)
  (fb_cons (fs_for PassesOwn.never rfl (fi_list rfl (fv 0)) (fg_name (i := 5) sc_merged.nd rfl (Or.inl rfl))
    (fb_cons (fs_set (i := 6) sc_merged.nd rfl (Or.inl rfl) (fe_call g_turn_size hr (by omega) rfl (fc (fv 2) (fc (fv 5) fa_nil))))
  (fb_cons (fs_while PassesOwn.never (ft_cp op_lt (fe_call g_compared hr (by omega) rfl (fc (fe_call g_turn_size hr (by omega) rfl (fc (fv 2) (fc (fe_ix rfl (fv 1) (fv 4) (fun _ _ => rfl)) fa_nil))) (fc (fv 6) fa_nil))) fe_int (nomark _)) (fb_cons (fs_expr (fe_append rfl (fv 3) (fc (fe_ix rfl (fv 1) (fv 4) (fun _ _ => rfl)) fa_nil)))
  (fb_one (fs_aug (i := 4) sc_merged.nd rfl (Or.inl rfl) fe_int ip_add))))
  (fb_cons (fs_if (ft_eq rfl hr (fe_ix rfl (fv 1) (fv 4) (fun _ _ => rfl)) (fv 5) (nomark _)) (fb_one (fs_aug (i := 4) sc_merged.nd rfl (Or.inl rfl) fe_int ip_add)) fb_nil)
  (fb_one (fs_expr (fe_append rfl (fv 3) (fc (fv 5) fa_nil))))))))
  (fb_one (fs_ret (fv 3))))))) ?rd
  case len => rintro as Q ⟨x, y, A, B, o, e, f, rfl, _⟩; rfl
  case rd =>
    rintro as Q ⟨x, y, A, B, o, e, f, rfl, h, ha, hb, he, hl, mg, nl, z⟩
    refine loopT_inv (fun i E => ∃ (acc : List L2.T) (n : Nat) (v5 v6 : Option U), E = [some (.p (.lst A)), some (.p (.lst B)), some (.p (vc x y)), some (.o false acc), some (.p (.int (n : Int))), v5, v6] ∧ acc ++ mrg (kf x y) (A.drop i) (B.drop n) = mrg (kf x y) A B ∧ acc.length ≤ i + n ∧ n ≤ B.length ∧ (i < A.length → n < B.length)) ⟨[], 0, none, none, rfl, rfl, Nat.le_refl _, Nat.zero_le _, fun _ => mg.lb⟩ ?_ ?_
    · rintro i t rest E hi ⟨acc, n, v5, v6, rfl, hm, hacc, hn, hin⟩ KK
      have hi' : A[i]? = some t := hi
      obtain ⟨a, b, rfl, na⟩ := ha t (List.mem_of_getElem? hi')
      have hilt : i < A.length := (List.getElem?_eq_some_iff.mp hi').1
      have hA : A.drop i = vc a b :: A.drop (i + 1) := by
        rw [List.drop_eq_getElem_cons hilt]
        rw [List.getElem?_eq_getElem hilt] at hi'
        rw [Option.some.inj hi']
      rw [hA] at hm
      refine ⟨x, y, a, b, e, f, rfl, h, na, he, fun sz1 n1 z1 w1 => ?_⟩
      have ku : kf x y (vc a b) ≤ kf x y o := by
        rcases Nat.lt_or_ge (i + 1) A.length with c | c
        · exact Rat.le_of_lt (mg.k1 i _ hi' c)
        · rw [mg.k2 i _ hi' (by omega)]; exact Rat.le_refl
      refine ⟨fun m E => ∃ (acc : List L2.T) (n : Nat), E = [some (.p (.lst A)), some (.p (.lst B)), some (.p (vc x y)), some (.o false acc), some (.p (.int (n : Int))), some (.p (vc a b)), some (.p (fr sz1))] ∧ m = B.length - n ∧ n < B.length ∧ acc.length ≤ i + n ∧ acc ++ mU (kf x y) (vc a b) (mrg (kf x y) (A.drop (i + 1))) (B.drop n) = mrg (kf x y) A B, ⟨_, acc, n, rfl, rfl, hin hilt, hacc, hm⟩, ?_⟩
      clear hm hacc hn hin
      rintro m E ⟨acc, n, rfl, rfl, hn, hacc, hm⟩
      obtain ⟨r, R, hd, hr, hR⟩ := drop_at hn
      obtain ⟨c, d, rfl, nc⟩ := hb r (List.mem_of_getElem? hr)
      have hat : atI B (n : Int) = some (vc c d) := atI_nat hr
      rw [hd] at hm
      show o1 (atI B (n : Int)) _
      rw [hat]
      refine ⟨x, y, c, d, e, f, rfl, h, nc, he, fun s2 n2 z2 w2 => ?_⟩
      refine ⟨s2, sz1, rfl, n2, n1, by omega, by omega, fun r hr' => ?_⟩
      show if decide (r < 0) = true then _ else _
      by_cases lt : r < 0
      · rw [decide_eq_true lt, if_pos rfl]
        have kl : kf x y (vc c d) < kf x y (vc a b) := by rw [← w2, ← w1]; exact hr'.1 lt
        show o1 (atI B (n : Int)) _
        rw [hat]
        refine ⟨?_, B.length - (n + 1), by omega, acc ++ [vc c d], n + 1, rfl, rfl, ?_, ?_, ?_⟩
        · show (acc ++ [vc c d]).length ≤ 1000
          rw [List.length_append, List.length_singleton]; omega
        · rcases Nat.lt_or_ge (n + 1) B.length with c1 | c1
          · exact c1
          · have := mg.k3 n _ hr (by omega)
            rw [this] at kl
            grind
        · rw [List.length_append, List.length_singleton]; omega
        · rw [← hm]
          show _ = acc ++ (if kf x y (vc c d) < kf x y (vc a b) then _ else _)
          rw [if_pos kl, hR]
          simp
      · rw [decide_eq_false lt, if_neg (by decide)]
        have kl : ¬ kf x y (vc c d) < kf x y (vc a b) := by rw [← w2, ← w1]; exact fun h => lt (hr'.2 h)
        have hm' : acc ++ (if kf x y (vc c d) < kf x y (vc a b) then (vc c d) :: mU (kf x y) (vc a b) (mrg (kf x y) (A.drop (i + 1))) R else (vc a b) :: mrg (kf x y) (A.drop (i + 1)) (if L2.eqT (vc c d) (vc a b) = true then R else vc c d :: R)) = mrg (kf x y) A B := hm
        rw [if_neg kl] at hm'
        show o1 (atI B (n : Int)) _
        rw [hat]
        refine ⟨le_ok rfl, ?_⟩
        show if L2.eqT (vc c d) (vc a b) = true then _ else _
        by_cases eq : L2.eqT (vc c d) (vc a b) = true
        · rw [if_pos eq] at hm' ⊢
          refine ⟨?_, KK _ ⟨acc ++ [vc a b], n + 1, _, _, rfl, ?_, ?_, ?_, ?_⟩⟩
          · show (acc ++ [vc a b]).length ≤ 1000
            rw [List.length_append, List.length_singleton]; omega
          · rw [← hm', hR]; simp
          · rw [List.length_append, List.length_singleton]; omega
          · omega
          · intro hi2
            rcases Nat.lt_or_ge (n + 1) B.length with c1 | c1
            · exact c1
            · have t1 := mg.k3 n _ hr (by omega)
              have t2 := mg.k1 i _ hi' hi2
              rw [eq_vc] at eq
              have := of_decide_eq_true eq
              rw [this.1, this.2] at t1
              rw [t1] at t2
              grind
        · rw [if_neg eq] at hm' ⊢
          refine ⟨?_, KK _ ⟨acc ++ [vc a b], n, _, _, rfl, ?_, ?_, ?_, ?_⟩⟩
          · show (acc ++ [vc a b]).length ≤ 1000
            rw [List.length_append, List.length_singleton]; omega
          · rw [← hm', hd]; simp
          · rw [List.length_append, List.length_singleton]; omega
          · omega
          · intro _; exact hn
    · rintro E ⟨acc, n, v5, v6, rfl, hm, hacc, hn, hin⟩
      have e1 : acc = mrg (kf x y) A B := by
        rw [List.drop_length] at hm
        rw [← hm]
        simp [mrg]
      subst e1
      exact ⟨nl, z⟩
end
end My
set_option Elab.async false
set_option linter.all false
set_option maxRecDepth 100000
set_option maxHeartbeats 4000000
namespace My
open PySem L2 PyProof.Rows
section
variable {P : Program} {w : World} {K : PySem.W.Frag} {mg : Str → Option Value} {base : Heap}
noncomputable def flT (t : L2.T) : L2.T := vc (fneg (cx t).1) (cx t).2
theorem flT_vc (a b : Fr) : flT (vc a b) = vc (fneg a) b := rfl
theorem fneg2 (a : Fr) : fneg (fneg a) = a := by unfold fneg; simp
theorem UnE.flip {x y : Fr} {e : Nat} (h : UnE x y e) : UnE (fneg x) y e := ⟨⟨nrm_neg h.nv.x, h.nv.y, by rw [sz_neg]; exact h.nv.sx, h.nv.sy⟩, by rw [val_neg h.nv.x, ← h.one]; grind⟩
theorem Nv.flip {x y : Fr} {e : Nat} (h : Nv x y e) : Nv (fneg x) y e := ⟨nrm_neg h.x, h.y, by rw [sz_neg]; exact h.sx, h.sy⟩
theorem chn_ut : ∀ {a : L2.T} {l : List L2.T} {t : L2.T}, chn a l → t ∈ l → Ut 2500 t
  | _, [], _, _, h => by cases h
  | a, b :: l, t, h, m => by
    rcases List.mem_cons.mp m with rfl | m
    · obtain ⟨_, _, c, d, _, e, _, n, _⟩ := h.1
      exact ⟨c, d, e, n⟩
    · exact chn_ut h.2 m
theorem mem_mU {k : L2.T → Rat} {u : L2.T} {M : List L2.T → List L2.T} {t : L2.T} : ∀ {B : List L2.T}, (∀ B', (∀ z ∈ B', z ∈ B) → t ∈ M B' → t ∈ M B' ) → t ∈ mU k u M B → t ∈ B ∨ t = u ∨ ∃ B', (∀ z ∈ B', z ∈ B) ∧ t ∈ M B'
  | [], _, h => by
    rcases List.mem_cons.mp h with h | h
    · exact .inr (.inl h)
    · exact .inr (.inr ⟨[], fun _ h => h, h⟩)
  | r :: R, hh, h => by
    unfold mU at h
    split at h
    · rcases List.mem_cons.mp h with h | h
      · exact .inl (by rw [h]; exact List.mem_cons_self ..)
      · rcases mem_mU (B := R) (fun B' z w => w) h with h | h | ⟨B', h1, h2⟩
        · exact .inl (List.mem_cons_of_mem _ h)
        · exact .inr (.inl h)
        · exact .inr (.inr ⟨B', fun z hz => List.mem_cons_of_mem _ (h1 z hz), h2⟩)
    · rcases List.mem_cons.mp h with h | h
      · exact .inr (.inl h)
      · refine .inr (.inr ⟨_, fun z hz => ?_, h⟩)
        split at hz
        · exact List.mem_cons_of_mem _ hz
        · exact hz
theorem mem_mrg {k : L2.T → Rat} {t : L2.T} : ∀ {A B : List L2.T}, t ∈ mrg k A B → t ∈ A ∨ t ∈ B
  | [], B, h => by cases h
  | u :: A, B, h => by
    rcases mem_mU (M := mrg k A) (fun B' _ w => w) h with h | h | ⟨B', h1, h2⟩
    · exact .inr h
    · exact .inl (by rw [h]; exact List.mem_cons_self ..)
    · rcases mem_mrg h2 with h | h
      · exact .inl (List.mem_cons_of_mem _ h)
      · exact .inr (h1 t h)
theorem noLs_v : ∀ {l : List L2.T}, AllV l → noLs l = true
  | [], _ => rfl
  | t :: l, h => by
    obtain ⟨a, b, rfl⟩ := h t (List.mem_cons_self ..)
    have := noLs_v (l := l) fun t ht => h t (List.mem_cons_of_mem _ ht)
    show (noL (vc a b) && noLs l) = true
    rw [this]; rfl
theorem allV_cons {a b : Fr} {l : List L2.T} (h : AllV l) : AllV (vc a b :: l) := fun t ht => by
  rcases List.mem_cons.mp ht with rfl | h'
  · exact ⟨_, _, rfl⟩
  · exact h t h'
noncomputable def bkL (x y p q : Fr) (s : Int) (m : Nat) : List L2.T := ((vc (fneg p) q :: qb (fneg x) y s m (fneg p) q).reverse).map flT
noncomputable def ubL (x y p q : Fr) (s : Int) (m m' : Nat) : List L2.T := mrg (kf x y) (vc x y :: qb p q s m x y) (bkL x y p q s m')
theorem bk_ut {x y p q : Fr} {e f : Nat} {s : Int} {m : Nat} (h : UnE x y e) (k : UnE p q f) (he : e + f ≤ 140) (he1 : e ≤ 100) (hf : f ≤ 100) (hs : s = 1 ∨ s = 2 ∨ s = 3) (r : Rem (fneg x) y m (fneg p) q) : ∀ t ∈ bkL x y p q s m, Ut 2500 t := by
  intro t ht
  obtain ⟨z, hz, rfl⟩ := List.mem_map.mp ht
  have hz := List.mem_reverse.mp hz
  have ch := (chn_qb (s := s) h.flip hf (show f + e ≤ 140 by omega) hs m (fneg p) q k.flip r).1
  have uz : Ut 2500 z := by
    rcases List.mem_cons.mp hz with rfl | hz
    · exact ⟨_, _, rfl, k.flip.nv.up (by omega)⟩
    · exact chn_ut ch hz
  obtain ⟨a, b, rfl, n⟩ := uz
  exact ⟨fneg a, b, rfl, n.flip⟩
theorem allV_ut {l : List L2.T} {e : Nat} (h : ∀ t ∈ l, Ut e t) : AllV l := fun t ht => by obtain ⟨a, b, e, _⟩ := h t ht; exact ⟨a, b, e⟩
theorem mg_ub {x y p q : Fr} {e f : Nat} {s : Int} {m m' : Nat} (h : UnE x y e) (k : UnE p q f) (he : e + f ≤ 140) (he1 : e ≤ 100) (hs : s = 1 ∨ s = 2 ∨ s = 3) (hm : m ≤ 3) (r : Rem p q m x y) : Mg x y (vc x y :: qb p q s m x y) (bkL x y p q s m') (vc p q) := by
  have at0 : At 0 (val x * val x + val y * val y) (val x * val y - val y * val x) := .inl ⟨rfl, h.one, by grind⟩
  have st := srt_qb (s := s) h k he1 he hs m 0 x y h (by omega) at0 r
  have ls := (chn_qb k he1 he hs m x y h r).2
  refine ⟨fun i u hi hl => ?_, fun i u hi hl => ?_, fun i u hi hl => ?_, ?_⟩
  · rw [← ls]
    exact srt_last st hi (by simpa using hl)
  · obtain ⟨L, hL⟩ := lst_at (vc x y) (qb p q s m x y)
    rw [hL] at hi hl
    rw [List.length_append, List.length_singleton] at hl
    have : i = L.length := by omega
    subst this
    simp at hi
    rw [← hi, ls]
  · unfold bkL at hi hl
    rw [List.reverse_cons, List.map_append] at hi hl
    rw [List.length_append] at hl
    simp at hl
    have : i = ((qb (fneg x) y s m' (fneg p) q).reverse.map flT).length := by simp; omega
    subst this
    rw [List.getElem?_append_right (Nat.le_refl _)] at hi
    simp at hi
    rw [← hi, flT_vc, fneg2]
  · simp [bkL]
theorem len_bk {s : Int} (x y p q : Fr) (hs : s = 1 ∨ s = 2 ∨ s = 3) (m : Nat) : (bkL x y p q s m).length ≤ 3 * m + 4 := by
  have := len_qb (fneg x) y hs m (fneg p) q
  simp [bkL]
  omega
noncomputable def tUb : SpT := fun as Q => ∃ (x y p q : Fr) (s : Int) (e f : Nat), as = [.v (vc x y), .v (vc p q), .v (.int s)] ∧ UnE x y e ∧ UnE p q f ∧ e + f ≤ 140 ∧ e ≤ 100 ∧ f ≤ 100 ∧ (s = 1 ∨ s = 2 ∨ s = 3) ∧ ∀ m m', m ≤ 3 → m' ≤ 3 → Rem p q m x y → Rem (fneg x) y m' (fneg p) q → Q (.l (ubL x y p q s m m')) []
noncomputable abbrev s_units_between : Stmt := top 21
theorem sc_units_between : FnScope ["one", "other", "steps", "ahead", "back"] ["one", "other", "steps"] (defScope s_units_between) := ⟨rfl, rfl, rfl, by decide +kernel, rfl, by decide +kernel, by decide +kernel⟩
theorem ok_units_between {f : Addr} {fd : FuncData} (F : Fun K "units_between" "units_between" s_units_between f fd) (TX : Txt mg) (g_quarters_between : Fn P w K mg base 6 "quarters_between" ["one", "other", "steps"] (spOf K tQb)) (g_flipped : Fn P w K mg base 1 "flipped" ["vector"] (spOf K tFlip)) (g_merged : Fn P w K mg base 6 "merged" ["ahead", "back", "one"] (spOf K tMerged))  : FnOk P w K mg base CX0 7 f fd ["one", "other", "steps"] (spOf K tUb) := by
  refine F.okT sc_units_between ?len (fun cdv A outer s H E hr => (fb_cons (fs_set (i := 3) sc_units_between.nd rfl (Or.inl rfl) (fe_call g_quarters_between hr (by omega) rfl (fc (fv 0) (fc (fv 1) (fc (fv 2) fa_nil)))))
  (fb_cons (fs_set (i := 4) sc_units_between.nd rfl (Or.inl rfl) (fe_call g_quarters_between hr (by omega) rfl (fc (fe_call g_flipped hr (by omega) rfl (fc (fv 1) fa_nil)) (fc (fe_call g_flipped hr (by omega) rfl (fc (fv 0) fa_nil)) (fc (fv 2) fa_nil)))))
  (fb_one (fs_ret (fe_call g_merged hr (by omega) rfl (fc (fv 3) (fc (fe_comp (N' := ["unit"]) (t := 1) (cap := []) rfl (CompOk.of rfl) rfl (by decide) (fi_list rfl (fe_revL rfl (fv 4) (fo_some (fe_neg fe_int)))) (fun _ _ _ _ => (fg_name (i := 0) (show List.Nodup (["unit"] : List Str) by decide +kernel) rfl (Or.inl rfl) (Or.inr rfl))) (fun _ _ _ _ => (fe_call g_flipped hr (by omega) rfl (fc (fv 0) fa_nil)))) (fc (fv 0) fa_nil))))))))) ?rd
  case len => rintro as Q ⟨x, y, p, q, s, e, f, rfl, _⟩; rfl
  case rd =>
    rintro as Q ⟨x, y, p, q, s, e, f, rfl, hu, hv, he, he1, hf1, hs, z⟩
    obtain ⟨m, hm, hr⟩ := rem_ex hu hv
    obtain ⟨m', hm', hr'⟩ := rem_ex hv.flip hu.flip
    have z := z m m' hm hm' hr hr'
    refine ⟨x, y, p, q, s, e, f, m, rfl, hu, hv, he, hs, hm, hr, ?_⟩
    refine ⟨p, q, rfl, x, y, rfl, ?_⟩
    refine ⟨fneg p, q, fneg x, y, s, f, e, m', rfl, hv.flip, hu.flip, by omega, hs, hm', hr', ?_⟩
    have au : ∀ t ∈ (vc (fneg p) q :: qb (fneg x) y s m' (fneg p) q).reverse, ∃ a b, t = vc a b := fun t ht => allV_cons (allV_qb _ _ _ _ _ _) t (List.mem_reverse.mp ht)
    have bl : bkL x y p q s m' = ((vc (fneg p) q :: qb (fneg x) y s m' (fneg p) q).reverse).map flT := rfl
    have lb := len_bk x y p q hs m'
    have la := len_qb p q hs m x y
    have ub := bk_ut (s := s) hu hv he he1 hf1 hs hr'
    have ua : ∀ t ∈ vc x y :: qb p q s m x y, Ut 2500 t := fun t ht => by
      rcases List.mem_cons.mp ht with rfl | ht
      · exact ⟨_, _, rfl, hu.nv.up (by omega)⟩
      · exact chn_ut (chn_qb hv he1 he hs m x y hu hr).1 ht
    have av : AllV (ubL x y p q s m m') := fun t ht => by
      rcases mem_mrg ht with h | h
      · exact allV_ut ua t h
      · exact allV_ut ub t h
    refine ⟨rfl, rfl, ?_⟩
    show compL _ _ ((vc (fneg p) q :: qb (fneg x) y s m' (fneg p) q).reverse) _ _
    generalize hR : (vc (fneg p) q :: qb (fneg x) y s m' (fneg p) q).reverse = RL at au bl ⊢
    have ll : RL.length ≤ 13 := by rw [bl, List.length_map] at lb; omega
    refine compL_inv (fun i E => ∃ v0, E = [v0, some (.o false ((RL.take i).map flT))]) ⟨none, rfl⟩ ?_ ?_
    · rintro i t rest E hi ⟨v0, rfl⟩ KK
      obtain ⟨a, b, rfl⟩ := au t (List.mem_of_getElem? hi)
      have il := (List.getElem?_eq_some_iff.mp hi).1
      refine ⟨a, b, rfl, ?_, KK _ ⟨some (.p (vc a b)), ?_⟩⟩
      · show ((RL.take i).map flT).length < 1000
        rw [List.length_map, List.length_take]; omega
      · have e1 : RL.take (i + 1) = RL.take i ++ [vc a b] := by rw [List.take_add_one, hi]; rfl
        rw [e1, List.map_append]
        rfl
    · rintro E ⟨v0, rfl⟩
      rw [List.take_length, ← bl]
      refine ⟨noLs_v (allV_ut ub), ?_⟩
      refine ⟨x, y, _, _, vc p q, e, 2500, rfl, hu.nv, ua, ub, by omega, ?_, mg_ub hu hv he he1 hs hm hr, noLs_v av, ?_⟩
      · rw [List.length_cons]; omega
      · exact ⟨noLs_v av, z⟩
end
end My
set_option Elab.async false
set_option linter.all false
set_option maxRecDepth 100000
set_option maxHeartbeats 4000000
namespace My
open PySem L2 PyProof.Rows
section
variable {P : Program} {w : World} {K : PySem.W.Frag} {mg : Str → Option Value} {base : Heap}
noncomputable def trd (D C : Rat) : Int := if C = 0 then (if D = 1 then 0 else 2) else if 0 < C then 1 else 3
theorem unit_bounds {d c : Rat} (o : d * d + c * c = 1) : -1 ≤ d ∧ d ≤ 1 := by
  have hc : 0 ≤ c * c := by
    rcases Rat.le_total (a := 0) (b := c) with h | h
    · exact Rat.mul_nonneg h h
    · have := Rat.mul_nonneg (a := -c) (b := -c) (by grind) (by grind); grind
  constructor
  · rcases Rat.le_total (a := -1) (b := d) with h | h
    · exact h
    · by_cases e : d = -1
      · grind
      · have := Rat.mul_pos (a := -1 - d) (b := 1 - d) (by grind) (by grind)
        grind
  · rcases Rat.le_total (a := d) (b := 1) with h | h
    · exact h
    · by_cases e : d = 1
      · grind
      · have := Rat.mul_pos (a := d - 1) (b := 1 + d) (by grind) (by grind)
        grind
theorem unit_strict {d c : Rat} (o : d * d + c * c = 1) (hc : c ≠ 0) : -1 < d ∧ d < 1 := by
  obtain ⟨h1, h2⟩ := unit_bounds o
  have n1 : d ≠ 1 := fun e => by
    rw [e] at o
    have : c * c = 0 := by grind
    rcases Rat.mul_eq_zero.mp this with a | a <;> exact hc a
  have n2 : d ≠ -1 := fun e => by
    rw [e] at o
    have : c * c = 0 := by grind
    rcases Rat.mul_eq_zero.mp this with a | a <;> exact hc a
  constructor <;> grind
theorem unit_zero {d : Rat} (o : d * d + 0 * 0 = 1) : d = 1 ∨ d = -1 := by
  have : (d - 1) * (d + 1) = 0 := by grind
  rcases Rat.mul_eq_zero.mp this with a | a
  · left; grind
  · right; grind
theorem turn_id {d1 c1 d2 c2 : Rat} (o1 : d1 * d1 + c1 * c1 = 1) (o2 : d2 * d2 + c2 * c2 = 1) : (d1 * c2 - c1 * d2) * (c1 + c2) = (d1 - d2) * (1 + d1 * d2 + c1 * c2) := by grind
theorem half_pos {d1 c1 d2 c2 : Rat} (o1 : d1 * d1 + c1 * c1 = 1) (o2 : d2 * d2 + c2 * c2 = 1) (h : 0 < c1 * c2) : 0 < 1 + d1 * d2 + c1 * c2 := by
  obtain ⟨a1, a2⟩ := unit_bounds o1
  obtain ⟨b1, b2⟩ := unit_bounds o2
  have p1 := Rat.mul_nonneg (a := 1 - d1) (b := 1 - d2) (by grind) (by grind)
  have p2 := Rat.mul_nonneg (a := 1 + d1) (b := 1 + d2) (by grind) (by grind)
  grind
theorem up_iff {d1 c1 d2 c2 : Rat} (o1 : d1 * d1 + c1 * c1 = 1) (o2 : d2 * d2 + c2 * c2 = 1) (h1 : 0 < c1) (h2 : 0 < c2) : 0 < d1 * c2 - c1 * d2 ↔ d2 < d1 := by
  have hp := half_pos o1 o2 (Rat.mul_pos h1 h2)
  have id := turn_id o1 o2
  have hs : 0 < c1 + c2 := by grind
  constructor
  · intro h
    have : 0 < (d1 - d2) * (1 + d1 * d2 + c1 * c2) := by rw [← id]; exact Rat.mul_pos h hs
    have := pos_of_mul hp this
    grind
  · intro h
    exact pos_of_mul hs (by rw [id]; exact Rat.mul_pos (by grind) hp)
theorem down_iff {d1 c1 d2 c2 : Rat} (o1 : d1 * d1 + c1 * c1 = 1) (o2 : d2 * d2 + c2 * c2 = 1) (h1 : c1 < 0) (h2 : c2 < 0) : 0 < d1 * c2 - c1 * d2 ↔ d1 < d2 := by
  have := up_iff (d1 := d2) (c1 := -c2) (d2 := d1) (c2 := -c1) (by grind) (by grind) (by grind) (by grind)
  have e : d2 * -c1 - -c2 * d1 = d1 * c2 - c1 * d2 := by grind
  rw [e] at this
  exact this
theorem key_ahead {d1 c1 d2 c2 : Rat} (o1 : d1 * d1 + c1 * c1 = 1) (o2 : d2 * d2 + c2 * c2 = 1) : (if trd d1 c1 ≠ trd d2 c2 then trd d1 c1 < trd d2 c2 else 0 < d1 * c2 - c1 * d2) ↔ key d1 c1 < key d2 c2 := by
  have cases3 : ∀ c : Rat, c = 0 ∨ 0 < c ∨ c < 0 := fun c => by grind
  rcases cases3 c1 with rfl | h1 | h1
  · rcases cases3 c2 with rfl | h2 | h2
    · rcases unit_zero o1 with rfl | rfl <;> rcases unit_zero o2 with rfl | rfl <;> (unfold trd key; grind)
    · obtain ⟨b1, b2⟩ := unit_strict o2 (by grind)
      rcases unit_zero o1 with rfl | rfl <;> (unfold trd key; grind)
    · obtain ⟨b1, b2⟩ := unit_strict o2 (by grind)
      rcases unit_zero o1 with rfl | rfl <;> (unfold trd key; grind)
  · obtain ⟨a1, a2⟩ := unit_strict o1 (by grind)
    have t1 : trd d1 c1 = 1 := by unfold trd; rw [if_neg (by grind), if_pos h1]
    have k1 : key d1 c1 = 1 - d1 := by unfold key; rw [if_pos (by grind)]
    rcases cases3 c2 with rfl | h2 | h2
    · rcases unit_zero o2 with rfl | rfl <;> (rw [t1, k1]; unfold trd key; grind)
    · have t2 : trd d2 c2 = 1 := by unfold trd; rw [if_neg (by grind), if_pos h2]
      have k2 : key d2 c2 = 1 - d2 := by unfold key; rw [if_pos (by grind)]
      rw [t1, t2, k1, k2, if_neg (by decide), up_iff o1 o2 h1 h2]
      constructor <;> intro h <;> grind
    · obtain ⟨b1, b2⟩ := unit_strict o2 (by grind)
      have t2 : trd d2 c2 = 3 := by unfold trd; rw [if_neg (by grind), if_neg (by grind)]
      have k2 : key d2 c2 = 3 + d2 := by unfold key; rw [if_neg (by grind)]
      rw [t1, t2, k1, k2, if_pos (by decide)]
      constructor
      · intro _; grind
      · intro _; decide
  · obtain ⟨a1, a2⟩ := unit_strict o1 (by grind)
    have t1 : trd d1 c1 = 3 := by unfold trd; rw [if_neg (by grind), if_neg (by grind)]
    have k1 : key d1 c1 = 3 + d1 := by unfold key; rw [if_neg (by grind)]
    rcases cases3 c2 with rfl | h2 | h2
    · rcases unit_zero o2 with rfl | rfl <;> (rw [t1, k1]; unfold trd key; grind)
    · obtain ⟨b1, b2⟩ := unit_strict o2 (by grind)
      have t2 : trd d2 c2 = 1 := by unfold trd; rw [if_neg (by grind), if_pos h2]
      have k2 : key d2 c2 = 1 - d2 := by unfold key; rw [if_pos (by grind)]
      rw [t1, t2, k1, k2, if_pos (by decide)]
      constructor
      · intro h; exact absurd h (by decide)
      · intro _; grind
    · have t2 : trd d2 c2 = 3 := by unfold trd; rw [if_neg (by grind), if_neg (by grind)]
      have k2 : key d2 c2 = 3 + d2 := by unfold key; rw [if_neg (by grind)]
      rw [t1, t2, k1, k2, if_neg (by decide), down_iff o1 o2 h1 h2]
      constructor <;> intro h <;> grind
end
end My
set_option Elab.async false
set_option linter.all false
set_option maxRecDepth 100000
set_option maxHeartbeats 4000000
namespace My
open PySem L2 PyProof.Rows
section
variable {P : Program} {w : World} {K : PySem.W.Frag} {mg : Str → Option Value} {base : Heap}
theorem cyc_id {ca wa cv wv cu wu : Rat} (ha : ca * ca = wa * (2 - wa)) (hv : cv * cv = wv * (2 - wv)) (hu : cu * cu = wu * (2 - wu)) :
    ((ca * wv - cv * wa) + (cv * wu - cu * wv) - (ca * wu - cu * wa)) * (2 * (wa * wv * wu)) = (ca * wv - cv * wa) * (cv * wu - cu * wv) * (ca * wu - cu * wa) := by grind
theorem cyc_trans {ca wa cv wv cu wu : Rat} (ha : ca * ca = wa * (2 - wa)) (hv : cv * cv = wv * (2 - wv)) (hu : cu * cu = wu * (2 - wu)) (pa : 0 < wa) (pv : 0 < wv) (pu : 0 < wu)
    (h1 : 0 < ca * wv - cv * wa) (h2 : 0 < cv * wu - cu * wv) : 0 < ca * wu - cu * wa ∧ 0 < (ca * wv - cv * wa) + (cv * wu - cu * wv) - (ca * wu - cu * wa) := by
  have h3 : 0 < ca * wu - cu * wa := pos_of_mul pv (by
    have : (ca * wu - cu * wa) * wv = wu * (ca * wv - cv * wa) + wa * (cv * wu - cu * wv) := by grind
    rw [this]
    have := Rat.mul_pos pu h1
    have := Rat.mul_pos pa h2
    grind)
  refine ⟨h3, ?_⟩
  have pw : 0 < 2 * (wa * wv * wu) := Rat.mul_pos (by grind) (Rat.mul_pos (Rat.mul_pos pa pv) pu)
  exact pos_of_mul pw (by rw [cyc_id ha hv hu]; exact Rat.mul_pos (Rat.mul_pos h1 h2) h3)
theorem area_id {d1 c1 d2 c2 : Rat} (o1 : d1 * d1 + c1 * c1 = 1) (o2 : d2 * d2 + c2 * c2 = 1) : (c1 * (1 - d2) - c2 * (1 - d1)) * (c1 * (1 - d2) + c2 * (1 - d1)) = 2 * ((1 - d1) * (1 - d2)) * (d1 - d2) := by grind
theorem key_area {d1 c1 d2 c2 : Rat} (o1 : d1 * d1 + c1 * c1 = 1) (o2 : d2 * d2 + c2 * c2 = 1) (n1 : d1 ≠ 1) (n2 : d2 ≠ 1) : key d1 c1 < key d2 c2 ↔ 0 < c1 * (1 - d2) - c2 * (1 - d1) := by
  obtain ⟨a1, a2⟩ := unit_bounds o1
  obtain ⟨b1, b2⟩ := unit_bounds o2
  have w1 : 0 < 1 - d1 := by grind
  have w2 : 0 < 1 - d2 := by grind
  have ww := Rat.mul_pos w1 w2
  have id := area_id o1 o2
  unfold key
  by_cases h1 : 0 ≤ c1
  · rw [if_pos h1]
    have p1 := Rat.mul_nonneg h1 (Rat.le_of_lt w2)
    by_cases h2 : 0 ≤ c2
    · rw [if_pos h2]
      have p2 := Rat.mul_nonneg h2 (Rat.le_of_lt w1)
      by_cases s0 : 0 < c1 * (1 - d2) + c2 * (1 - d1)
      · constructor
        · intro h
          exact pos_of_mul s0 (by rw [id]; exact Rat.mul_pos (Rat.mul_pos (by grind) ww) (by grind))
        · intro h
          have q : 0 < (d1 - d2) * (2 * ((1 - d1) * (1 - d2))) := by
            have : (d1 - d2) * (2 * ((1 - d1) * (1 - d2))) = 2 * ((1 - d1) * (1 - d2)) * (d1 - d2) := by grind
            rw [this, ← id]
            exact Rat.mul_pos h s0
          have := pos_of_mul (Rat.mul_pos (show (0 : Rat) < 2 by grind) ww) q
          grind
      · have z : c1 * (1 - d2) + c2 * (1 - d1) = 0 := by grind
        rw [z] at id
        have : (2 * ((1 - d1) * (1 - d2))) * (d1 - d2) = 0 := by grind
        have e : d1 - d2 = 0 := by
          rcases Rat.mul_eq_zero.mp this with a | a
          · grind
          · exact a
        constructor <;> intro h <;> grind
    · rw [if_neg h2]
      have p2 := Rat.mul_pos (a := -c2) (b := 1 - d1) (by grind) w1
      obtain ⟨e1, e2⟩ := unit_strict o2 (by grind)
      constructor <;> intro h <;> grind
  · rw [if_neg h1]
    have p1 := Rat.mul_pos (a := -c1) (b := 1 - d2) (by grind) w2
    obtain ⟨f1, f2⟩ := unit_strict o1 (by grind)
    by_cases h2 : 0 ≤ c2
    · rw [if_pos h2]
      have p2 := Rat.mul_nonneg h2 (Rat.le_of_lt w1)
      constructor <;> intro h <;> grind
    · rw [if_neg h2]
      have p2 := Rat.mul_pos (a := -c2) (b := 1 - d1) (by grind) w1
      have s0 : 0 < -(c1 * (1 - d2) + c2 * (1 - d1)) := by grind
      constructor
      · intro h
        refine pos_of_mul s0 ?_
        have : (c1 * (1 - d2) - c2 * (1 - d1)) * -(c1 * (1 - d2) + c2 * (1 - d1)) = (2 * ((1 - d1) * (1 - d2))) * (d2 - d1) := by grind
        rw [this]
        exact Rat.mul_pos (Rat.mul_pos (by grind) ww) (by grind)
      · intro h
        have q : 0 < (d2 - d1) * (2 * ((1 - d1) * (1 - d2))) := by
          have : (d2 - d1) * (2 * ((1 - d1) * (1 - d2))) = (c1 * (1 - d2) - c2 * (1 - d1)) * -(c1 * (1 - d2) + c2 * (1 - d1)) := by grind
          rw [this]
          exact Rat.mul_pos h s0
        have := pos_of_mul (Rat.mul_pos (show (0 : Rat) < 2 by grind) ww) q
        grind
end
end My
set_option Elab.async false
set_option linter.all false
set_option maxRecDepth 100000
set_option maxHeartbeats 4000000
namespace My
open PySem L2 PyProof.Rows
section
variable {P : Program} {w : World} {K : PySem.W.Frag} {mg : Str → Option Value} {base : Heap}
noncomputable def SS (k : L2.T → Rat) (l : List L2.T) : Prop := l.Pairwise fun a b => k a < k b
theorem ss_ext {k : L2.T → Rat} : ∀ {l m : List L2.T}, SS k l → SS k m → (∀ t, t ∈ l ↔ t ∈ m) → l = m
  | [], [], _, _, _ => rfl
  | [], b :: m, _, _, h => by have := (h b).2 (List.mem_cons_self ..); cases this
  | a :: l, [], _, _, h => by have := (h a).1 (List.mem_cons_self ..); cases this
  | a :: l, b :: m, h1, h2, h => by
    have q1 := List.pairwise_cons.mp h1
    have q2 := List.pairwise_cons.mp h2
    have e : a = b := by
      rcases List.mem_cons.mp ((h a).1 (List.mem_cons_self ..)) with e | e
      · exact e
      · rcases List.mem_cons.mp ((h b).2 (List.mem_cons_self ..)) with e' | e'
        · exact e'.symm
        · have c1 := q2.1 a e
          have c2 := q1.1 b e'
          grind
    subst e
    have := ss_ext q1.2 q2.2 fun t => by
      constructor
      · intro ht
        rcases List.mem_cons.mp ((h t).1 (List.mem_cons_of_mem _ ht)) with e | e
        · have c := q1.1 t ht
          rw [e] at c
          grind
        · exact e
      · intro ht
        rcases List.mem_cons.mp ((h t).2 (List.mem_cons_of_mem _ ht)) with e | e
        · have c := q2.1 t ht
          rw [e] at c
          grind
        · exact e
    rw [this]
theorem srt_ss {k : L2.T → Rat} : ∀ {a : L2.T} {l : List L2.T}, srt k a l → SS k (a :: l)
  | a, [], _ => List.pairwise_singleton _ _
  | a, b :: l, h => by
    have ih := srt_ss h.2
    have q := List.pairwise_cons.mp ih
    refine List.pairwise_cons.mpr ⟨fun t ht => ?_, ih⟩
    have h1 := h.1
    rcases List.mem_cons.mp ht with rfl | ht
    · exact h1
    · have := q.1 t ht
      grind
theorem mU_spec {k : L2.T → Rat} {u : L2.T} {M : List L2.T → List L2.T} : ∀ {B : List L2.T}, SS k B → (∀ r ∈ B, k r = k u → L2.eqT r u = true) → (∀ r ∈ B, L2.eqT r u = true → r = u) →
    (∀ R, SS k R → (∀ r ∈ R, r ∈ B ∧ k u < k r) → SS k (M R) ∧ ∀ t ∈ M R, k u < k t) →
    SS k (mU k u M B) ∧ (∀ t ∈ mU k u M B, k t < k u → t ∈ B) ∧ (∀ c, k c < k u → (∀ r ∈ B, k c < k r) → ∀ t ∈ mU k u M B, k c < k t)
  | [], _, _, _, hM => by
    obtain ⟨h1, h2⟩ := hM [] List.Pairwise.nil (fun r h => by cases h)
    refine ⟨List.pairwise_cons.mpr ⟨h2, h1⟩, fun t ht hk => ?_, fun c hc _ t ht => ?_⟩
    · rcases List.mem_cons.mp ht with rfl | ht
      · grind
      · have := h2 t ht; grind
    · rcases List.mem_cons.mp ht with rfl | ht
      · exact hc
      · have := h2 t ht; grind
  | r :: R, hB, inj, eqr, hM => by
    have q := List.pairwise_cons.mp hB
    unfold mU
    by_cases lt : k r < k u
    · rw [if_pos lt]
      obtain ⟨i1, i2, i3⟩ := mU_spec (B := R) (M := M) q.2 (fun s hs => inj s (List.mem_cons_of_mem _ hs)) (fun s hs => eqr s (List.mem_cons_of_mem _ hs)) (fun R' h h' => hM R' h fun s hs => ⟨List.mem_cons_of_mem _ (h' s hs).1, (h' s hs).2⟩)
      refine ⟨List.pairwise_cons.mpr ⟨fun t ht => i3 r lt q.1 t ht, i1⟩, fun t ht hk => ?_, fun c hc hr t ht => ?_⟩
      · rcases List.mem_cons.mp ht with rfl | ht
        · exact List.mem_cons_self ..
        · exact List.mem_cons_of_mem _ (i2 t ht hk)
      · rcases List.mem_cons.mp ht with rfl | ht
        · exact hr _ (List.mem_cons_self ..)
        · exact i3 c hc (fun s hs => hr s (List.mem_cons_of_mem _ hs)) t ht
    · rw [if_neg lt]
      have hR : ∀ s ∈ (if L2.eqT r u = true then R else r :: R), s ∈ r :: R ∧ k u < k s := fun s hs => by
        split at hs
        · rename_i e
          have := q.1 s hs
          have e' := eqr r (List.mem_cons_self ..) e
          exact ⟨List.mem_cons_of_mem _ hs, by rw [← e']; exact this⟩
        · rename_i e
          refine ⟨hs, ?_⟩
          have ne : k r ≠ k u := fun z => e (inj r (List.mem_cons_self ..) z)
          rcases List.mem_cons.mp hs with rfl | hs
          · grind
          · have := q.1 s hs
            grind
      have sR : SS k (if L2.eqT r u = true then R else r :: R) := by
        split
        · exact q.2
        · exact hB
      obtain ⟨h1, h2⟩ := hM _ sR hR
      refine ⟨List.pairwise_cons.mpr ⟨h2, h1⟩, fun t ht hk => ?_, fun c hc _ t ht => ?_⟩
      · rcases List.mem_cons.mp ht with rfl | ht
        · grind
        · have := h2 t ht; grind
      · rcases List.mem_cons.mp ht with rfl | ht
        · exact hc
        · have := h2 t ht; grind
theorem mrg_ss {k : L2.T → Rat} : ∀ {A B : List L2.T}, SS k A → SS k B → (∀ u ∈ A, ∀ r ∈ B, k r = k u → L2.eqT r u = true) → (∀ u ∈ A, ∀ r ∈ B, L2.eqT r u = true → r = u) →
    SS k (mrg k A B) ∧ (∀ c, (∀ u ∈ A, k c < k u) → (∀ r ∈ B, k c < k r) → ∀ t ∈ mrg k A B, k c < k t)
  | [], B, _, _, _, _ => ⟨List.Pairwise.nil, fun c _ _ t ht => by cases ht⟩
  | u :: A, B, hA, hB, inj, eqr => by
    have q := List.pairwise_cons.mp hA
    have ih : ∀ R, SS k R → (∀ r ∈ R, r ∈ B ∧ k u < k r) → SS k (mrg k A R) ∧ ∀ t ∈ mrg k A R, k u < k t := fun R hR h' => by
      obtain ⟨h1, h2⟩ := mrg_ss (A := A) (B := R) q.2 hR (fun v hv r hr => inj v (List.mem_cons_of_mem _ hv) r (h' r hr).1) (fun v hv r hr => eqr v (List.mem_cons_of_mem _ hv) r (h' r hr).1)
      exact ⟨h1, h2 u q.1 fun r hr => (h' r hr).2⟩
    obtain ⟨i1, i2, i3⟩ := mU_spec (u := u) (M := mrg k A) hB (inj u (List.mem_cons_self ..)) (eqr u (List.mem_cons_self ..)) ih
    exact ⟨i1, fun c hc hr => i3 c (hc u (List.mem_cons_self ..)) hr⟩
noncomputable def rst (k : L2.T → Rat) (u : L2.T) : List L2.T → List L2.T
  | [] => []
  | r :: R => if k r < k u then rst k u R else (if L2.eqT r u = true then R else r :: R)
noncomputable def tkn (k : L2.T → Rat) (u : L2.T) : List L2.T → List L2.T
  | [] => []
  | r :: R => if k r < k u then r :: tkn k u R else []
theorem mU_eq {k : L2.T → Rat} {u : L2.T} {M : List L2.T → List L2.T} : ∀ B : List L2.T, mU k u M B = tkn k u B ++ u :: M (rst k u B)
  | [] => rfl
  | r :: R => by
    unfold mU tkn rst
    split
    · rw [mU_eq R]; rfl
    · rfl
theorem rst_or {k : L2.T → Rat} {u : L2.T} : ∀ {B : List L2.T} {r : L2.T}, r ∈ B → r ∈ tkn k u B ∨ L2.eqT r u = true ∨ r ∈ rst k u B
  | s :: R, r, h => by
    unfold tkn rst
    by_cases lt : k s < k u
    · rw [if_pos lt, if_pos lt]
      rcases List.mem_cons.mp h with rfl | h
      · exact .inl (List.mem_cons_self ..)
      · rcases rst_or h with h | h | h
        · exact .inl (List.mem_cons_of_mem _ h)
        · exact .inr (.inl h)
        · exact .inr (.inr h)
    · rw [if_neg lt, if_neg lt]
      by_cases e : L2.eqT s u = true
      · rw [if_pos e]
        rcases List.mem_cons.mp h with rfl | h
        · exact .inr (.inl e)
        · exact .inr (.inr h)
      · rw [if_neg e]
        exact .inr (.inr h)
theorem rst_gt {k : L2.T → Rat} {u : L2.T} : ∀ {B : List L2.T}, SS k B → (∀ r ∈ B, k r = k u → L2.eqT r u = true) → (∀ r ∈ B, L2.eqT r u = true → r = u) → SS k (rst k u B) ∧ ∀ r ∈ rst k u B, r ∈ B ∧ k u < k r
  | [], _, _, _ => ⟨List.Pairwise.nil, fun r h => by cases h⟩
  | s :: R, hB, inj, eqr => by
    have q := List.pairwise_cons.mp hB
    unfold rst
    by_cases lt : k s < k u
    · rw [if_pos lt]
      obtain ⟨h1, h2⟩ := rst_gt (B := R) q.2 (fun r hr => inj r (List.mem_cons_of_mem _ hr)) (fun r hr => eqr r (List.mem_cons_of_mem _ hr))
      exact ⟨h1, fun r hr => ⟨List.mem_cons_of_mem _ (h2 r hr).1, (h2 r hr).2⟩⟩
    · rw [if_neg lt]
      by_cases e : L2.eqT s u = true
      · rw [if_pos e]
        have e' := eqr s (List.mem_cons_self ..) e
        exact ⟨q.2, fun r hr => ⟨List.mem_cons_of_mem _ hr, by rw [← e']; exact q.1 r hr⟩⟩
      · rw [if_neg e]
        have ne : k s ≠ k u := fun z => e (inj s (List.mem_cons_self ..) z)
        refine ⟨hB, fun r hr => ⟨hr, ?_⟩⟩
        rcases List.mem_cons.mp hr with rfl | hr
        · grind
        · have := q.1 r hr
          grind
theorem mrg_has {k : L2.T → Rat} : ∀ {A B : List L2.T}, SS k B → (∀ u ∈ A, ∀ r ∈ B, k r = k u → L2.eqT r u = true) → (∀ u ∈ A, ∀ r ∈ B, L2.eqT r u = true → r = u) → (∀ r ∈ B, ∃ u ∈ A, k r ≤ k u) →
    (∀ u ∈ A, u ∈ mrg k A B) ∧ ∀ r ∈ B, r ∈ mrg k A B
  | [], B, _, _, _, h => ⟨fun u hu => (by cases hu), fun r hr => (by obtain ⟨u, hu, _⟩ := h r hr; cases hu)⟩
  | u :: A, B, hB, inj, eqr, h => by
    have e : mrg k (u :: A) B = tkn k u B ++ u :: mrg k A (rst k u B) := mU_eq B
    obtain ⟨g1, g2⟩ := rst_gt hB (inj u (List.mem_cons_self ..)) (eqr u (List.mem_cons_self ..))
    obtain ⟨i1, i2⟩ := mrg_has (A := A) (B := rst k u B) g1 (fun v hv r hr => inj v (List.mem_cons_of_mem _ hv) r (g2 r hr).1) (fun v hv r hr => eqr v (List.mem_cons_of_mem _ hv) r (g2 r hr).1) (fun r hr => by
      obtain ⟨v, hv, le⟩ := h r (g2 r hr).1
      rcases List.mem_cons.mp hv with rfl | hv
      · have := (g2 r hr).2; grind
      · exact ⟨v, hv, le⟩)
    rw [e]
    refine ⟨fun v hv => ?_, fun r hr => ?_⟩
    · rcases List.mem_cons.mp hv with rfl | hv
      · simp
      · exact List.mem_append_right _ (List.mem_cons_of_mem _ (i1 v hv))
    · rcases rst_or (k := k) (u := u) hr with h1 | h1 | h1
      · exact List.mem_append_left _ h1
      · have := eqr u (List.mem_cons_self ..) r hr h1
        rw [this]; simp
      · exact List.mem_append_right _ (List.mem_cons_of_mem _ (i2 r h1))
end
end My
set_option Elab.async false
set_option linter.all false
set_option maxRecDepth 100000
set_option maxHeartbeats 4000000
namespace My
open PySem L2 PyProof.Rows
section
variable {P : Program} {w : World} {K : PySem.W.Frag} {mg : Str → Option Value} {base : Heap}
theorem den_dvd {x y : Fr} (hx : Nrm x) (hy : Nrm y) (h : val x * val x + val y * val y = 1) : y.2.natAbs ∣ x.2.natAbs := by
  have h1 := hx.neR
  have h2 := hy.neR
  have e : (y.1 * y.1) * (x.2 * x.2) = (y.2 * y.2) * (x.2 * x.2 - x.1 * x.1) := by
    unfold val at h
    have h' : (y.1 : Rat) * y.1 * (x.2 * x.2) = y.2 * y.2 * (x.2 * x.2 - x.1 * x.1) := by grind
    exact_mod_cast h'
  have d1 : y.2.natAbs ^ 2 ∣ y.1.natAbs ^ 2 * x.2.natAbs ^ 2 := by
    have : (y.1 * y.1 * (x.2 * x.2)).natAbs = y.1.natAbs ^ 2 * x.2.natAbs ^ 2 := by rw [Int.natAbs_mul, Int.natAbs_mul, Int.natAbs_mul, Nat.pow_two, Nat.pow_two]
    rw [← this, e, Int.natAbs_mul, Int.natAbs_mul, ← Nat.pow_two]
    exact Nat.dvd_mul_right _ _
  have cp : Nat.Coprime (y.2.natAbs ^ 2) (y.1.natAbs ^ 2) := Nat.Coprime.pow 2 2 (by unfold Nat.Coprime; rw [Nat.gcd_comm]; exact hy.g)
  exact (Nat.pow_dvd_pow_iff (by decide)).mp (cp.dvd_of_dvd_mul_left d1)
theorem den_eq {x y : Fr} (hx : Nrm x) (hy : Nrm y) (h : val x * val x + val y * val y = 1) : x.2 = y.2 := by
  have a := den_dvd hx hy h
  have b := den_dvd hy hx (by rw [← h]; grind)
  have c := Nat.dvd_antisymm a b
  have := hx.d; have := hy.d
  omega
theorem sz_val {p : Fr} {n d : Int} {e : Nat} (hp : Nrm p) (hd : d ≠ 0) (h : val p = (n : Rat) / (d : Rat)) (h1 : n.natAbs < 2 ^ e) (h2 : d.natAbs < 2 ^ e) (he : 1 ≤ e) : sz p ≤ e := by
  have : p = low n d := val_inj hp (low_nrm hd) (by rw [val_low hd]; exact h)
  rw [this]; exact sz_low hd h1 h2 he
theorem szU {x y p q r : Fr} {e f : Nat} (h : UnE x y e) (k : UnE p q f) (hr : Nrm r) (n : Int) (hn : n.natAbs < 2 ^ (e + f + 1)) (hv : val r = (n : Rat) / ((x.2 * p.2 : Int) : Rat)) : sz r ≤ e + f + 1 :=
  sz_val hr (mul_ne h.nv.x k.nv.x) hv hn (pl (mul_pow (pl (sz_d x) h.nv.sx) (pl (sz_d p) k.nv.sx)) (by omega)) (by omega)
theorem bd2 {a b c d : Int} {e f : Nat} (h1 : a.natAbs < 2 ^ e) (h2 : b.natAbs < 2 ^ f) (h3 : c.natAbs < 2 ^ e) (h4 : d.natAbs < 2 ^ f) : (a * b + c * d).natAbs < 2 ^ (e + f + 1) ∧ (a * b - c * d).natAbs < 2 ^ (e + f + 1) := ⟨add_pow (mul_pow h1 h2) (mul_pow h3 h4), sub_pow (mul_pow h1 h2) (mul_pow h3 h4)⟩
section
variable {x y p q : Fr} {e f : Nat}
theorem UnE.n1 (h : UnE x y e) : x.1.natAbs < 2 ^ e := pl (sz_n x) h.nv.sx
theorem UnE.n2 (h : UnE x y e) : y.1.natAbs < 2 ^ e := pl (sz_n y) h.nv.sy
theorem UnE.eqd (h : UnE x y e) : x.2 = y.2 := den_eq h.nv.x h.nv.y h.one
theorem UnE.trU (h : UnE x y e) (k : UnE p q f) : UnE (trx x y p q) (trY x y p q) (e + f + 1) := by
  have t := h.tr k
  have d1 := h.eqd; have d2 := k.eqd
  have z1 := h.nv.x.neR; have z2 := k.nv.x.neR
  refine ⟨⟨t.nv.x, t.nv.y, szU h k t.nv.x (x.1 * p.1 - y.1 * q.1) (bd2 h.n1 k.n1 h.n2 k.n2).2 ?_, szU h k t.nv.y (x.1 * q.1 + y.1 * p.1) (bd2 h.n1 k.n2 h.n2 k.n1).1 ?_⟩, t.one⟩
  · rw [val_trx h.nv k.nv]
    unfold val
    rw [← d1, ← d2]
    push_cast
    grind
  · rw [val_trY h.nv k.nv]
    unfold val
    rw [← d1, ← d2]
    push_cast
    grind
theorem szU_tng (h : UnE x y e) (k : UnE p q f) (n : (fadd (1, 1) (fdot x y p q)).1 ≠ 0) : Nrm (tng x y p q) ∧ sz (tng x y p q) ≤ e + f + 2 := by
  have nn := (sz_tng h.nv k.nv n).1
  refine ⟨nn, ?_⟩
  have d1 := h.eqd; have d2 := k.eqd
  have z1 := h.nv.x.neR; have z2 := k.nv.x.neR
  have na := nrm_add (nrm_int 1) (nrm_dot h.nv k.nv)
  have va := val_add (nrm_int 1) (nrm_dot h.nv k.nv)
  rw [val10, val_dot h.nv k.nv] at va
  have nz : val (fadd (1, 1) (fdot x y p q)) ≠ 0 := fun z => by
    have := (val_le na).1 (by grind)
    have := (val_nonneg na).1 (by grind)
    omega
  have vt : val (tng x y p q) = (val x * val q - val y * val p) / (1 + (val x * val p + val y * val q)) := by
    unfold tng
    rw [val_over (nrm_cross h.nv k.nv) na n, val_cross h.nv k.nv, va]
  rw [va] at nz
  have b1 := (bd2 h.n1 k.n2 h.n2 k.n1).2
  have b2 := (bd2 h.n1 k.n1 h.n2 k.n2).1
  have b3 : (x.2 * p.2).natAbs < 2 ^ (e + f) := mul_pow (pl (sz_d x) h.nv.sx) (pl (sz_d p) k.nv.sx)
  have hd : x.2 * p.2 + (x.1 * p.1 + y.1 * q.1) ≠ 0 := fun z => by
    apply nz
    have z' : (x.2 : Rat) * p.2 + (x.1 * p.1 + y.1 * q.1) = 0 := by exact_mod_cast z
    unfold val
    rw [← d1, ← d2]
    grind
  refine sz_val nn hd ?_ (pl b1 (by omega)) (add_pow (pl b3 (by omega)) b2) (by omega)
  rw [vt]
  have hd' : ((x.2 * p.2 + (x.1 * p.1 + y.1 * q.1) : Int) : Rat) ≠ 0 := by exact_mod_cast hd
  unfold val at nz ⊢
  rw [← d1, ← d2] at nz ⊢
  push_cast at hd' ⊢
  grind
end
theorem un_ct {t : Fr} {g : Nat} (h : Nrm t) (hg : sz t ≤ g) : UnE (cT t) (sT t) (2 * g + 1) := ⟨(nv_ct h).up (by omega), by
  rw [val_ct h, val_st h]
  have := sq_pos1 (val t)
  grind⟩
theorem un_el {x y t : Fr} {e g : Nat} (h : UnE x y e) (n : Nrm t) (hg : sz t ≤ g) : UnE (trx x y (cT t) (sT t)) (trY x y (cT t) (sT t)) (e + 2 * g + 2) := (h.trU (un_ct n hg)).up (by omega)
noncomputable def Uv (e : Nat) (t : L2.T) : Prop := ∃ a b, t = vc a b ∧ UnE a b e
theorem Uv.up {e f : Nat} {t : L2.T} (h : Uv e t) (k : e ≤ f) : Uv f t := let ⟨a, b, h1, h2⟩ := h; ⟨a, b, h1, h2.up k⟩
theorem uv_els {x y t : Fr} {e g : Nat} {s : Int} (h : UnE x y e) (n : Nrm t) (hg : sz t ≤ g) (hs : s = 1 ∨ s = 2 ∨ s = 3) : ∀ u ∈ els x y t s, Uv (e + 2 * g + 6) u := by
  intro u hu
  obtain ⟨k, hk, rfl⟩ := List.mem_map.mp hu
  have kb : k.natAbs ≤ 3 := by
    unfold ksOf at hk
    split at hk
    · simp at hk; omega
    · split at hk
      · simp at hk; omega
      · simp at hk; omega
  obtain ⟨n1, n2⟩ := sz_ks (s := s) kb (by omega)
  have := sz_mul n n1
  exact ⟨_, _, rfl, (un_el h (nrm_mul n n1) (show _ ≤ g + 2 by omega)).up (by omega)⟩
theorem uv_qb {p q : Fr} {e f : Nat} {s : Int} (k : UnE p q f) (hs : s = 1 ∨ s = 2 ∨ s = 3) : ∀ (m : Nat) (x y : Fr), UnE x y e → Rem p q m x y → ∀ u ∈ qb p q s m x y, Uv (3 * e + 2 * f + 10) u
  | 0, x, y, h, r, u, hu => by
    have hu : u ∈ restL p q s x y := hu
    unfold restL at hu
    split at hu
    · cases hu
    · obtain ⟨t1, t2⟩ := szU_tng h k (under_ne h.nv k.nv r)
      exact (uv_els h t1 t2 hs u hu).up (by omega)
  | m + 1, x, y, h, r, u, hu => by
    have hu : u ∈ els x y (1, 1) s ++ qb p q s m (fneg y) x := hu
    rcases List.mem_append.mp hu with hu | hu
    · exact (uv_els h (nrm_int 1) (show sz (1, 1) ≤ 1 by decide) hs u hu).up (by omega)
    · exact uv_qb k hs m (fneg y) x h.left r.2 u hu
theorem len_mU {k : L2.T → Rat} {u : L2.T} {M : List L2.T → List L2.T} {a : Nat} (h : ∀ B, a ≤ (M B).length ∧ (M B).length ≤ a + B.length) : ∀ B, a + 1 ≤ (mU k u M B).length ∧ (mU k u M B).length ≤ a + 1 + B.length
  | [] => by
    have := h []
    show a + 1 ≤ (M []).length + 1 ∧ (M []).length + 1 ≤ a + 1 + 0
    simp at this
    omega
  | r :: R => by
    unfold mU
    split
    · have := len_mU (k := k) (u := u) h R
      simp only [List.length_cons]
      omega
    · have h2 := h (if L2.eqT r u = true then R else r :: R)
      simp only [List.length_cons]
      split at h2
      · split
        · omega
        · contradiction
      · split
        · contradiction
        · simp only [List.length_cons] at h2
          omega
theorem len_mrg (k : L2.T → Rat) : ∀ A B, A.length ≤ (mrg k A B).length ∧ (mrg k A B).length ≤ A.length + B.length
  | [], B => ⟨Nat.zero_le _, Nat.zero_le _⟩
  | u :: A, B => len_mU (k := k) (u := u) (M := mrg k A) (a := A.length) (len_mrg k A) B
end
end My
set_option Elab.async false
set_option linter.all false
set_option maxRecDepth 100000
set_option maxHeartbeats 4000000
namespace My
open PySem L2 PyProof.Rows
section
variable {P : Program} {w : World} {K : PySem.W.Frag} {mg : Str → Option Value} {base : Heap}
theorem key_nonneg {d c : Rat} (o : d * d + c * c = 1) : 0 ≤ key d c := by
  obtain ⟨h1, h2⟩ := unit_bounds o
  unfold key
  split <;> grind
theorem key_pos {d c : Rat} (o : d * d + c * c = 1) (n : d ≠ 1) : 0 < key d c := by
  obtain ⟨h1, h2⟩ := unit_bounds o
  unfold key
  split
  · grind
  · grind
theorem key_one {c : Rat} (o : 1 * 1 + c * c = 1) : key 1 c = 0 := by
  have : c * c = 0 := by grind
  have z : c = 0 := by rcases Rat.mul_eq_zero.mp this with a | a <;> exact a
  rw [z]; unfold key; rw [if_pos (by grind)]; grind
theorem back_order {ax ay bx bY ux uy vx vy : Rat} (oa : ax * ax + ay * ay = 1) (ob : bx * bx + bY * bY = 1) (ou : ux * ux + uy * uy = 1) (ov : vx * vx + vy * vy = 1)
    (h : key (bx * ux + bY * uy) (-(bx * uy - bY * ux)) < key (bx * vx + bY * vy) (-(bx * vy - bY * vx)))
    (hv : key (bx * vx + bY * vy) (-(bx * vy - bY * vx)) < key (bx * ax + bY * ay) (-(bx * ay - bY * ax))) : key (ax * vx + ay * vy) (ax * vy - ay * vx) < key (ax * ux + ay * uy) (ax * uy - ay * ux) := by
  have Ou : (bx * ux + bY * uy) * (bx * ux + bY * uy) + (-(bx * uy - bY * ux)) * (-(bx * uy - bY * ux)) = 1 := by grind
  have Ov : (bx * vx + bY * vy) * (bx * vx + bY * vy) + (-(bx * vy - bY * vx)) * (-(bx * vy - bY * vx)) = 1 := by grind
  have Oa : (bx * ax + bY * ay) * (bx * ax + bY * ay) + (-(bx * ay - bY * ax)) * (-(bx * ay - bY * ax)) = 1 := by grind
  have Pv : (ax * vx + ay * vy) * (ax * vx + ay * vy) + (ax * vy - ay * vx) * (ax * vy - ay * vx) = 1 := by grind
  have Pu : (ax * ux + ay * uy) * (ax * ux + ay * uy) + (ax * uy - ay * ux) * (ax * uy - ay * ux) = 1 := by grind
  have kU := key_nonneg Ou
  have nv : bx * vx + bY * vy ≠ 1 := fun e => by
    have := key_one (c := -(bx * vy - bY * vx)) (by rw [e] at Ov; exact Ov)
    rw [e, this] at h; grind
  have kV := key_pos Ov nv
  have na : bx * ax + bY * ay ≠ 1 := fun e => by
    have := key_one (c := -(bx * ay - bY * ax)) (by rw [e] at Oa; exact Oa)
    rw [e, this] at hv; grind
  obtain ⟨_, b2⟩ := unit_bounds Ov
  obtain ⟨_, a2⟩ := unit_bounds Oa
  obtain ⟨_, u2⟩ := unit_bounds Ou
  have h1 := (key_area Ov Oa nv na).1 hv
  have area : 0 < (ax * vy - ay * vx) * (1 - (ax * ux + ay * uy)) - (ax * uy - ay * ux) * (1 - (ax * vx + ay * vy)) := by
    have id1 : (ax * vy - ay * vx) * (1 - (ax * ux + ay * uy)) - (ax * uy - ay * ux) * (1 - (ax * vx + ay * vy)) = (ax * vy - ay * vx) + (vx * uy - vy * ux) + (ux * ay - uy * ax) := by grind
    rw [id1]
    by_cases nu : bx * ux + bY * uy = 1
    · have z : (bx * uy - bY * ux) * (bx * uy - bY * ux) = 0 := by rw [nu] at Ou; grind
      have z0 : bx * uy - bY * ux = 0 := by rcases Rat.mul_eq_zero.mp z with a | a <;> exact a
      have ex : ux = bx := by
        have : ux = bx * (bx * ux + bY * uy) - bY * (bx * uy - bY * ux) := by grind
        rw [nu, z0] at this; grind
      have ey : uy = bY := by
        have : uy = bY * (bx * ux + bY * uy) + bx * (bx * uy - bY * ux) := by grind
        rw [nu, z0] at this; grind
      rw [ex, ey]
      have id2 : -(bx * vy - bY * vx) * (1 - (bx * ax + bY * ay)) - -(bx * ay - bY * ax) * (1 - (bx * vx + bY * vy)) = (ax * vy - ay * vx) + (vx * bY - vy * bx) + (bx * ay - bY * ax) := by grind
      rw [← id2]; exact h1
    · have h2 := (key_area Ou Ov nu nv).1 h
      have t := (cyc_trans (ca := bx * ay - bY * ax) (wa := 1 - (bx * ax + bY * ay)) (cv := bx * vy - bY * vx) (wv := 1 - (bx * vx + bY * vy)) (cu := bx * uy - bY * ux) (wu := 1 - (bx * ux + bY * uy))
        (by grind) (by grind) (by grind) (by grind) (by grind) (by grind) (by grind) (by grind)).2
      have id3 : ((bx * ay - bY * ax) * (1 - (bx * vx + bY * vy)) - (bx * vy - bY * vx) * (1 - (bx * ax + bY * ay))) + ((bx * vy - bY * vx) * (1 - (bx * ux + bY * uy)) - (bx * uy - bY * ux) * (1 - (bx * vx + bY * vy))) - ((bx * ay - bY * ax) * (1 - (bx * ux + bY * uy)) - (bx * uy - bY * ux) * (1 - (bx * ax + bY * ay))) = (ax * vy - ay * vx) + (vx * uy - vy * ux) + (ux * ay - uy * ax) := by grind
      rw [id3] at t
      exact t
  have n1 : ax * vx + ay * vy ≠ 1 := fun e => by
    have z : (ax * vy - ay * vx) * (ax * vy - ay * vx) = 0 := by rw [e] at Pv; grind
    have z0 : ax * vy - ay * vx = 0 := by rcases Rat.mul_eq_zero.mp z with a | a <;> exact a
    rw [e, z0] at area; grind
  have n2 : ax * ux + ay * uy ≠ 1 := fun e => by
    have z : (ax * uy - ay * ux) * (ax * uy - ay * ux) = 0 := by rw [e] at Pu; grind
    have z0 : ax * uy - ay * ux = 0 := by rcases Rat.mul_eq_zero.mp z with a | a <;> exact a
    rw [e, z0] at area; grind
  exact (key_area Pv Pu n1 n2).2 area
theorem back_last {ax ay bx bY ux uy : Rat} (oa : ax * ax + ay * ay = 1) (ou : ux * ux + uy * uy = 1)
    (h : key (bx * ux + bY * uy) (-(bx * uy - bY * ux)) < key (bx * ax + bY * ay) (-(bx * ay - bY * ax))) : key (ax * ax + ay * ay) (ax * ay - ay * ax) < key (ax * ux + ay * uy) (ax * uy - ay * ux) := by
  have Pu : (ax * ux + ay * uy) * (ax * ux + ay * uy) + (ax * uy - ay * ux) * (ax * uy - ay * ux) = 1 := by grind
  have n2 : ax * ux + ay * uy ≠ 1 := fun e => by
    have z : (ax * uy - ay * ux) * (ax * uy - ay * ux) = 0 := by rw [e] at Pu; grind
    have z0 : ax * uy - ay * ux = 0 := by rcases Rat.mul_eq_zero.mp z with a | a <;> exact a
    have ex : ux = ax := by
      have : ux = ax * (ax * ux + ay * uy) - ay * (ax * uy - ay * ux) := by grind
      rw [e, z0] at this; grind
    have ey : uy = ay := by
      have : uy = ay * (ax * ux + ay * uy) + ax * (ax * uy - ay * ux) := by grind
      rw [e, z0] at this; grind
    rw [ex, ey] at h
    grind
  have k1 : key (ax * ax + ay * ay) (ax * ay - ay * ax) = 0 := by
    rw [oa]
    exact key_one (by grind)
  rw [k1]
  exact key_pos Pu n2
theorem srt_max {k : L2.T → Rat} {a : L2.T} {l : List L2.T} (h : srt k a l) {t : L2.T} (ht : t ∈ a :: l) : t = lst a l ∨ k t < k (lst a l) := by
  obtain ⟨i, hi⟩ := List.getElem?_of_mem ht
  have il := (List.getElem?_eq_some_iff.mp hi).1
  rw [List.length_cons] at il
  rcases Nat.lt_or_ge i l.length with c | c
  · exact .inr (srt_last h hi c)
  · left
    obtain ⟨L, hL⟩ := lst_at a l
    have ll : l.length + 1 = L.length + 1 := by have := congrArg List.length hL; simpa using this
    rw [hL] at hi
    have : i = L.length := by omega
    subst this
    simp at hi
    exact hi.symm
theorem ss_flip {x y p q : Fr} {e f g : Nat} (h : UnE x y e) (k : UnE p q f) {L : List L2.T} (ss : SS (kf (fneg p) q) L) (uv : ∀ t ∈ L, Uv g t) (mx : ∀ t ∈ L, t = vc (fneg x) y ∨ kf (fneg p) q t < kf (fneg p) q (vc (fneg x) y)) : SS (kf x y) ((L.reverse).map flT) := by
  unfold SS
  rw [List.pairwise_map, List.pairwise_reverse]
  refine List.Pairwise.imp_of_mem ?_ ss
  intro u' v' hu hv huv
  obtain ⟨ua, ub, rfl, nu⟩ := uv u' hu
  have nu1 := nu.nv.x
  have nu2 := nu.nv.y
  have ou := nu.one
  have vP := val_neg k.nv.x
  have vX := val_neg h.nv.x
  have vu := val_neg nu1
  rcases mx v' hv with rfl | hlt
  · rw [flT_vc, flT_vc, fneg2]
    rw [kf_vc, kf_vc, vP, vX] at huv
    rw [kf_vc, kf_vc, vu]
    refine back_last (bx := val p) (bY := val q) h.one (by grind) ?_
    have e1 : val p * -val ua + val q * val ub = -val p * val ua + val q * val ub := by grind
    have e2 : -(val p * val ub - val q * -val ua) = -val p * val ub - val q * val ua := by grind
    have e3 : val p * val x + val q * val y = -val p * -val x + val q * val y := by grind
    have e4 : -(val p * val y - val q * val x) = -val p * val y - val q * -val x := by grind
    rw [e1, e2, e3, e4]
    exact huv
  · obtain ⟨va, vb, rfl, nv⟩ := uv v' hv
    have nv1 := nv.nv.x
    have nv2 := nv.nv.y
    have ov := nv.one
    have vv := val_neg nv1
    rw [flT_vc, flT_vc]
    rw [kf_vc, kf_vc, vP] at huv hlt
    rw [vX] at hlt
    rw [kf_vc, kf_vc, vu, vv]
    have e1 : val p * -val ua + val q * val ub = -val p * val ua + val q * val ub := by grind
    have e2 : -(val p * val ub - val q * -val ua) = -val p * val ub - val q * val ua := by grind
    have e3 : val p * val x + val q * val y = -val p * -val x + val q * val y := by grind
    have e4 : -(val p * val y - val q * val x) = -val p * val y - val q * -val x := by grind
    have e5 : val p * -val va + val q * val vb = -val p * val va + val q * val vb := by grind
    have e6 : -(val p * val vb - val q * -val va) = -val p * val vb - val q * val va := by grind
    refine back_order (bx := val p) (bY := val q) h.one k.one (by grind) (by grind) ?_ ?_
    · rw [e1, e2, e5, e6]; exact huv
    · rw [e3, e4, e5, e6]; exact hlt
theorem key_inj {d1 c1 d2 c2 : Rat} (o1 : d1 * d1 + c1 * c1 = 1) (o2 : d2 * d2 + c2 * c2 = 1) (h : key d1 c1 = key d2 c2) : d1 = d2 ∧ c1 = c2 := by
  have one : ∀ {d c d' c' : Rat}, d' * d' + c' * c' = 1 → d * d + c * c = 1 → 0 ≤ c → ¬ 0 ≤ c' → 1 - d = 3 + d' → False := fun {d c d' c'} o' o hc hc' e => by
    obtain ⟨a1, _⟩ := unit_strict o' (by grind)
    obtain ⟨b1, _⟩ := unit_bounds o
    grind
  have same : ∀ {d c c' : Rat}, d * d + c * c = 1 → d * d + c' * c' = 1 → (c - c') * (c + c') = 0 := by intros; grind
  unfold key at h
  by_cases h1 : 0 ≤ c1
  · rw [if_pos h1] at h
    by_cases h2 : 0 ≤ c2
    · rw [if_pos h2] at h
      have e : d1 = d2 := by grind
      subst e
      rcases Rat.mul_eq_zero.mp (same o1 o2) with z | z
      · exact ⟨rfl, by grind⟩
      · exact ⟨rfl, by grind⟩
    · rw [if_neg h2] at h
      exact (one o2 o1 h1 h2 h).elim
  · rw [if_neg h1] at h
    by_cases h2 : 0 ≤ c2
    · rw [if_pos h2] at h
      exact (one o1 o2 h2 h1 h.symm).elim
    · rw [if_neg h2] at h
      have e : d1 = d2 := by grind
      subst e
      rcases Rat.mul_eq_zero.mp (same o1 o2) with z | z
      · exact ⟨rfl, by grind⟩
      · exact ⟨rfl, by grind⟩
theorem dc_one {a b c d : Rat} (h : a * a + b * b = 1) (k : c * c + d * d = 1) : (a * c + b * d) * (a * c + b * d) + (a * d - b * c) * (a * d - b * c) = 1 := by grind
theorem kf_inj {x y : Fr} {e f g : Nat} {u v : L2.T} (h : UnE x y e) (hu : Uv f u) (hv : Uv g v) (eq : kf x y u = kf x y v) : u = v := by
  obtain ⟨a, b, rfl, ua⟩ := hu
  obtain ⟨c, d, rfl, uc⟩ := hv
  rw [kf_vc, kf_vc] at eq
  have o := h.one
  obtain ⟨e1, e2⟩ := key_inj (dc_one o ua.one) (dc_one o uc.one) eq
  have f1 : val a = val c := by
    have g1 : val a = val x * (val x * val a + val y * val b) - val y * (val x * val b - val y * val a) := by grind
    have g2 : val c = val x * (val x * val c + val y * val d) - val y * (val x * val d - val y * val c) := by grind
    rw [g1, g2, e1, e2]
  have f2 : val b = val d := by
    have g1 : val b = val y * (val x * val a + val y * val b) + val x * (val x * val b - val y * val a) := by grind
    have g2 : val d = val y * (val x * val c + val y * val d) + val x * (val x * val d - val y * val c) := by grind
    rw [g1, g2, e1, e2]
  rw [val_inj ua.nv.x uc.nv.x f1, val_inj ua.nv.y uc.nv.y f2]
theorem eqT_uv {e f : Nat} {u v : L2.T} (hu : Uv e u) (hv : Uv f v) : L2.eqT u v = true ↔ u = v := by
  obtain ⟨a, b, rfl, ua⟩ := hu
  obtain ⟨c, d, rfl, uc⟩ := hv
  rw [eq_vc]
  constructor
  · intro h
    have := of_decide_eq_true h
    rw [this.1, this.2]
  · intro h
    have e := congrArg cx h
    rw [cx_vc, cx_vc] at e
    exact decide_eq_true ⟨congrArg Prod.fst e, congrArg Prod.snd e⟩
theorem rem_uniq {p q : Fr} : ∀ {m n : Nat} {x y : Fr}, Rem p q m x y → Rem p q n x y → m = n
  | 0, 0, _, _, _, _ => rfl
  | 0, _ + 1, _, _, h, k => absurd k.1 h
  | _ + 1, 0, _, _, h, k => absurd h.1 k
  | m + 1, n + 1, _, _, h, k => by rw [rem_uniq h.2 k.2]
structure Ends (x y p q : Fr) (e f : Nat) (s : Int) (m m' : Nat) : Prop where
  h : UnE x y e
  k : UnE p q f
  ef : e + f ≤ 140
  e1 : e ≤ 100
  f1 : f ≤ 100
  hs : s = 1 ∨ s = 2 ∨ s = 3
  hm : m ≤ 3
  hm' : m' ≤ 3
  r : Rem p q m x y
  r' : Rem (fneg x) y m' (fneg p) q
noncomputable abbrev aL (x y p q : Fr) (s : Int) (m : Nat) : List L2.T := vc x y :: qb p q s m x y
section
variable {x y p q : Fr} {e f : Nat} {s : Int} {m m' : Nat}
theorem Ends.flip (E : Ends x y p q e f s m m') : Ends (fneg p) q (fneg x) y f e s m' m := ⟨E.k.flip, E.h.flip, by have := E.ef; omega, E.f1, E.e1, E.hs, E.hm', E.hm, E.r', by rw [fneg2, fneg2]; exact E.r⟩
theorem Ends.auv (E : Ends x y p q e f s m m') : ∀ t ∈ aL x y p q s m, Uv 400 t := fun t ht => by
  have := E.ef; have := E.e1; have := E.f1
  rcases List.mem_cons.mp ht with rfl | ht
  · exact ⟨x, y, rfl, E.h.up (by omega)⟩
  · exact (uv_qb E.k E.hs m x y E.h E.r t ht).up (by omega)
theorem flT_uv {g : Nat} {t : L2.T} (h : Uv g t) : Uv g (flT t) ∧ flT (flT t) = t := by
  obtain ⟨a, b, rfl, u⟩ := h
  exact ⟨⟨fneg a, b, rfl, u.flip⟩, by rw [flT_vc, flT_vc, fneg2]⟩
theorem bk_eq : bkL x y p q s m' = ((aL (fneg p) q (fneg x) y s m').reverse).map flT := rfl
theorem Ends.buv (E : Ends x y p q e f s m m') : ∀ t ∈ bkL x y p q s m', Uv 400 t := fun t ht => by
  obtain ⟨z, hz, rfl⟩ := List.mem_map.mp ht
  exact (flT_uv (E.flip.auv z (List.mem_reverse.mp hz))).1
theorem Ends.srt (E : Ends x y p q e f s m m') : My.srt (kf x y) (vc x y) (qb p q s m x y) := by
  have at0 : At 0 (val x * val x + val y * val y) (val x * val y - val y * val x) := .inl ⟨rfl, E.h.one, by grind⟩
  exact srt_qb (s := s) E.h E.k E.e1 E.ef E.hs m 0 x y E.h (by have := E.hm; omega) at0 E.r
theorem Ends.chn (E : Ends x y p q e f s m m') : My.chn (vc x y) (qb p q s m x y) ∧ lst (vc x y) (qb p q s m x y) = vc p q := chn_qb E.k E.e1 E.ef E.hs m x y E.h E.r
theorem Ends.ass (E : Ends x y p q e f s m m') : SS (kf x y) (aL x y p q s m) := srt_ss E.srt
theorem Ends.amax (E : Ends x y p q e f s m m') : ∀ t ∈ aL x y p q s m, t = vc p q ∨ kf x y t < kf x y (vc p q) := fun t ht => by
  have := srt_max E.srt ht
  rw [E.chn.2] at this
  exact this
theorem Ends.alast (E : Ends x y p q e f s m m') : vc p q ∈ aL x y p q s m := by
  obtain ⟨L, hL⟩ := lst_at (vc x y) (qb p q s m x y)
  rw [E.chn.2] at hL
  show vc p q ∈ vc x y :: qb p q s m x y
  rw [hL]; simp
theorem Ends.bss (E : Ends x y p q e f s m m') : SS (kf x y) (bkL x y p q s m') := by
  rw [bk_eq]
  exact ss_flip E.h E.k E.flip.ass E.flip.auv E.flip.amax
theorem Ends.bmax (E : Ends x y p q e f s m m') : ∀ t ∈ bkL x y p q s m', kf x y t ≤ kf x y (vc p q) := by
  have ss := E.bss
  have e0 : bkL x y p q s m' = ((qb (fneg x) y s m' (fneg p) q).reverse).map flT ++ [vc p q] := by
    rw [bk_eq]
    show ((vc (fneg p) q :: qb (fneg x) y s m' (fneg p) q).reverse).map flT = _
    rw [List.reverse_cons, List.map_append]
    show _ ++ [flT (vc (fneg p) q)] = _
    rw [flT_vc, fneg2]
  rw [e0] at ss ⊢
  have q := (List.pairwise_append.mp ss).2.2
  intro t ht
  rcases List.mem_append.mp ht with c | c
  · exact Rat.le_of_lt (q t c _ (by simp))
  · rw [List.mem_singleton] at c; rw [c]; exact Rat.le_refl
theorem Ends.ub (E : Ends x y p q e f s m m') : SS (kf x y) (ubL x y p q s m m') ∧ ∀ t, t ∈ ubL x y p q s m m' ↔ t ∈ aL x y p q s m ∨ t ∈ bkL x y p q s m' := by
  have inj : ∀ u ∈ aL x y p q s m, ∀ r ∈ bkL x y p q s m', kf x y r = kf x y u → L2.eqT r u = true := fun u hu r hr z => by
    have := kf_inj E.h (E.buv r hr) (E.auv u hu) z
    exact (eqT_uv (E.buv r hr) (E.auv u hu)).2 this
  have eqr : ∀ u ∈ aL x y p q s m, ∀ r ∈ bkL x y p q s m', L2.eqT r u = true → r = u := fun u hu r hr z => (eqT_uv (E.buv r hr) (E.auv u hu)).1 z
  have has := mrg_has (k := kf x y) (A := aL x y p q s m) E.bss inj eqr fun r hr => ⟨vc p q, E.alast, E.bmax r hr⟩
  refine ⟨(mrg_ss E.ass E.bss inj eqr).1, fun t => ⟨fun h => mem_mrg h, fun h => ?_⟩⟩
  rcases h with h | h
  · exact has.1 t h
  · exact has.2 t h
theorem Ends.uuv (E : Ends x y p q e f s m m') : ∀ t ∈ ubL x y p q s m m', Uv 400 t := fun t ht => by
  rcases (E.ub.2 t).1 ht with h | h
  · exact E.auv t h
  · exact E.buv t h
theorem Ends.umax (E : Ends x y p q e f s m m') : ∀ t ∈ ubL x y p q s m m', kf x y t ≤ kf x y (vc p q) := fun t ht => by
  rcases (E.ub.2 t).1 ht with h | h
  · rcases E.amax t h with z | z
    · rw [z]; exact Rat.le_refl
    · exact Rat.le_of_lt z
  · exact E.bmax t h
theorem kf_self (h : UnE x y e) : kf x y (vc x y) = 0 := by
  rw [kf_vc, h.one]
  have : val x * val y - val y * val x = 0 := by grind
  rw [this]
  exact key_one (by grind)
theorem Ends.umin (E : Ends x y p q e f s m m') : ∀ t ∈ ubL x y p q s m m', kf x y (vc x y) ≤ kf x y t := fun t ht => by
  rw [kf_self E.h]
  obtain ⟨a, b, rfl, u⟩ := E.uuv t ht
  rw [kf_vc]
  exact key_nonneg (dc_one E.h.one u.one)
theorem ss_head {k : L2.T → Rat} {l : List L2.T} {z : L2.T} (h : SS k l) (hz : z ∈ l) (mn : ∀ t ∈ l, k z ≤ k t) : ∃ L, l = z :: L := by
  cases l with
  | nil => cases hz
  | cons a l =>
    rcases List.mem_cons.mp hz with rfl | hz
    · exact ⟨l, rfl⟩
    · have := (List.pairwise_cons.mp h).1 z hz
      have := mn a (List.mem_cons_self ..)
      grind
theorem ss_last {k : L2.T → Rat} {l : List L2.T} {z : L2.T} (h : SS k l) (hz : z ∈ l) (mx : ∀ t ∈ l, k t ≤ k z) : ∃ L, l = L ++ [z] := by
  obtain ⟨a, b, rfl⟩ := List.append_of_mem hz
  cases b with
  | nil => exact ⟨a, rfl⟩
  | cons c b =>
    have h2 := (List.pairwise_append.mp h).2.1
    have := (List.pairwise_cons.mp h2).1 c (List.mem_cons_self ..)
    have := mx c (by simp)
    grind
theorem Ends.first (E : Ends x y p q e f s m m') : ∃ L, ubL x y p q s m m' = vc x y :: L := ss_head E.ub.1 ((E.ub.2 _).2 (.inl (List.mem_cons_self ..))) E.umin
theorem Ends.last (E : Ends x y p q e f s m m') : ∃ L, ubL x y p q s m m' = L ++ [vc p q] := ss_last E.ub.1 ((E.ub.2 _).2 (.inl E.alast)) E.umax
theorem Ends.back (E : Ends x y p q e f s m m') : ((ubL (fneg p) q (fneg x) y s m' m).reverse).map flT = ubL x y p q s m m' := by
  have F := E.flip
  have mx : ∀ t ∈ ubL (fneg p) q (fneg x) y s m' m, t = vc (fneg x) y ∨ kf (fneg p) q t < kf (fneg p) q (vc (fneg x) y) := fun t ht => by
    have le := F.umax t ht
    by_cases c : kf (fneg p) q t = kf (fneg p) q (vc (fneg x) y)
    · exact .inl (kf_inj F.h (F.uuv t ht) (show Uv e (vc (fneg x) y) from ⟨_, _, rfl, E.h.flip⟩) c)
    · right; grind
  refine ss_ext (ss_flip E.h E.k F.ub.1 F.uuv mx) E.ub.1 fun t => ?_
  rw [List.mem_map, E.ub.2]
  have b2 : bkL (fneg p) q (fneg x) y s m = ((aL x y p q s m).reverse).map flT := by
    rw [bk_eq]
    unfold aL
    rw [fneg2, fneg2]
  constructor
  · rintro ⟨u, hu, rfl⟩
    have hu := (F.ub.2 u).1 (List.mem_reverse.mp hu)
    rcases hu with hu | hu
    · right
      rw [bk_eq]
      exact List.mem_map.mpr ⟨u, List.mem_reverse.mpr hu, rfl⟩
    · left
      rw [b2] at hu
      obtain ⟨v, hv, rfl⟩ := List.mem_map.mp hu
      have hv := List.mem_reverse.mp hv
      rw [(flT_uv (E.auv v hv)).2]
      exact hv
  · rintro (ht | ht)
    · refine ⟨flT t, List.mem_reverse.mpr ((F.ub.2 _).2 (.inr ?_)), (flT_uv (E.auv t ht)).2⟩
      rw [b2]
      exact List.mem_map.mpr ⟨t, List.mem_reverse.mpr ht, rfl⟩
    · rw [bk_eq] at ht
      obtain ⟨u, hu, rfl⟩ := List.mem_map.mp ht
      exact ⟨u, List.mem_reverse.mpr ((F.ub.2 u).2 (.inl (List.mem_reverse.mp hu))), rfl⟩
end
end
end My
set_option Elab.async false
set_option linter.all false
set_option maxRecDepth 100000
set_option maxHeartbeats 4000000
namespace My
open PySem L2 PyProof.Rows
section
variable {P : Program} {w : World} {K : PySem.W.Frag} {mg : Str → Option Value} {base : Heap}
noncomputable def trT (c d : Fr) (t : L2.T) : L2.T := vc (trx (cx t).1 (cx t).2 c d) (trY (cx t).1 (cx t).2 c d)
theorem trT_vc (c d a b : Fr) : trT c d (vc a b) = vc (trx a b c d) (trY a b c d) := rfl
section
variable {x y p q c d : Fr} {e f g : Nat} {s : Int} {m m' : Nat}
theorem dot_tr (h : UnE x y e) (k : UnE p q f) (w : UnE c d g) : fdot (trx x y c d) (trY x y c d) (trx p q c d) (trY p q c d) = fdot x y p q := by
  have a := (h.trU w).nv
  have b := (k.trU w).nv
  refine val_inj (nrm_dot a b) (nrm_dot h.nv k.nv) ?_
  rw [val_dot a b, val_dot h.nv k.nv, val_trx h.nv w.nv, val_trY h.nv w.nv, val_trx k.nv w.nv, val_trY k.nv w.nv]
  have := w.one
  grind
theorem cross_tr (h : UnE x y e) (k : UnE p q f) (w : UnE c d g) : fcross (trx x y c d) (trY x y c d) (trx p q c d) (trY p q c d) = fcross x y p q := by
  have a := (h.trU w).nv
  have b := (k.trU w).nv
  refine val_inj (nrm_cross a b) (nrm_cross h.nv k.nv) ?_
  rw [val_cross a b, val_cross h.nv k.nv, val_trx h.nv w.nv, val_trY h.nv w.nv, val_trx k.nv w.nv, val_trY k.nv w.nv]
  have := w.one
  grind
theorem hq_tr (h : UnE x y e) (k : UnE p q f) (w : UnE c d g) : hq (trx x y c d) (trY x y c d) (trx p q c d) (trY p q c d) ↔ hq x y p q := by
  unfold hq
  rw [dot_tr h k w, cross_tr h k w]
theorem left_tr (h : UnE x y e) (w : UnE c d g) : trx (fneg y) x c d = fneg (trY x y c d) ∧ trY (fneg y) x c d = trx x y c d := by
  have a := (h.trU w).nv
  have l := h.left
  have b := (l.trU w).nv
  constructor
  · refine val_inj b.x (nrm_neg a.y) ?_
    rw [val_trx l.nv w.nv, val_neg a.y, val_trY h.nv w.nv, val_neg h.nv.y]
    grind
  · refine val_inj b.y a.x ?_
    rw [val_trY l.nv w.nv, val_trx h.nv w.nv, val_neg h.nv.y]
    grind
theorem rem_tr (k : UnE p q f) (w : UnE c d g) : ∀ (m : Nat) (x y : Fr), UnE x y e → Rem p q m x y → Rem (trx p q c d) (trY p q c d) m (trx x y c d) (trY x y c d)
  | 0, x, y, h, r => fun hh => r ((hq_tr h k w).1 hh)
  | m + 1, x, y, h, r => by
    refine ⟨(hq_tr h k w).2 r.1, ?_⟩
    have := rem_tr k w m (fneg y) x h.left r.2
    rw [(left_tr h w).1, (left_tr h w).2] at this
    exact this
theorem el_tr (h : UnE x y e) (w : UnE c d g) {t : Fr} (n : Nrm t) : elT (trx x y c d) (trY x y c d) t = trT c d (elT x y t) := by
  have u := un_ct n (Nat.le_refl _)
  have a := h.trU w
  have b := h.trU u
  have e1 : trx (trx x y c d) (trY x y c d) (cT t) (sT t) = trx (trx x y (cT t) (sT t)) (trY x y (cT t) (sT t)) c d := by
    refine val_inj (a.trU u).nv.x (b.trU w).nv.x ?_
    rw [val_trx a.nv u.nv, val_trx b.nv w.nv, val_trx h.nv w.nv, val_trY h.nv w.nv, val_trx h.nv u.nv, val_trY h.nv u.nv]
    grind
  have e2 : trY (trx x y c d) (trY x y c d) (cT t) (sT t) = trY (trx x y (cT t) (sT t)) (trY x y (cT t) (sT t)) c d := by
    refine val_inj (a.trU u).nv.y (b.trU w).nv.y ?_
    rw [val_trY a.nv u.nv, val_trY b.nv w.nv, val_trx h.nv w.nv, val_trY h.nv w.nv, val_trx h.nv u.nv, val_trY h.nv u.nv]
    grind
  unfold elT
  rw [trT_vc, e1, e2]
theorem els_tr (h : UnE x y e) (w : UnE c d g) {t : Fr} (n : Nrm t) (hs : s = 1 ∨ s = 2 ∨ s = 3) : els (trx x y c d) (trY x y c d) t s = (els x y t s).map (trT c d) := by
  unfold els
  rw [List.map_map]
  refine List.map_congr_left fun k _ => ?_
  exact el_tr h w (nrm_mul n (low_nrm (by omega)))
theorem tr_inj (h : UnE x y e) (k : UnE p q f) (w : UnE c d g) (z1 : trx x y c d = trx p q c d) (z2 : trY x y c d = trY p q c d) : x = p ∧ y = q := by
  have a := val_trx h.nv w.nv
  have b := val_trY h.nv w.nv
  rw [z1, val_trx k.nv w.nv] at a
  rw [z2, val_trY k.nv w.nv] at b
  have o := w.one
  have f1 : val x = val p := by
    have g1 : val x = (val x * val c - val y * val d) * val c + (val x * val d + val y * val c) * val d := by grind
    rw [g1, ← a, ← b]; grind
  have f2 : val y = val q := by
    have g1 : val y = (val x * val d + val y * val c) * val c - (val x * val c - val y * val d) * val d := by grind
    rw [g1, ← a, ← b]; grind
  exact ⟨val_inj h.nv.x k.nv.x f1, val_inj h.nv.y k.nv.y f2⟩
theorem rest_tr (h : UnE x y e) (k : UnE p q f) (w : UnE c d g) (hs : s = 1 ∨ s = 2 ∨ s = 3) (r : ¬ hq x y p q) : restL (trx p q c d) (trY p q c d) s (trx x y c d) (trY x y c d) = (restL p q s x y).map (trT c d) := by
  unfold restL
  by_cases z : x = p ∧ y = q
  · rw [if_pos z, if_pos (by rw [z.1, z.2]; exact ⟨rfl, rfl⟩)]; rfl
  · rw [if_neg z, if_neg (fun z' => z (tr_inj h k w z'.1 z'.2))]
    have e1 : tng (trx x y c d) (trY x y c d) (trx p q c d) (trY p q c d) = tng x y p q := by unfold tng; rw [cross_tr h k w, dot_tr h k w]
    rw [e1]
    exact els_tr h w (szU_tng h k (under_ne h.nv k.nv r)).1 hs
theorem qb_tr (k : UnE p q f) (w : UnE c d g) (hs : s = 1 ∨ s = 2 ∨ s = 3) : ∀ (m : Nat) (x y : Fr), UnE x y e → Rem p q m x y → qb (trx p q c d) (trY p q c d) s m (trx x y c d) (trY x y c d) = (qb p q s m x y).map (trT c d)
  | 0, x, y, h, r => rest_tr h k w hs r
  | m + 1, x, y, h, r => by
    show els (trx x y c d) (trY x y c d) (1, 1) s ++ qb (trx p q c d) (trY p q c d) s m (fneg (trY x y c d)) (trx x y c d) = (els x y (1, 1) s ++ qb p q s m (fneg y) x).map (trT c d)
    rw [List.map_append, els_tr h w (nrm_int 1) hs, ← qb_tr k w hs m (fneg y) x h.left r.2, (left_tr h w).1, (left_tr h w).2]
theorem al_tr (h : UnE x y e) (k : UnE p q f) (w : UnE c d g) (hs : s = 1 ∨ s = 2 ∨ s = 3) (r : Rem p q m x y) : aL (trx x y c d) (trY x y c d) (trx p q c d) (trY p q c d) s m = (aL x y p q s m).map (trT c d) := by
  unfold aL
  rw [List.map_cons, trT_vc, qb_tr k w hs m x y h r]
theorem flip_tr (h : UnE x y e) (w : UnE c d g) : fneg (trx x y c d) = trx (fneg x) y c (fneg d) ∧ trY x y c d = trY (fneg x) y c (fneg d) := by
  have a := (h.trU w).nv
  have l := h.flip
  have w' := w.mir
  have b := (l.trU w').nv
  constructor
  · refine val_inj (nrm_neg a.x) b.x ?_
    rw [val_trx l.nv w'.nv, val_neg a.x, val_trx h.nv w.nv, val_neg h.nv.x, val_neg w.nv.y]
    grind
  · refine val_inj a.y b.y ?_
    rw [val_trY l.nv w'.nv, val_trY h.nv w.nv, val_neg h.nv.x, val_neg w.nv.y]
    grind
theorem flT_tr {t : L2.T} (h : Uv e t) (w : UnE c d g) : flT (trT c (fneg d) t) = trT c d (flT t) := by
  obtain ⟨a, b, rfl, u⟩ := h
  have := flip_tr u w.mir
  rw [fneg2] at this
  rw [trT_vc, flT_vc, flT_vc, trT_vc, this.1, this.2]
theorem Ends.bk_tr (E : Ends x y p q e f s m m') (w : UnE c d g) : bkL (trx x y c d) (trY x y c d) (trx p q c d) (trY p q c d) s m' = (bkL x y p q s m').map (trT c d) := by
  have F := E.flip
  have e1 : aL (fneg (trx p q c d)) (trY p q c d) (fneg (trx x y c d)) (trY x y c d) s m' = (aL (fneg p) q (fneg x) y s m').map (trT c (fneg d)) := by
    rw [(flip_tr E.k w).1, (flip_tr E.k w).2, (flip_tr E.h w).1, (flip_tr E.h w).2]
    exact al_tr E.k.flip E.h.flip w.mir E.hs E.r'
  rw [bk_eq, bk_eq, e1, ← List.map_reverse, List.map_map, List.map_map]
  refine List.map_congr_left fun t ht => ?_
  exact flT_tr (F.auv t (List.mem_reverse.mp ht)) w
theorem Ends.turn (E : Ends x y p q e f s m m') (w : UnE c d g) (b1 : e + f + 2 * g + 2 ≤ 140) (b2 : e + g + 1 ≤ 100) (b3 : f + g + 1 ≤ 100) : Ends (trx x y c d) (trY x y c d) (trx p q c d) (trY p q c d) (e + g + 1) (f + g + 1) s m m' := by
  refine ⟨E.h.trU w, E.k.trU w, by omega, b2, b3, E.hs, E.hm, E.hm', rem_tr E.k w m x y E.h E.r, ?_⟩
  have := rem_tr E.h.flip w.mir m' (fneg p) q E.k.flip E.r'
  rw [← (flip_tr E.k w).1, ← (flip_tr E.k w).2, ← (flip_tr E.h w).1, ← (flip_tr E.h w).2] at this
  exact this
theorem kf_tr {t : L2.T} (h : UnE x y e) (ht : Uv f t) (w : UnE c d g) : kf (trx x y c d) (trY x y c d) (trT c d t) = kf x y t := by
  obtain ⟨a, b, rfl, u⟩ := ht
  rw [trT_vc, kf_vc, kf_vc, val_trx h.nv w.nv, val_trY h.nv w.nv, val_trx u.nv w.nv, val_trY u.nv w.nv]
  have o := w.one
  have e1 : (val x * val c - val y * val d) * (val a * val c - val b * val d) + (val x * val d + val y * val c) * (val a * val d + val b * val c) = val x * val a + val y * val b := by grind
  have e2 : (val x * val c - val y * val d) * (val a * val d + val b * val c) - (val x * val d + val y * val c) * (val a * val c - val b * val d) = val x * val b - val y * val a := by grind
  rw [e1, e2]
theorem Ends.tr (E : Ends x y p q e f s m m') (w : UnE c d g) (b1 : e + f + 2 * g + 2 ≤ 140) (b2 : e + g + 1 ≤ 100) (b3 : f + g + 1 ≤ 100) : ubL (trx x y c d) (trY x y c d) (trx p q c d) (trY p q c d) s m m' = (ubL x y p q s m m').map (trT c d) := by
  have F := E.turn w b1 b2 b3
  refine ss_ext F.ub.1 ?_ fun t => ?_
  · unfold SS
    rw [List.pairwise_map]
    refine List.Pairwise.imp_of_mem ?_ E.ub.1
    intro u v hu hv huv
    rw [kf_tr E.h (E.uuv u hu) w, kf_tr E.h (E.uuv v hv) w]
    exact huv
  · rw [F.ub.2, al_tr E.h E.k w E.hs E.r, E.bk_tr w, List.mem_map, List.mem_map, List.mem_map]
    constructor
    · rintro (⟨u, hu, z⟩ | ⟨u, hu, z⟩)
      · exact ⟨u, (E.ub.2 u).2 (.inl hu), z⟩
      · exact ⟨u, (E.ub.2 u).2 (.inr hu), z⟩
    · rintro ⟨u, hu, z⟩
      rcases (E.ub.2 u).1 hu with h | h
      · exact .inl ⟨u, h, z⟩
      · exact .inr ⟨u, h, z⟩
end
theorem shift {da ca du cu dv cv : Rat} (oa : da * da + ca * ca = 1) (ou : du * du + cu * cu = 1) (ov : dv * dv + cv * cv = 1) (h1 : key da ca ≤ key du cu) (h2 : key du cu < key dv cv) : key (da * du + ca * cu) (da * cu - ca * du) < key (da * dv + ca * cv) (da * cv - ca * dv) := by
  have Ou := dc_one oa ou
  have Ov := dc_one oa ov
  have back : ∀ {t s : Rat}, t * t + s * s = 1 → da * t + ca * s = 1 → t = da ∧ s = ca := fun {t s} o z => by
    have O := dc_one oa o
    rw [z] at O
    have z2 : (da * s - ca * t) * (da * s - ca * t) = 0 := by grind
    have z3 : da * s - ca * t = 0 := by rcases Rat.mul_eq_zero.mp z2 with a | a <;> exact a
    constructor
    · have : t = da * (da * t + ca * s) - ca * (da * s - ca * t) := by grind
      rw [z, z3] at this; grind
    · have : s = ca * (da * t + ca * s) + da * (da * s - ca * t) := by grind
      rw [z, z3] at this; grind
  have nv : da * dv + ca * cv ≠ 1 := fun z => by
    obtain ⟨e1, e2⟩ := back ov z
    rw [e1, e2] at h2
    grind
  by_cases eq : key da ca = key du cu
  · obtain ⟨e1, e2⟩ := key_inj oa ou eq
    rw [← e1, ← e2, oa]
    have : da * ca - ca * da = 0 := by grind
    rw [this, key_one (by grind)]
    exact key_pos Ov nv
  have lt : key da ca < key du cu := by grind
  have nu : da * du + ca * cu ≠ 1 := fun z => by
    obtain ⟨e1, e2⟩ := back ou z
    rw [e1, e2] at lt
    grind
  by_cases base : da = 1
  · have c0 : ca = 0 := by
      rw [base] at oa
      have : ca * ca = 0 := by grind
      rcases Rat.mul_eq_zero.mp this with a | a <;> exact a
    rw [base, c0]
    have e1 : 1 * du + 0 * cu = du := by grind
    have e2 : 1 * cu - 0 * du = cu := by grind
    have e3 : 1 * dv + 0 * cv = dv := by grind
    have e4 : 1 * cv - 0 * dv = cv := by grind
    rw [e1, e2, e3, e4]
    exact h2
  have ka := key_nonneg oa
  have n1 : du ≠ 1 := fun z => by
    rw [z] at ou
    rw [z, key_one ou] at lt
    grind
  have n2 : dv ≠ 1 := fun z => by
    rw [z] at ov
    rw [z, key_one ov] at h2
    grind
  have a1 := (key_area oa ou base n1).1 lt
  have a2 := (key_area ou ov n1 n2).1 h2
  obtain ⟨_, ba⟩ := unit_bounds oa
  obtain ⟨_, bu⟩ := unit_bounds ou
  obtain ⟨_, bv⟩ := unit_bounds ov
  have t := (cyc_trans (ca := ca) (wa := 1 - da) (cv := cu) (wv := 1 - du) (cu := cv) (wu := 1 - dv) (by grind) (by grind) (by grind) (by grind) (by grind) (by grind) a1 a2).2
  refine (key_area Ou Ov nu nv).2 ?_
  have id : (da * cu - ca * du) * (1 - (da * dv + ca * cv)) - (da * cv - ca * dv) * (1 - (da * du + ca * cu)) = (ca * (1 - du) - cu * (1 - da)) + (cu * (1 - dv) - cv * (1 - du)) - (ca * (1 - dv) - cv * (1 - da)) := by grind
  rw [id]
  exact t
theorem quarter {du cu dv cv db cb : Rat} (ou : du * du + cu * cu = 1) (ov : dv * dv + cv * cv = 1) (ob : db * db + cb * cb = 1) (h1 : key du cu < key dv cv) (h2 : key dv cv ≤ key db cb) (c0 : 0 < cb) (d0 : 0 ≤ db) : 0 < du * cv - cu * dv ∧ 0 ≤ du * dv + cu * cv := by
  have kb : key db cb ≤ 1 := by unfold key; rw [if_pos (by grind)]; grind
  have low : ∀ {d c : Rat}, d * d + c * c = 1 → key d c ≤ 1 → 0 ≤ c ∧ 0 ≤ d ∧ key d c = 1 - d := fun {d c} o h => by
    obtain ⟨a, b⟩ := unit_bounds o
    unfold key at h ⊢
    by_cases hc : 0 ≤ c
    · rw [if_pos hc] at h ⊢
      exact ⟨hc, by grind, rfl⟩
    · rw [if_neg hc] at h
      obtain ⟨a', b'⟩ := unit_strict o (by grind)
      grind
  obtain ⟨v1, v2, v3⟩ := low ov (by grind)
  obtain ⟨u1, u2, u3⟩ := low ou (by grind)
  have lt : dv < du := by grind
  have p1 := Rat.mul_nonneg u2 v2
  have p2 := Rat.mul_nonneg u1 v1
  refine ⟨?_, by grind⟩
  have cv0 : 0 < cv := by
    by_cases z : cv = 0
    · rw [z] at ov
      obtain ⟨_, b⟩ := unit_bounds ou
      rcases unit_zero ov with w | w <;> grind
    · grind
  by_cases z : cu = 0
  · rw [z] at ou ⊢
    rcases unit_zero ou with w | w
    · rw [w]; grind
    · grind
  · exact (up_iff ou ov (by grind) cv0).2 lt
theorem between {k : L2.T → Rat} {r : Rat} : ∀ {l : List L2.T} {a : L2.T}, srt k a l → chn a l → k a ≤ r → r < k (lst a l) → ∃ u v, u ∈ a :: l ∧ v ∈ a :: l ∧ Nb u v ∧ k u ≤ r ∧ r < k v := by
  intro l
  induction l with
  | nil => intro a _ _ h1 h2; have h2 : r < k a := h2; grind
  | cons b l ih =>
    intro a hs hc h1 h2
    by_cases c : k b ≤ r
    · obtain ⟨u, v, hu, hv, n, q1, q2⟩ := ih hs.2 hc.2 c h2
      exact ⟨u, v, List.mem_cons_of_mem _ hu, List.mem_cons_of_mem _ hv, n, q1, q2⟩
    · exact ⟨a, b, by simp, by simp, hc.1, h1, by grind⟩
theorem ss_next {k : L2.T → Rat} {l : List L2.T} {i : Nat} {u v b : L2.T} (h : SS k l) (hu : l[i]? = some u) (hv : l[i + 1]? = some v) (hb : b ∈ l) (lt : k u < k b) : k v ≤ k b := by
  obtain ⟨j, hj⟩ := List.getElem?_of_mem hb
  obtain ⟨i1, e1⟩ := List.getElem?_eq_some_iff.mp hu
  obtain ⟨i2, e2⟩ := List.getElem?_eq_some_iff.mp hv
  obtain ⟨j1, e3⟩ := List.getElem?_eq_some_iff.mp hj
  have pw := List.pairwise_iff_getElem.mp h
  rcases Nat.lt_trichotomy j (i + 1) with c | c | c
  · rcases Nat.lt_or_ge j i with z | z
    · have := pw j i j1 i1 z
      rw [e1, e3] at this
      grind
    · have : j = i := by omega
      subst this
      rw [e1] at e3
      rw [e3] at lt
      grind
  · subst c
    rw [e2] at e3
    rw [e3]; exact Rat.le_refl
  · have := pw (i + 1) j i2 j1 c
    rw [e2, e3] at this
    exact Rat.le_of_lt this
theorem Ends.nbr {x y p q : Fr} {e f : Nat} {s : Int} {m m' : Nat} (E : Ends x y p q e f s m m') {i : Nat} {u v : L2.T} (hu : (ubL x y p q s m m')[i]? = some u) (hv : (ubL x y p q s m m')[i + 1]? = some v) :
    ∃ a b c d, u = vc a b ∧ v = vc c d ∧ UnE a b 400 ∧ UnE c d 400 ∧ 0 < val a * val d - val b * val c ∧ 0 ≤ val a * val c + val b * val d := by
  have mu := List.mem_of_getElem? hu
  have mv := List.mem_of_getElem? hv
  have luv : kf x y u < kf x y v := by
    obtain ⟨i1, e1⟩ := List.getElem?_eq_some_iff.mp hu
    obtain ⟨i2, e2⟩ := List.getElem?_eq_some_iff.mp hv
    have := List.pairwise_iff_getElem.mp E.ub.1 i (i + 1) i1 i2 (by omega)
    rw [e1, e2] at this
    exact this
  have l2 : kf x y u < kf x y (lst (vc x y) (qb p q s m x y)) := by
    rw [E.chn.2]
    have := E.umax v mv
    grind
  obtain ⟨a, b, ha, hb, nb, q1, q2⟩ := between E.srt E.chn.1 (E.umin u mu) l2
  have q3 := ss_next E.ub.1 hu hv ((E.ub.2 b).2 (.inl hb)) q2
  obtain ⟨u1, u2, rfl, uu⟩ := E.uuv u mu
  obtain ⟨v1, v2, rfl, uv⟩ := E.uuv v mv
  obtain ⟨a1, a2, rfl, ua⟩ := E.auv a ha
  obtain ⟨b1, b2, rfl, ub⟩ := E.auv b hb
  obtain ⟨a1', a2', b1', b2', z1, z2, _, _, _, c0, d0⟩ := nb.ex
  have z1 := congrArg cx z1
  have z2 := congrArg cx z2
  rw [cx_vc, cx_vc] at z1 z2
  cases z1
  cases z2
  refine ⟨u1, u2, v1, v2, rfl, rfl, uu, uv, ?_⟩
  rw [kf_vc, kf_vc] at q1 luv q3
  have o := E.h.one
  have Oa := dc_one o ua.one
  have Ou := dc_one o uu.one
  have Ov := dc_one o uv.one
  have Ob := dc_one o ub.one
  have s1 := shift Oa Ou Ov q1 luv
  have inv : ∀ t1 t2 r1 r2 : Rat, (val x * t1 + val y * t2) * (val x * r1 + val y * r2) + (val x * t2 - val y * t1) * (val x * r2 - val y * r1) = t1 * r1 + t2 * r2 := fun t1 t2 r1 r2 => by grind
  have inw : ∀ t1 t2 r1 r2 : Rat, (val x * t1 + val y * t2) * (val x * r2 - val y * r1) - (val x * t2 - val y * t1) * (val x * r1 + val y * r2) = t1 * r2 - t2 * r1 := fun t1 t2 r1 r2 => by grind
  rw [inv, inw, inv, inw] at s1
  have s2 : key (val a1 * val v1 + val a2 * val v2) (val a1 * val v2 - val a2 * val v1) ≤ key (val a1 * val b1 + val a2 * val b2) (val a1 * val b2 - val a2 * val b1) := by
    by_cases z : key (val x * val v1 + val y * val v2) (val x * val v2 - val y * val v1) = key (val x * val b1 + val y * val b2) (val x * val b2 - val y * val b1)
    · have := kf_inj E.h ⟨v1, v2, rfl, uv⟩ ⟨b1, b2, rfl, ub⟩ z
      have := congrArg cx this
      rw [cx_vc, cx_vc] at this
      cases this
      exact Rat.le_refl
    · have s3 := shift Oa Ov Ob (by grind) (show _ < _ by grind)
      rw [inv, inw, inv, inw] at s3
      exact Rat.le_of_lt s3
  have fin := quarter (dc_one ua.one uu.one) (dc_one ua.one uv.one) (dc_one ua.one ub.one) s1 s2 c0 d0
  have oa := ua.one
  have i1 : (val a1 * val u1 + val a2 * val u2) * (val a1 * val v2 - val a2 * val v1) - (val a1 * val u2 - val a2 * val u1) * (val a1 * val v1 + val a2 * val v2) = val u1 * val v2 - val u2 * val v1 := by grind
  have i2 : (val a1 * val u1 + val a2 * val u2) * (val a1 * val v1 + val a2 * val v2) + (val a1 * val u2 - val a2 * val u1) * (val a1 * val v2 - val a2 * val v1) = val u1 * val v1 + val u2 * val v2 := by grind
  rw [i1, i2] at fin
  exact fin
end
end My
set_option Elab.async false
set_option linter.all false
set_option maxRecDepth 100000
set_option maxHeartbeats 4000000
namespace My
open PySem L2 PyProof.Rows
section
variable {P : Program} {w : World} {K : PySem.W.Frag} {mg : Str → Option Value} {base : Heap}
theorem compLI_inv {g : FG} {Fb : FB} {Fe : FE} {items : List T} {E : En} {Q : En → Prop} (W : Nat → En → Prop) (h0 : W 0 E)
    (hs : ∀ i x rest E, items[i]? = some x → W i E → (∀ E', W (i + 1) E' → compLI g Fb Fe rest E' Q) → compLI g Fb Fe (x :: rest) E Q) (hd : ∀ E, W items.length E → Q E) : compLI g Fb Fe items E Q := by
  have key : ∀ n i E, items.length - i = n → i ≤ items.length → W i E → compLI g Fb Fe (items.drop i) E Q := by
    intro n
    induction n with
    | zero =>
      intro i E e hi h
      obtain rfl : i = items.length := by omega
      rw [List.drop_length]
      exact hd E h
    | succ n ih =>
      intro i E e hi h
      have hlt : i < items.length := by omega
      rw [List.drop_eq_getElem_cons hlt]
      exact hs i _ _ E (List.getElem?_eq_getElem hlt) h fun E' h' => ih (i + 1) E' (by omega) (by omega) h'
  exact key _ 0 E rfl (Nat.zero_le _) h0
noncomputable abbrev s_mirrored : Stmt := top 38
theorem sc_mirrored : FnScope ["_law_unit"] ["_law_unit"] (defScope s_mirrored) := ⟨rfl, rfl, rfl, by decide +kernel, rfl, by decide +kernel, by decide +kernel⟩
theorem ok_mirrored {f : Addr} {fd : FuncData} (F : Fun K "_law_mirrored" "_law_mirrored" s_mirrored f fd) (TX : Txt mg)   : FnOk P w K mg base CX0 1 f fd ["_law_unit"] (spOf K tFlip) := by
  refine F.okT sc_mirrored ?len (fun cdv A outer s H E hr => (fb_one (fs_ret (fe_tup (fc (fe_tup (fc (fe_neg (fe_ix rfl (fe_ix rfl (fv 0) fe_int (fun _ _ => rfl)) fe_int (fun _ _ => rfl))) (fc (fe_ix rfl (fe_ix rfl (fv 0) fe_int (fun _ _ => rfl)) fe_int (fun _ _ => rfl)) fa_nil))) (fc (fe_ix rfl (fv 0) fe_int (fun _ _ => rfl)) fa_nil)))))) ?rd
  case len => rintro as Q ⟨x, y, rfl, _⟩; rfl
  case rd =>
    rintro as Q ⟨x, y, rfl, q⟩
    exact ⟨rfl, q⟩
noncomputable def tThird : SpT := fun as Q => ∃ (x y p q : Fr) (e f : Nat), as = [.v (vc x y), .v (vc p q)] ∧ UnE x y e ∧ UnE p q f ∧ e + f ≤ 3000 ∧ Q (.v (.int (trd (val x * val p + val y * val q) (val x * val q - val y * val p)))) []
theorem int_eqT (i j : Int) : L2.eqT (.int i) (.int j) = decide (i = j) := by
  by_cases h : i = j
  · rw [decide_eq_true h, h, eqT_refl]
  · rw [decide_eq_false h]; simp [L2.eqT]; omega
noncomputable abbrev s_third : Stmt := top 39
theorem sc_third : FnScope ["_law_first", "_law_unit", "_law_side"] ["_law_first", "_law_unit"] (defScope s_third) := ⟨rfl, rfl, rfl, by decide +kernel, rfl, by decide +kernel, by decide +kernel⟩
theorem ok_third {f : Addr} {fd : FuncData} (F : Fun K "_law_third" "_law_third" s_third f fd) (TX : Txt mg) (g_lcross : Fn P w K mg base 3 "_law_cross" ["_law_p", "_law_q"] (spOf K (tVV fcross)))  : FnOk P w K mg base CX0 4 f fd ["_law_first", "_law_unit"] (spOf K tThird) := by
  refine F.okT sc_third ?len (fun cdv A outer s H E hr => (fb_cons (fs_set (i := 2) sc_third.nd rfl (Or.inl rfl) (fe_ix rfl (fe_call g_lcross hr (by omega) rfl (fc (fv 0) (fc (fv 1) fa_nil))) fe_int (fun _ _ => rfl)))
  (fb_cons (fs_if (ft_ne rfl hr (fv 2) fe_int (nomark _)) (fb_one (fs_ret (fe_if (ft_cp op_gt (fv 2) fe_int (nomark _)) fe_int fe_int))) fb_nil)
  (fb_one (fs_ret (fe_if (ft_eq rfl hr (fv 1) (fv 0) (nomark _)) fe_int fe_int)))))) ?rd
  case len => rintro as Q ⟨x, y, p, q, e, f, rfl, _⟩; rfl
  case rd =>
    rintro as Q ⟨x, y, p, q, e, f, rfl, h, k, he, z⟩
    have n := nrm_cross h.nv k.nv
    have vg := val_gt n
    have vl := val_lt n
    rw [val_cross h.nv k.nv] at vg vl
    have o := h.one
    unfold trd at z
    refine ⟨x, y, p, q, e, f, rfl, h.nv, k.nv, he, Nat.zero_le _, ?_⟩
    show if (!L2.eqT (.int (fcross x y p q).1) (.int 0)) = true then _ else _
    rw [int_eqT]
    by_cases c : (fcross x y p q).1 = 0
    · rw [decide_eq_true c, if_neg (by decide)]
      have c0 : val x * val q - val y * val p = 0 := by
        have g1 : ¬ 0 < val x * val q - val y * val p := fun w => by have := vg.1 w; omega
        have g2 : ¬ val x * val q - val y * val p < 0 := fun w => by have := vl.1 w; omega
        grind
      rw [if_pos c0] at z
      refine ⟨le_ok rfl, ?_⟩
      show if L2.eqT (vc p q) (vc x y) = true then _ else _
      rw [eq_vc]
      by_cases w : p = x ∧ q = y
      · rw [decide_eq_true w, if_pos rfl]
        rw [if_pos (by rw [w.1, w.2]; exact o)] at z
        exact ⟨rfl, z⟩
      · rw [decide_eq_false w, if_neg (by decide)]
        rw [if_neg (fun d => w ⟨val_inj k.nv.x h.nv.x (by
          have g1 : val p = val x * (val x * val p + val y * val q) - val y * (val x * val q - val y * val p) := by grind
          rw [d, c0] at g1; grind), val_inj k.nv.y h.nv.y (by
          have g1 : val q = val y * (val x * val p + val y * val q) + val x * (val x * val q - val y * val p) := by grind
          rw [d, c0] at g1; grind)⟩)] at z
        exact ⟨rfl, z⟩
    · rw [decide_eq_false c, if_pos (by decide)]
      have c0 : ¬ val x * val q - val y * val p = 0 := fun w => c (by
        have g1 : ¬ 0 < (fcross x y p q).1 := fun a => by have := vg.2 a; grind
        have g2 : ¬ (fcross x y p q).1 < 0 := fun a => by have := vl.2 a; grind
        omega)
      rw [if_neg c0] at z
      show if decide (0 < (fcross x y p q).1) = true then _ else _
      by_cases w : 0 < (fcross x y p q).1
      · rw [decide_eq_true w, if_pos rfl]
        rw [if_pos (vg.2 w)] at z
        exact ⟨rfl, z⟩
      · rw [decide_eq_false w, if_neg (by decide)]
        rw [if_neg (fun a => w (vg.1 a))] at z
        exact ⟨rfl, z⟩
noncomputable def tAhead : SpT := fun as Q => ∃ (x y a b c d : Fr) (e f : Nat), as = [.v (vc x y), .v (vc a b), .v (vc c d)] ∧ UnE x y e ∧ UnE a b f ∧ UnE c d f ∧ e + f ≤ 3000 ∧ f ≤ 1500 ∧ Q (.v (.bl (decide (kf x y (vc a b) < kf x y (vc c d))))) []
noncomputable abbrev s_ahead : Stmt := top 40
theorem sc_ahead : FnScope ["_law_first", "_law_one", "_law_other", "_law_parts"] ["_law_first", "_law_one", "_law_other"] (defScope s_ahead) := ⟨rfl, rfl, rfl, by decide +kernel, rfl, by decide +kernel, by decide +kernel⟩
theorem ok_ahead {f : Addr} {fd : FuncData} (F : Fun K "_law_ahead" "_law_ahead" s_ahead f fd) (TX : Txt mg) (g_third : Fn P w K mg base 4 "_law_third" ["_law_first", "_law_unit"] (spOf K tThird)) (g_lcross : Fn P w K mg base 3 "_law_cross" ["_law_p", "_law_q"] (spOf K (tVV fcross)))  : FnOk P w K mg base CX0 5 f fd ["_law_first", "_law_one", "_law_other"] (spOf K tAhead) := by
  refine F.okT sc_ahead ?len (fun cdv A outer s H E hr => (fb_cons (fs_set (i := 3) sc_ahead.nd rfl (Or.inl rfl) (fe_tup (fc (fe_call g_third hr (by omega) rfl (fc (fv 0) (fc (fv 1) fa_nil))) (fc (fe_call g_third hr (by omega) rfl (fc (fv 0) (fc (fv 2) fa_nil))) fa_nil))))
  (fb_one (fs_ret (fe_if (ft_ne rfl hr (fe_ix rfl (fv 3) fe_int (fun _ _ => rfl)) (fe_ix rfl (fv 3) fe_int (fun _ _ => rfl)) (nomark _)) (fe_cp op_lt (fe_ix rfl (fv 3) fe_int (fun _ _ => rfl)) (fe_ix rfl (fv 3) fe_int (fun _ _ => rfl)) (nomark _)) (fe_cp op_gt (fe_ix rfl (fe_call g_lcross hr (by omega) rfl (fc (fv 1) (fc (fv 2) fa_nil))) fe_int (fun _ _ => rfl)) fe_int (nomark _))))))) ?rd
  case len => rintro as Q ⟨x, y, a, b, c, d, e, f, rfl, _⟩; rfl
  case rd =>
    rintro as Q ⟨x, y, a, b, c, d, e, f, rfl, h, k1, k2, he, hf, z⟩
    have ka := key_ahead (dc_one h.one k1.one) (dc_one h.one k2.one)
    rw [kf_vc, kf_vc] at z
    refine ⟨x, y, a, b, e, f, rfl, h, k1, he, x, y, c, d, e, f, rfl, h, k2, he, Nat.zero_le _, ?_⟩
    generalize hA : trd (val x * val a + val y * val b) (val x * val b - val y * val a) = A at ka ⊢
    generalize hB : trd (val x * val c + val y * val d) (val x * val d - val y * val c) = B at ka ⊢
    show if (!L2.eqT (.int A) (.int B)) = true then _ else _
    rw [int_eqT]
    by_cases w : A = B
    · rw [decide_eq_true w, if_neg (by decide)]
      rw [if_neg (fun z => z w)] at ka
      refine ⟨a, b, c, d, f, f, rfl, k1.nv, k2.nv, by omega, rfl, ?_⟩
      have o := h.one
      have inw : (val x * val a + val y * val b) * (val x * val d - val y * val c) - (val x * val b - val y * val a) * (val x * val c + val y * val d) = val a * val d - val b * val c := by grind
      rw [inw] at ka
      have vg := val_gt (nrm_cross k1.nv k2.nv)
      rw [val_cross k1.nv k2.nv] at vg
      have e1 : decide (0 < (fcross a b c d).1) = decide (key (val x * val a + val y * val b) (val x * val b - val y * val a) < key (val x * val c + val y * val d) (val x * val d - val y * val c)) := decide_eq_decide.mpr (vg.symm.trans ka)
      show Q (.v (.bl (decide (0 < (fcross a b c d).1)))) []
      rw [e1]
      exact z
    · rw [decide_eq_false w, if_pos (by decide)]
      rw [if_pos w] at ka
      refine ⟨rfl, ?_⟩
      have e1 : decide (A < B) = decide (key (val x * val a + val y * val b) (val x * val b - val y * val a) < key (val x * val c + val y * val d) (val x * val d - val y * val c)) := decide_eq_decide.mpr ka
      show Q (.v (.bl (decide (A < B)))) []
      rw [e1]
      exact z
end
end My
set_option Elab.async false
set_option linter.all false
set_option maxRecDepth 100000
set_option maxHeartbeats 4000000
namespace My
open PySem L2 PyProof.Rows
section
variable {P : Program} {w : World} {K : PySem.W.Frag} {mg : Str → Option Value} {base : Heap}
theorem ss_split {k : L2.T → Rat} (r : Rat) {l : List L2.T} (h : SS k l) : ∃ L R, l = L ++ R ∧ (∀ u ∈ L, k u < r) ∧ ∀ v ∈ R, ¬ k v < r := by
  induction l with
  | nil => exact ⟨[], [], rfl, (fun u hu => by cases hu), (fun u hu => by cases hu)⟩
  | cons a l ih =>
    have q := List.pairwise_cons.mp h
    by_cases c : k a < r
    · obtain ⟨L, R, e, h1, h2⟩ := ih q.2
      refine ⟨a :: L, R, by rw [e]; rfl, fun u hu => ?_, h2⟩
      rcases List.mem_cons.mp hu with rfl | hu
      · exact c
      · exact h1 u hu
    · refine ⟨[], a :: l, rfl, fun u hu => (by cases hu), fun v hv => ?_⟩
      rcases List.mem_cons.mp hv with rfl | hv
      · exact c
      · have := q.1 v hv; grind
theorem fil_split {k : L2.T → Rat} {r : Rat} {L R : List L2.T} (h1 : ∀ u ∈ L, k u < r) (h2 : ∀ v ∈ R, ¬ k v < r) : (L ++ R).filter (fun u => decide (k u < r)) = L := by
  rw [List.filter_append, List.filter_eq_self.mpr (fun u hu => decide_eq_true (h1 u hu)), List.filter_eq_nil_iff.mpr (fun v hv z => h2 v hv (of_decide_eq_true z)), List.append_nil]
theorem ss_ins {k : L2.T → Rat} {t : L2.T} {L R : List L2.T} (h : SS k (L ++ R)) (h1 : ∀ u ∈ L, k u < k t) (h2 : ∀ v ∈ R, k t < k v) : SS k (L ++ t :: R) := by
  obtain ⟨a, b, c⟩ := List.pairwise_append.mp h
  refine List.pairwise_append.mpr ⟨a, List.pairwise_cons.mpr ⟨h2, b⟩, fun u hu v hv => ?_⟩
  rcases List.mem_cons.mp hv with rfl | hv
  · exact h1 u hu
  · exact c u hu v hv
theorem inT_uv {e f : Nat} {t : L2.T} {F : List L2.T} (ht : Uv e t) (hF : ∀ u ∈ F, Uv f u) : inT t F = true ↔ t ∈ F := by
  unfold inT
  rw [List.any_eq_true]
  constructor
  · rintro ⟨u, hu, z⟩
    rw [← (eqT_uv (hF u hu) ht).1 z]; exact hu
  · intro h
    exact ⟨t, h, eqT_refl t⟩
theorem dTs_uve {e : Nat} : ∀ {U : List L2.T}, (∀ t ∈ U, Uv e t) → dTs U ≤ 2
  | [], _ => by decide
  | t :: U, h => by
    obtain ⟨a, b, rfl, _⟩ := h t (List.mem_cons_self ..)
    exact Nat.max_le.mpr ⟨le_ok rfl, dTs_uve fun u hu => h u (List.mem_cons_of_mem _ hu)⟩
theorem wTs_uve {e : Nat} : ∀ {U : List L2.T}, (∀ t ∈ U, Uv e t) → wTs U ≤ 2
  | [], _ => by decide
  | t :: U, h => by
    obtain ⟨a, b, rfl, _⟩ := h t (List.mem_cons_self ..)
    exact Nat.max_le.mpr ⟨le_ok rfl, wTs_uve fun u hu => h u (List.mem_cons_of_mem _ hu)⟩
theorem noLs_uve {e : Nat} {l : List L2.T} (h : ∀ t ∈ l, Uv e t) : noLs l = true := noLs_v fun t ht => by obtain ⟨a, b, e, _⟩ := h t ht; exact ⟨a, b, e⟩
noncomputable def tDue : SpT := fun as Q => ∃ (x y p q : Fr) (s : Int) (e f m m' : Nat), as = [.v (vc x y), .v (vc p q), .v (.int s)] ∧ Ends x y p q e f s m m' ∧ Q (.l (ubL x y p q s m m')) []
noncomputable abbrev s_due : Stmt := top 41
theorem sc_due : FnScope ["_law_one", "_law_other", "_law_steps", "_law_found", "_law_back", "_law_unit", "_law_at"] ["_law_one", "_law_other", "_law_steps"] (defScope s_due) := ⟨rfl, rfl, rfl, by decide +kernel, rfl, by decide +kernel, by decide +kernel⟩
theorem ok_due {f : Addr} {fd : FuncData} (F : Fun K "_law_due" "_law_due" s_due f fd) (TX : Txt mg) (g_quarters : Fn P w K mg base 5 "_law_quarters" ["_law_one", "_law_other", "_law_steps"] (spOf K tQb)) (g_mirrored : Fn P w K mg base 1 "_law_mirrored" ["_law_unit"] (spOf K tFlip)) (g_ahead : Fn P w K mg base 5 "_law_ahead" ["_law_first", "_law_one", "_law_other"] (spOf K tAhead))  : FnOk P w K mg base CX0 6 f fd ["_law_one", "_law_other", "_law_steps"] (spOf K tDue) := by
  refine F.okT sc_due ?len (fun cdv A outer s H E hr => (fb_cons (fs_set (i := 3) sc_due.nd rfl (Or.inl rfl) (fe_lst fa_nil))
  (fb_cons (fs_set (i := 4) sc_due.nd rfl (Or.inl rfl) (fe_call g_quarters hr (by omega) rfl (fc (fe_call g_mirrored hr (by omega) rfl (fc (fv 1) fa_nil)) (fc (fe_call g_mirrored hr (by omega) rfl (fc (fv 0) fa_nil)) (fc (fv 2) fa_nil)))))
  (fb_cons (fs_for PassesOwn.never rfl (fi_list rfl (fe_cat (fe_call g_quarters hr (by omega) rfl (fc (fv 0) (fc (fv 1) (fc (fv 2) fa_nil)))) (fe_comp (N' := ["_law_unit"]) (t := 1) (cap := []) rfl (CompOk.of rfl) rfl (by decide) (fi_list rfl (fv 4)) (fun _ _ _ _ => (fg_name (i := 0) (show List.Nodup (["_law_unit"] : List Str) by decide +kernel) rfl (Or.inl rfl) (Or.inr rfl))) (fun _ _ _ _ => (fe_call g_mirrored hr (by omega) rfl (fc (fv 0) fa_nil)))))) (fg_name (i := 5) sc_due.nd rfl (Or.inr rfl))
    (fb_cons (fs_set (i := 6) sc_due.nd rfl (Or.inl rfl) (fe_len rfl rfl TX.n_len (fc (fe_compIf (N' := ["_law_seen", "_law_one", "_law_unit"]) (t := 1) (cap := [(0, false), (5, false)]) rfl (CompOk.of rfl) rfl (by decide) (fi_list rfl (fv 3)) (fun _ _ _ _ => (fg_name (i := 0) (show List.Nodup (["_law_seen", "_law_one", "_law_unit"] : List Str) by decide +kernel) rfl (Or.inl rfl) (Or.inr rfl))) (fun _ _ _ _ => (ft_val (fe_call g_ahead hr (by omega) rfl (fc (fv 1) (fc (fv 0) (fc (fv 2) fa_nil)))))) (fun _ _ _ _ => (fv 0))) fa_nil)))
  (fb_one (fs_if (ft_nin rfl hr (fv 5) (fv 3) rfl) (fb_one (fs_expr (fe_insert rfl (fv 3) (fc (fv 6) (fc (fv 5) fa_nil))))) fb_nil))))
  (fb_one (fs_ret (fv 3))))))) ?rd
  case len => rintro as Q ⟨x, y, p, q, s, e, f, m, m', rfl, _⟩; rfl
  case rd =>
    rintro as Q ⟨x, y, p, q, s, e, f, m, m', rfl, E, z⟩
    have F := E.flip
    have la := len_qb p q E.hs m x y
    have lb := len_qb (fneg x) y E.hs m' (fneg p) q
    have hm := E.hm
    have hm' := E.hm'
    refine ⟨p, q, rfl, x, y, rfl, ?_⟩
    refine ⟨fneg p, q, fneg x, y, s, f, e, m', rfl, F.h, F.k, F.ef, E.hs, E.hm', E.r', ?_⟩
    refine ⟨x, y, p, q, s, e, f, m, rfl, E.h, E.k, E.ef, E.hs, E.hm, E.r, ?_⟩
    have auv := E.auv
    have buv := F.auv
    have mem : ∀ t, t ∈ ubL x y p q s m m' ↔ t ∈ aL x y p q s m ++ (aL (fneg p) q (fneg x) y s m').map flT := fun t => by
      rw [E.ub.2, List.mem_append, bk_eq, List.mem_map, List.mem_map]
      simp only [List.mem_reverse]
    have uss := E.ub.1
    have la' : (aL x y p q s m).length ≤ 20 := by rw [List.length_cons]; omega
    have lb' : (aL (fneg p) q (fneg x) y s m').length ≤ 20 := by rw [List.length_cons]; omega
    refine ⟨rfl, ?_⟩
    show compL _ _ (aL (fneg p) q (fneg x) y s m') _ _
    have nlA : noLs (aL x y p q s m) = true := noLs_uve auv
    change ∀ t ∈ aL x y p q s m, Uv 400 t at auv
    generalize hA : aL x y p q s m = AA at auv mem la' nlA
    generalize hB : aL (fneg p) q (fneg x) y s m' = BB at buv mem lb' ⊢
    refine compL_inv (fun i E => ∃ v0, E = [v0, some (.o false ((BB.take i).map flT))]) ⟨none, rfl⟩ ?_ ?_
    · rintro i t rest E' hi ⟨v0, rfl⟩ KK
      obtain ⟨a, b, rfl, _⟩ := buv t (List.mem_of_getElem? hi)
      have il := (List.getElem?_eq_some_iff.mp hi).1
      refine ⟨a, b, rfl, ?_, KK _ ⟨some (.p (vc a b)), ?_⟩⟩
      · show ((BB.take i).map flT).length < 1000
        rw [List.length_map, List.length_take]; omega
      · have e1 : BB.take (i + 1) = BB.take i ++ [vc a b] := by rw [List.take_add_one, hi]; rfl
        rw [e1, List.map_append]
        rfl
    · rintro E' ⟨v0, rfl⟩
      rw [List.take_length]
      have cuv : ∀ t ∈ BB.map flT, Uv 400 t := fun t ht => by
        obtain ⟨u, hu, rfl⟩ := List.mem_map.mp ht
        exact (flT_uv (buv u hu)).1
      have iuv : ∀ t ∈ AA ++ BB.map flT, Uv 400 t := fun t ht => by
        rcases List.mem_append.mp ht with h | h
        · exact auv t h
        · exact cuv t h
      have li : (AA ++ BB.map flT).length ≤ 40 := by rw [List.length_append, List.length_map]; omega
      refine ⟨noLs_uve cuv, ?_⟩
      refine ⟨by show (vc x y :: qb p q s m x y).length + (BB.map flT).length ≤ 1000; rw [List.length_cons, List.length_map]; omega, ?_⟩
      have hA' : vc x y :: qb p q s m x y = AA := hA
      refine (?_ : nfS _ _)
      rw [hA']
      generalize hI : AA ++ BB.map flT = I at mem iuv li ⊢
      refine loopT_inv (fun i E => ∃ (G : List L2.T) (v5 v6 : Option U), E = [some (.p (vc x y)), some (.p (vc p q)), some (.p (.int s)), some (.o false G), some (.o false (vc (fneg p) q :: qb (fneg x) y s m' (fneg p) q)), v5, v6] ∧ SS (kf x y) G ∧ (∀ t, t ∈ G ↔ t ∈ I.take i) ∧ G.length ≤ i) ⟨[], none, none, rfl, List.Pairwise.nil, fun t => by simp, Nat.le_refl _⟩ ?_ ?_
      · rintro i t rest E' hi ⟨G, v5, v6, rfl, gs, gm, gl⟩ KK
        have il := (List.getElem?_eq_some_iff.mp hi).1
        have ht := iuv t (List.mem_of_getElem? hi)
        have guv : ∀ u ∈ G, Uv 400 u := fun u hu => iuv u (List.mem_of_mem_take ((gm u).1 hu))
        have e1 : I.take (i + 1) = I.take i ++ [t] := by rw [List.take_add_one, hi]; rfl
        obtain ⟨L, R, eG, hL, hR⟩ := ss_split (kf x y t) gs
        have fil := fil_split hL hR
        rw [← eG] at fil
        obtain ⟨c, d, rfl, uc⟩ := id ht
        have ef := E.ef
        refine ⟨rfl, ?_⟩
        refine (?_ : compLI _ _ _ G _ _)
        refine compLI_inv (fun j E => ∃ v0, E = [v0, some (.p (vc x y)), some (.p (vc c d)), some (.o false ((G.take j).filter fun u => decide (kf x y u < kf x y (vc c d))))]) ⟨none, rfl⟩ ?_ ?_
        · rintro j u rest' E' hj ⟨v0, rfl⟩ KK'
          obtain ⟨a, b, rfl, ua⟩ := guv u (List.mem_of_getElem? hj)
          have jl := (List.getElem?_eq_some_iff.mp hj).1
          have e2 : G.take (j + 1) = G.take j ++ [vc a b] := by rw [List.take_add_one, hj]; rfl
          refine ⟨x, y, a, b, c, d, e, 400, rfl, E.h, ua, uc, by omega, by decide, ?_⟩
          show if decide (kf x y (vc a b) < kf x y (vc c d)) = true then _ else _
          by_cases lt : kf x y (vc a b) < kf x y (vc c d)
          · rw [decide_eq_true lt, if_pos rfl]
            refine ⟨?_, KK' _ ⟨some (.p (vc a b)), ?_⟩⟩
            · refine Nat.lt_of_le_of_lt (List.length_filter_le _ _) ?_
              rw [List.length_take]; omega
            · have f1 : [vc a b].filter (fun u => decide (kf x y u < kf x y (vc c d))) = [vc a b] := List.filter_eq_self.mpr fun u hu => by rw [List.mem_singleton] at hu; rw [hu]; exact decide_eq_true lt
              rw [e2, List.filter_append, f1]; rfl
          · rw [decide_eq_false lt, if_neg (by decide)]
            refine KK' _ ⟨some (.p (vc a b)), ?_⟩
            have f1 : [vc a b].filter (fun u => decide (kf x y u < kf x y (vc c d))) = [] := List.filter_eq_nil_iff.mpr fun u hu z => by rw [List.mem_singleton] at hu; rw [hu] at z; exact lt (of_decide_eq_true z)
            rw [e2, List.filter_append, f1, List.append_nil]
            rfl
        · rintro E' ⟨v0, rfl⟩
          rw [List.take_length, fil]
          refine ⟨noLs_uve (fun u hu => guv u (by rw [eG]; exact List.mem_append_left _ hu)), ?_⟩
          refine ⟨Nat.le_trans (dTs_uve guv) (by decide), ?_⟩
          show if (!(inT (vc c d) G)) = true then _ else _
          by_cases hin : inT (vc c d) G = true
          · rw [hin, if_neg (by decide)]
            have hin' := (inT_uv ht guv).1 hin
            refine KK _ ⟨G, _, _, rfl, gs, fun u => ?_, by omega⟩
            rw [e1, List.mem_append, gm, List.mem_singleton]
            constructor
            · intro h; exact .inl h
            · rintro (h | h)
              · exact h
              · rw [h]; exact (gm _).1 hin'
          · have hin' : inT (vc c d) G = false := by cases hh : inT (vc c d) G with
              | true => exact absurd hh hin
              | false => rfl
            rw [hin', if_pos (by decide)]
            have nin : vc c d ∉ G := fun h => hin ((inT_uv ht guv).2 h)
            have lL : L.length ≤ G.length := by rw [eG, List.length_append]; omega
            refine ⟨by omega, by show (L.length : Int) ≤ (G.length : Int); omega, by show G.length < 1000; omega, ?_⟩
            have tk : G.take ((L.length : Int)).toNat = L := by rw [eG, Int.toNat_natCast, List.take_left]
            have dr : G.drop ((L.length : Int)).toNat = R := by rw [eG, Int.toNat_natCast, List.drop_left]
            have eE : G.take ((L.length : Int)).toNat ++ vc c d :: G.drop ((L.length : Int)).toNat = L ++ vc c d :: R := by rw [tk, dr]
            refine KK _ ⟨L ++ vc c d :: R, _, _, by rw [← eE]; rfl, ?_, fun u => ?_, ?_⟩
            · refine ss_ins (by rw [← eG]; exact gs) hL fun v hv => ?_
              have h1 := hR v hv
              have hvG : v ∈ G := by rw [eG]; exact List.mem_append_right _ hv
              by_cases ee : kf x y v = kf x y (vc c d)
              · have := kf_inj E.h (guv v hvG) ht ee
                rw [this] at hvG
                exact absurd hvG nin
              · grind
            · have g := gm u
              rw [e1]
              rw [eG] at g
              simp only [List.mem_append, List.mem_cons, List.not_mem_nil, or_false] at g ⊢
              rw [← g]
              grind
            · have : G.length = L.length + R.length := by rw [eG, List.length_append]
              rw [List.length_append, List.length_cons]; omega
      · rintro E' ⟨G, v5, v6, rfl, gs, gm, gl⟩
        have eq : G = ubL x y p q s m m' := ss_ext gs uss fun t => by rw [gm, List.take_length, mem]
        rw [eq]
        exact ⟨noLs_uve E.uuv, z⟩
end
end My
set_option Elab.async false
set_option linter.all false
set_option maxRecDepth 100000
set_option maxHeartbeats 4000000
namespace My
open PySem L2 PyProof.Rows
section
variable {P : Program} {w : World} {K : PySem.W.Frag} {mg : Str → Option Value} {base : Heap}
theorem cut_drop (U : List L2.T) (k : Nat) : cutT U (some (k : Int)) none = U.drop k := by
  unfold cutT
  rw [HT.sIx_nat, HT.sIx_none]
  rcases Nat.le_total k U.length with c | c
  · rw [Nat.min_eq_left c]
    exact List.take_of_length_le (by rw [List.length_drop]; exact Nat.le_refl _)
  · rw [Nat.min_eq_right c, List.drop_of_length_le (Nat.le_refl _), List.drop_of_length_le c]
    simp
theorem two_le {x y p q : Fr} {e f : Nat} {s : Int} {m m' : Nat} (E : Ends x y p q e f s m m') : (ubL x y p q s m m').length ≤ 40 := by
  have a := (len_mrg (kf x y) (vc x y :: qb p q s m x y) (bkL x y p q s m')).2
  have b := len_qb p q E.hs m x y
  have c := len_bk x y p q E.hs m'
  have := E.hm
  have := E.hm'
  rw [List.length_cons] at a
  show (mrg _ _ _).length ≤ 40
  omega
noncomputable def tRight8 : SpT := fun as Q => ∃ (x y p q c d : Fr) (s : Int) (e f : Nat), as = [.v (vc x y), .v (vc p q), .v (.int s), .v (vc c d)] ∧ UnE x y e ∧ UnE p q f ∧ UnE c d 10 ∧ e + f ≤ 60 ∧ (s = 1 ∨ s = 2 ∨ s = 3) ∧ Q (.v (.bl true)) []
noncomputable abbrev s_right : Stmt := top 42
theorem sc_right : FnScope ["_law_one", "_law_other", "_law_steps", "_law_by", "_law_due_here", "_law_turn", "_law_back", "_law_found"] ["_law_one", "_law_other", "_law_steps", "_law_by"] (defScope s_right) := ⟨rfl, rfl, rfl, by decide +kernel, rfl, by decide +kernel, by decide +kernel⟩
theorem ok_right {f : Addr} {fd : FuncData} (F : Fun K "_law_right" "_law_right" s_right f fd) (TX : Txt mg) (g_due : Fn P w K mg base 6 "_law_due" ["_law_one", "_law_other", "_law_steps"] (spOf K tDue)) (g_units_between : Fn P w K mg base 7 "units_between" ["one", "other", "steps"] (spOf K tUb)) (g_like : Fn P w K mg base 7 "_law_like" ["_law_found", "_law_due_here"] (spOf K (tLikeN 7))) (g_mirrored : Fn P w K mg base 1 "_law_mirrored" ["_law_unit"] (spOf K tFlip)) (g_turned : Fn P w K mg base 4 "turned" ["unit", "by"] (spOf K tTurned)) (g_lcross : Fn P w K mg base 3 "_law_cross" ["_law_p", "_law_q"] (spOf K (tVV fcross))) (g_ldot : Fn P w K mg base 3 "_law_dot" ["_law_p", "_law_q"] (spOf K (tVV fdot)))  : FnOk P w K mg base CX0 8 f fd ["_law_one", "_law_other", "_law_steps", "_law_by"] (spOf K tRight8) := by
  refine F.okT sc_right ?len (fun cdv A outer s H E hr => (fb_cons (fs_set (i := 4) sc_right.nd rfl (Or.inl rfl) (fe_call g_due hr (by omega) rfl (fc (fv 0) (fc (fv 1) (fc (fv 2) fa_nil)))))
  (fb_cons (fs_for PassesOwn.never rfl (fi_range1 rfl TX.n_range (fc fe_int fa_nil)) (fg_name (i := 5) sc_right.nd rfl (Or.inl rfl))
    (fb_cons (fs_set (i := 7) sc_right.nd rfl (Or.inl rfl) (fe_call g_units_between hr (by omega) rfl (fc (fv 0) (fc (fv 1) (fc (fv 2) fa_nil)))))
  (fb_cons (fs_if (ft_not (ft_val (fe_call g_like hr (by omega) rfl (fc (fv 7) (fc (fv 4) fa_nil))))) (fb_one (fs_ret fe_bl)) fb_nil)
  (fb_one (fs_expr (fe_clear rfl (fv 7)))))))
  (fb_cons (fs_set (i := 6) sc_right.nd rfl (Or.inl rfl) (fe_call g_units_between hr (by omega) rfl (fc (fe_call g_mirrored hr (by omega) rfl (fc (fv 1) fa_nil)) (fc (fe_call g_mirrored hr (by omega) rfl (fc (fv 0) fa_nil)) (fc (fv 2) fa_nil)))))
  (fb_cons (fs_if (ft_w (fw_or (ft_ne rfl hr (fe_comp (N' := ["_law_unit"]) (t := 1) (cap := []) rfl (CompOk.of rfl) rfl (by decide) (fi_list rfl (fe_revL rfl (fv 6) (fo_some (fe_neg fe_int)))) (fun _ _ _ _ => (fg_name (i := 0) (show List.Nodup (["_law_unit"] : List Str) by decide +kernel) rfl (Or.inl rfl) (Or.inr rfl))) (fun _ _ _ _ => (fe_call g_mirrored hr (by omega) rfl (fc (fv 0) fa_nil)))) (fv 4) (nomark _)) (fw_or (ft_ne rfl hr (fe_ix rfl (fv 4) fe_int (fun _ _ => rfl)) (fv 0) (nomark _)) (fw_or1 (ft_ne rfl hr (fe_ix rfl (fv 4) (fe_neg fe_int) (fun _ _ => rfl)) (fv 1) (nomark _)))))) (fb_one (fs_ret fe_bl)) fb_nil)
  (fb_cons (fs_if (ft_ne rfl hr (fe_call g_units_between hr (by omega) rfl (fc (fe_call g_turned hr (by omega) rfl (fc (fv 0) (fc (fv 3) fa_nil))) (fc (fe_call g_turned hr (by omega) rfl (fc (fv 1) (fc (fv 3) fa_nil))) (fc (fv 2) fa_nil)))) (fe_comp (N' := ["_law_unit", "_law_by"]) (t := 1) (cap := [(3, false)]) rfl (CompOk.of rfl) rfl (by decide) (fi_list rfl (fv 4)) (fun _ _ _ _ => (fg_name (i := 0) (show List.Nodup (["_law_unit", "_law_by"] : List Str) by decide +kernel) rfl (Or.inl rfl) (Or.inr rfl))) (fun _ _ _ _ => (fe_call g_turned hr (by omega) rfl (fc (fv 0) (fc (fv 1) fa_nil))))) (nomark _)) (fb_one (fs_ret fe_bl)) fb_nil)
  (fb_one (fs_ret (fe_all rfl rfl rfl TX.n_all (fc (fe_comp (N' := ["_law_u", "_law_v"]) (t := 2) (cap := []) rfl (CompOk.of rfl) rfl (by decide) (fi_zip2 rfl rfl TX.n_zip (fc (fv 4) (fc (fe_sliceL rfl (fv 4) (fo_some fe_int) fo_none) fa_nil))) (fun _ _ _ _ => (fg_tup (n := 2) rfl rfl (fgs_cons (fg_name (i := 0) (show List.Nodup (["_law_u", "_law_v"] : List Str) by decide +kernel) rfl (Or.inl rfl) (Or.inr rfl)) (fgs_cons (fg_name (i := 1) (show List.Nodup (["_law_u", "_law_v"] : List Str) by decide +kernel) rfl (Or.inl rfl) (Or.inr rfl)) fgs_nil)))) (fun _ _ _ _ => (fe_and (fe_cp op_gt (fe_ix rfl (fe_call g_lcross hr (by omega) rfl (fc (fv 0) (fc (fv 1) fa_nil))) fe_int (fun _ _ => rfl)) fe_int (nomark _)) (fe_one (fe_cp op_ge (fe_ix rfl (fe_call g_ldot hr (by omega) rfl (fc (fv 0) (fc (fv 1) fa_nil))) fe_int (fun _ _ => rfl)) fe_int (nomark _)))))) fa_nil)))))))))) ?rd
  case len => rintro as Q ⟨x, y, p, q, c, d, s, e, f, rfl, _⟩; rfl
  case rd =>
    rintro as Q ⟨x, y, p, q, c, d, s, e, f, rfl, hu, hv, hw, he, hs, z⟩
    obtain ⟨m, hm, r⟩ := rem_ex hu hv
    obtain ⟨m', hm', r'⟩ := rem_ex hv.flip hu.flip
    have E : Ends x y p q e f s m m' := ⟨hu, hv, by omega, by omega, by omega, hs, hm, hm', r, r'⟩
    have F := E.flip
    have T := E.turn hw (by omega) (by omega) (by omega)
    have uv := E.uuv
    have fuv := F.uuv
    have bk := E.back
    have tr := E.tr hw (by omega) (by omega) (by omega)
    have nbr := @Ends.nbr _ _ _ _ _ _ _ _ _ E
    obtain ⟨L1, hf⟩ := E.first
    obtain ⟨L2', hl⟩ := E.last
    have len := two_le E
    have flen := two_le F
    refine ⟨x, y, p, q, s, e, f, m, m', rfl, E, ?_⟩
    have ub : ∀ m2 m2' : Nat, Rem p q m2 x y → Rem (fneg x) y m2' (fneg p) q → ubL x y p q s m2 m2' = ubL x y p q s m m' := fun m2 m2' h1 h2 => by rw [rem_uniq h1 r, rem_uniq h2 r']
    generalize hD : ubL x y p q s m m' = D at uv bk tr nbr hf hl len ub ⊢
    have dl : dT (.lst D) ≤ 6 := Nat.le_trans (Nat.succ_le_succ (dTs_uve uv)) (by decide)
    have wl : wT (.lst D) < 900 := Nat.max_lt.mpr ⟨by omega, Nat.lt_of_le_of_lt (wTs_uve uv) (by decide)⟩
    refine ⟨⟨by decide, by decide⟩, ?_⟩
    refine loopT_inv (fun i E => ∃ (v5 v6 v7 : Option U), E = [some (.p (vc x y)), some (.p (vc p q)), some (.p (.int s)), some (.p (vc c d)), some (.o false D), v5, v6, v7]) ⟨none, none, none, rfl⟩ ?_ ?_
    · rintro i t rest E' hi ⟨v5, v6, v7, rfl⟩ KK
      refine ⟨x, y, p, q, s, e, f, rfl, hu, hv, by omega, by omega, by omega, hs, fun m2 m2' _ _ h1 h2 => ?_⟩
      rw [ub m2 m2' h1 h2]
      refine ⟨.lst D, rfl, dl, by omega, wl, ?_⟩
      exact KK _ ⟨_, _, _, rfl⟩
    · rintro E' ⟨v5, v6, v7, rfl⟩
      refine ⟨p, q, rfl, x, y, rfl, ?_⟩
      refine ⟨fneg p, q, fneg x, y, s, f, e, rfl, F.h, F.k, by omega, by omega, by omega, hs, fun m2 m2' _ _ h1 h2 => ?_⟩
      rw [fneg2, fneg2] at h2
      rw [rem_uniq h1 r', rem_uniq h2 r]
      generalize ubL (fneg p) q (fneg x) y s m' m = Lb at fuv bk flen ⊢
      refine ⟨rfl, rfl, ?_⟩
      refine (?_ : compL _ _ Lb.reverse _ _)
      have ruv : ∀ t ∈ Lb.reverse, Uv 400 t := fun t ht => fuv t (List.mem_reverse.mp ht)
      have rlen : Lb.reverse.length ≤ 40 := by rw [List.length_reverse]; exact flen
      generalize Lb.reverse = RL at ruv rlen bk ⊢
      refine compL_inv (fun i E => ∃ v0, E = [v0, some (.o false ((RL.take i).map flT))]) ⟨none, rfl⟩ ?_ ?_
      · rintro i t rest E' hi ⟨v0, rfl⟩ KK
        obtain ⟨a, b, rfl, _⟩ := ruv t (List.mem_of_getElem? hi)
        have il := (List.getElem?_eq_some_iff.mp hi).1
        refine ⟨a, b, rfl, ?_, KK _ ⟨some (.p (vc a b)), ?_⟩⟩
        · show ((RL.take i).map flT).length < 1000
          rw [List.length_map, List.length_take]; omega
        · have e1 : RL.take (i + 1) = RL.take i ++ [vc a b] := by rw [List.take_add_one, hi]; rfl
          rw [e1, List.map_append]
          rfl
      · rintro E' ⟨v0, rfl⟩
        rw [List.take_length, bk]
        refine ⟨noLs_uve uv, ?_⟩
        refine ⟨by show dT (.lst D) ≤ _; omega, ?_⟩
        show if (!L2.eqT (.lst D) (.lst D)) = true then _ else _
        rw [eqT_refl, if_neg (by decide)]
        have h0 : atI D 0 = some (vc x y) := by rw [hf]; exact atI_nat (xs := vc x y :: L1) (j := 0) rfl
        have h1 : atI D (-1) = some (vc p q) := by rw [hl]; exact atI_last L2' (vc p q)
        show o1 (atI D 0) _
        rw [h0]
        refine ⟨le_ok rfl, ?_⟩
        show if (!L2.eqT (vc x y) (vc x y)) = true then _ else _
        rw [eqT_refl, if_neg (by decide)]
        show o1 (atI D (-1)) _
        rw [h1]
        refine ⟨le_ok rfl, ?_⟩
        show if (!L2.eqT (vc p q) (vc p q)) = true then _ else _
        rw [eqT_refl, if_neg (by decide)]
        refine ⟨x, y, c, d, e, 10, rfl, hu.nv, hw.nv, by omega, p, q, c, d, f, 10, rfl, hv.nv, hw.nv, by omega, ?_⟩
        refine ⟨_, _, _, _, s, _, _, rfl, T.h, T.k, T.ef, T.e1, T.f1, hs, fun m2 m2' _ _ h1 h2 => ?_⟩
        rw [rem_uniq h1 T.r, rem_uniq h2 T.r', tr]
        refine ⟨rfl, ?_⟩
        refine (?_ : compL _ _ D _ _)
        refine compL_inv (fun i E => ∃ v0, E = [v0, some (.p (vc c d)), some (.o false ((D.take i).map (trT c d)))]) ⟨none, rfl⟩ ?_ ?_
        · rintro i t rest E' hi ⟨v0, rfl⟩ KK
          obtain ⟨a, b, rfl, ua⟩ := uv t (List.mem_of_getElem? hi)
          have il := (List.getElem?_eq_some_iff.mp hi).1
          refine ⟨a, b, c, d, 400, 10, rfl, ua.nv, hw.nv, by decide, ?_, KK _ ⟨some (.p (vc a b)), ?_⟩⟩
          · show ((D.take i).map (trT c d)).length < 1000
            rw [List.length_map, List.length_take]; omega
          · have e1 : D.take (i + 1) = D.take i ++ [vc a b] := by rw [List.take_add_one, hi]; rfl
            rw [e1, List.map_append]
            rfl
        · rintro E' ⟨v0, rfl⟩
          rw [List.take_length]
          have tuv : ∀ t ∈ D.map (trT c d), Uv 411 t := fun t ht => by
            obtain ⟨u, hu', rfl⟩ := List.mem_map.mp ht
            obtain ⟨a, b, rfl, ua⟩ := uv u hu'
            exact ⟨_, _, rfl, ua.trU hw⟩
          refine ⟨noLs_uve tuv, ?_⟩
          refine ⟨by show dT (.lst (D.map (trT c d))) ≤ _; exact Nat.le_trans (Nat.succ_le_succ (dTs_uve tuv)) (by decide), ?_⟩
          show if (!L2.eqT (.lst (D.map (trT c d))) (.lst (D.map (trT c d)))) = true then _ else _
          rw [eqT_refl, if_neg (by decide)]
          have cut1 := cut_drop D 1
          refine ⟨rfl, ?_⟩
          refine (?_ : compL _ _ (zip2T D (cutT D (some 1) none)) _ _)
          refine compL_inv (fun i E => ∃ v0 v1, E = [v0, v1, some (.o false (List.replicate i (.bl true)))]) ⟨none, none, rfl⟩ ?_ ?_
          · rintro i t rest E' hi ⟨v0, v1, rfl⟩ KK
            obtain ⟨u, v, g1, g2, rfl⟩ := zip2T_at hi
            have cut1 : cutT D (some 1) none = D.drop 1 := cut1
            rw [cut1, List.getElem?_drop, Nat.add_comm] at g2
            obtain ⟨a1, a2, b1, b2, rfl, rfl, ua, ub', k1, k2⟩ := nbr g1 g2
            have il := (List.getElem?_eq_some_iff.mp g1).1
            rw [← val_cross ua.nv ub'.nv] at k1
            rw [← val_dot ua.nv ub'.nv] at k2
            have j1 := (val_gt (nrm_cross ua.nv ub'.nv)).1 k1
            have j2 := (val_nonneg (nrm_dot ua.nv ub'.nv)).1 k2
            refine ⟨a1, a2, b1, b2, 400, 400, rfl, ua.nv, ub'.nv, by decide, ?_⟩
            show if decide (0 < (fcross a1 a2 b1 b2).1) = true then _ else _
            rw [decide_eq_true j1, if_pos rfl]
            refine ⟨a1, a2, b1, b2, 400, 400, rfl, ua.nv, ub'.nv, by decide, ?_⟩
            refine ⟨by rw [List.length_replicate]; omega, KK _ ⟨some (.p (vc a1 a2)), some (.p (vc b1 b2)), ?_⟩⟩
            rw [List.replicate_succ', ← decide_eq_true j2]; rfl
          · rintro E' ⟨v0, v1, rfl⟩
            generalize (zip2T D (cutT D (some 1) none)).length = n
            refine ⟨noL_bls _, ?_⟩
            show o1 (blsOf (List.replicate n (.bl true))) _
            rw [bls_true]
            refine ⟨rfl, ?_⟩
            have fin : (List.replicate n true).all id = true := by simp
            rw [fin]
            exact z
noncomputable def tLaw : SpT := fun as Q => ∃ ns : List Int, as = [.v (.lst (intsT ns))] ∧ ns.length ≤ 63 ∧ Q (.v (.bl true)) []
noncomputable abbrev s_law : Stmt := top 43
theorem sc_law : FnScope ["_law_script", "_law_cells", "_law_k", "_law_box", "_law_by", "_law_steps", "_law_one", "_law_other"] ["_law_script"] (defScope s_law) := ⟨rfl, rfl, rfl, by decide +kernel, rfl, by decide +kernel, by decide +kernel⟩
theorem ok_law {f : Addr} {fd : FuncData} (F : Fun K "law" "law" s_law f fd) (TX : Txt mg) (g_folded : Fn P w K mg base 1 "_law_folded" ["_law_script", "_law_many"] (spOf K tFolded)) (g_box_of : Fn P w K mg base 1 "_law_box_of" ["_law_script", "_law_k"] (spOf K tBoxOf)) (g_two_by : Fn P w K mg base 4 "_law_two_by" ["_law_box"] (spOf K tTwoBy)) (g_unit_by : Fn P w K mg base 2 "_law_unit_by" ["_law_box"] (spOf K tUnitBy)) (g_right : Fn P w K mg base 8 "_law_right" ["_law_one", "_law_other", "_law_steps", "_law_by"] (spOf K tRight8))  : FnOk P w K mg base CX0 9 f fd ["_law_script"] (spOf K tLaw) := by
  refine F.okT sc_law ?len (fun cdv A outer s H E hr => (fb_cons (fs_set (i := 1) sc_law.nd rfl (Or.inl rfl) (fe_call g_folded hr (by omega) rfl (fc (fv 0) (fc fe_int fa_nil))))
  (fb_cons (fs_for PassesOwn.never rfl (fi_range1 rfl TX.n_range (fc (fe_len rfl rfl TX.n_len (fc (fv 1) fa_nil)) fa_nil)) (fg_name (i := 2) sc_law.nd rfl (Or.inl rfl))
    (fb_cons (fs_set (i := 3) sc_law.nd rfl (Or.inl rfl) (fe_call g_box_of hr (by omega) rfl (fc (fv 1) (fc (fv 2) fa_nil))))
  (fb_cons (fs_asg (fe_callB g_two_by hr (by omega) rfl (fc (fv 3) fa_nil)) (fg_tup (n := 2) rfl rfl (fgs_cons (fg_name (i := 6) sc_law.nd rfl (Or.inl rfl)) (fgs_cons (fg_name (i := 7) sc_law.nd rfl (Or.inl rfl)) fgs_nil))))
  (fb_cons (fs_set (i := 4) sc_law.nd rfl (Or.inl rfl) (fe_callB g_unit_by hr (by omega) rfl (fc (fv 3) fa_nil)))
  (fb_one (fs_for PassesOwn.never rfl (fi_tup rfl (fe_tup (fc fe_int (fc fe_int (fc fe_int fa_nil))))) (fg_name (i := 5) sc_law.nd rfl (Or.inl rfl))
    (fb_one (fs_if (ft_w (fw_or (ft_not (ft_val (fe_call g_right hr (by omega) rfl (fc (fv 6) (fc (fv 7) (fc (fv 5) (fc (fv 4) fa_nil))))))) (fw_or1 (ft_not (ft_val (fe_call g_right hr (by omega) rfl (fc (fv 7) (fc (fv 6) (fc (fv 5) (fc (fv 4) fa_nil)))))))))) (fb_one (fs_ret fe_bl)) fb_nil))))))))
  (fb_one (fs_ret fe_bl))))) ?rd
  case len => rintro as Q ⟨ns, rfl, _⟩; rfl
  case rd =>
    rintro as Q ⟨ns, rfl, hl, q⟩
    refine ⟨ns, 5, rfl, hl, by decide, by decide, fun cs l2 l6 => ?_⟩
    have lc : ((intsT cs).length : Int) = cs.length := by simp [intsT]
    refine ⟨⟨by show -(2 ^ 62 : Int) ≤ ((intsT cs).length : Int); omega, by show ((intsT cs).length : Int) < 2 ^ 62; omega⟩, ?_⟩
    refine loopT_inv (fun i E => ∃ v2 v3 v4 v5 v6 v7 : Option U, E = [some (.p (.lst (intsT ns))), some (.o false (intsT cs)), v2, v3, v4, v5, v6, v7]) ⟨_, _, _, _, _, _, rfl⟩ ?_ ?_
    · rintro i t rest E hi ⟨v2, v3, v4, v5, v6, v7, rfl⟩ KK
      obtain ⟨hin, rfl⟩ := rng_at hi
      refine ⟨cs, _, rfl, by omega, by omega, fun xs bx nl => ?_⟩
      refine ⟨xs, 0, rfl, bx, by decide, fun x y u v ys un uv ne b1 nl1 => ?_⟩
      refine ⟨ys, 0 + 14, rfl, b1, by decide, fun c d zs uc b2 nl2 => ?_⟩
      obtain ⟨A, B, C, rfl, _⟩ := id b2
      refine ⟨x, y, u, v, c, d, 1, 10, 39, rfl, un, uv, uc, by decide, by decide, u, v, x, y, c, d, 1, 39, 10, rfl, uv, un, uc, by decide, by decide, ?_⟩
      refine ⟨x, y, u, v, c, d, 2, 10, 39, rfl, un, uv, uc, by decide, by decide, u, v, x, y, c, d, 2, 39, 10, rfl, uv, un, uc, by decide, by decide, ?_⟩
      refine ⟨x, y, u, v, c, d, 3, 10, 39, rfl, un, uv, uc, by decide, by decide, u, v, x, y, c, d, 3, 39, 10, rfl, uv, un, uc, by decide, by decide, ?_⟩
      exact KK _ ⟨_, _, _, _, _, _, rfl⟩
    · rintro E ⟨v2, v3, v4, v5, v6, v7, rfl⟩
      exact ⟨rfl, q⟩
end
end My
set_option Elab.async false
set_option linter.all false
set_option maxRecDepth 100000
set_option maxHeartbeats 4000000
namespace My
open PySem L2 PyProof.Rows
theorem len1 {α : Type} {us : List α} (h : us.length = 1) : ∃ a0, us = [a0] := by
  cases us with
  | nil => simp at h
  | cons a0 us =>
  replace h : us.length = 0 := by simpa using h
  cases us with
  | nil => exact ⟨a0, rfl⟩
  | cons a us => simp at h
theorem len2 {α : Type} {us : List α} (h : us.length = 2) : ∃ a0 a1, us = [a0, a1] := by
  cases us with
  | nil => simp at h
  | cons a0 us =>
  replace h : us.length = 1 := by simpa using h
  cases us with
  | nil => simp at h
  | cons a1 us =>
  replace h : us.length = 0 := by simpa using h
  cases us with
  | nil => exact ⟨a0, a1, rfl⟩
  | cons a us => simp at h
theorem len3 {α : Type} {us : List α} (h : us.length = 3) : ∃ a0 a1 a2, us = [a0, a1, a2] := by
  cases us with
  | nil => simp at h
  | cons a0 us =>
  replace h : us.length = 2 := by simpa using h
  cases us with
  | nil => simp at h
  | cons a1 us =>
  replace h : us.length = 1 := by simpa using h
  cases us with
  | nil => simp at h
  | cons a2 us =>
  replace h : us.length = 0 := by simpa using h
  cases us with
  | nil => exact ⟨a0, a1, a2, rfl⟩
  | cons a us => simp at h
theorem len4 {α : Type} {us : List α} (h : us.length = 4) : ∃ a0 a1 a2 a3, us = [a0, a1, a2, a3] := by
  cases us with
  | nil => simp at h
  | cons a0 us =>
  replace h : us.length = 3 := by simpa using h
  cases us with
  | nil => simp at h
  | cons a1 us =>
  replace h : us.length = 2 := by simpa using h
  cases us with
  | nil => simp at h
  | cons a2 us =>
  replace h : us.length = 1 := by simpa using h
  cases us with
  | nil => simp at h
  | cons a3 us =>
  replace h : us.length = 0 := by simpa using h
  cases us with
  | nil => exact ⟨a0, a1, a2, a3, rfl⟩
  | cons a us => simp at h
noncomputable def spLaw (K : PySem.W.Frag) : Sp := fun vs H Q _ => ∃ (a : Addr) (ns : List Int), vs = [.ref a] ∧ SqL K H a (ns.map V.int) ∧ ns.length ≤ 63 ∧ ∀ H', Q (.bl true) H'
theorem law_sp {K : PySem.W.Frag} (vs : List V) (H : Hp) (Q : VK) (E : XK) (h : spLaw K vs H Q E) : spOf K tLaw vs H Q E := by
  obtain ⟨a, ns, rfl, hs, hl, q⟩ := h
  have no : ∀ b, ¬ Ow (fun a => (none : Option Addr) = some a) [some (V.ref a)] [some (.p (.lst (intsT ns)))] b := fun b z => by
    rcases z with z | ⟨i, k, xs, h1, _⟩
    · cases z
    · match i, h1 with
      | 0, h1 => simp at h1
      | _ + 1, h1 => simp at h1
  have ii : ∀ ns : List Int, Rps K H (Ow (fun a => (none : Option Addr) = some a) [some (V.ref a)] [some (.p (.lst (intsT ns)))]) (intsT ns) (ns.map V.int) := fun ns => by
    have key : ∀ (O : Addr → Prop) (ms : List Int), Rps K H O (intsT ms) (ms.map V.int) := fun O ms => by
      induction ms with
      | nil => rfl
      | cons m ms ih => exact ⟨_, _, rfl, rfl, ih⟩
    exact key _ ns
  refine ⟨[.v (.lst (intsT ns))], fun r _ => r = .v (.bl true), none, ⟨rfl, fun i t h => ?_, fun i k xs h => ?_, fun i j k l xs ys b h => ?_, fun b z => by cases z⟩, fun _ => rfl, ⟨ns, rfl, hl, rfl⟩, fun r xs v H' e _ _ rr => ?_⟩
  · match i, h with
    | 0, h =>
      simp [enA] at h; subst h
      exact ⟨_, rfl, a, _, rfl, hs.imp (fun h => ⟨no a, h⟩) id, ii ns⟩
    | _ + 1, h => simp [enA] at h
  · match i, h with
    | 0, h => simp [enA] at h
    | _ + 1, h => simp [enA] at h
  · match i, h with
    | 0, h => simp [enA] at h
    | _ + 1, h => simp [enA] at h
  · subst e
    cases rr
    exact q H'
theorem all_mk {l : PySem.W.OpenLaw} {w : World} {K : PySem.W.Frag} {h : Heap} {mg : Str → Option Value} {fa f0 f1 f2 f3 f4 f5 f6 f7 f8 f9 f10 f11 f12 f13 f14 f15 f16 f17 f18 f19 f20 f21 f22 f23 f24 f25 f26 f27 f28 f29 f30 f31 f32 f33 f34 f35 f36 f37 f38 : Addr} (X : K.In h) (G : h.Ns mainGlobals mg) (hfa : mg "law" = some (.ref fa))
    {od0 an0 od1 an1 od2 an2 od3 an3 od4 an4 od5 an5 od6 an6 od7 an7 od8 an8 od9 an9 od10 an10 od11 an11 od12 an12 od13 an13 od14 an14 od15 an15 od16 an16 od17 an17 od18 an18 od19 an19 od20 an20 od21 an21 od22 an22 od23 an23 od24 an24 od25 an25 od26 an26 od27 an27 od28 an28 od29 an29 od30 an30 od31 an31 od32 an32 od33 an33 od34 an34 od35 an35 od36 an36 od37 an37 od38 an38 : Option Addr} {sl0 sl1 sl2 sl3 sl4 sl5 sl6 sl7 sl8 sl9 sl10 sl11 sl12 sl13 sl14 sl15 sl16 sl17 sl18 sl19 sl20 sl21 sl22 sl23 sl24 sl25 sl26 sl27 sl28 sl29 sl30 sl31 sl32 sl33 sl34 sl35 sl36 sl37 sl38 : Array (Option Value)} {oc0 kV0 dc0 pm0 cd0 ct0 oc1 kV1 dc1 pm1 cd1 ct1 oc2 kV2 dc2 pm2 cd2 ct2 oc3 kV3 dc3 pm3 cd3 ct3 oc4 kV4 dc4 pm4 cd4 ct4 oc5 kV5 dc5 pm5 cd5 ct5 oc6 kV6 dc6 pm6 cd6 ct6 oc7 kV7 dc7 pm7 cd7 ct7 oc8 kV8 dc8 pm8 cd8 ct8 oc9 kV9 dc9 pm9 cd9 ct9 oc10 kV10 dc10 pm10 cd10 ct10 oc11 kV11 dc11 pm11 cd11 ct11 oc12 kV12 dc12 pm12 cd12 ct12 oc13 kV13 dc13 pm13 cd13 ct13 oc14 kV14 dc14 pm14 cd14 ct14 oc15 kV15 dc15 pm15 cd15 ct15 oc16 kV16 dc16 pm16 cd16 ct16 oc17 kV17 dc17 pm17 cd17 ct17 oc18 kV18 dc18 pm18 cd18 ct18 oc19 kV19 dc19 pm19 cd19 ct19 oc20 kV20 dc20 pm20 cd20 ct20 oc21 kV21 dc21 pm21 cd21 ct21 oc22 kV22 dc22 pm22 cd22 ct22 oc23 kV23 dc23 pm23 cd23 ct23 oc24 kV24 dc24 pm24 cd24 ct24 oc25 kV25 dc25 pm25 cd25 ct25 oc26 kV26 dc26 pm26 cd26 ct26 oc27 kV27 dc27 pm27 cd27 ct27 oc28 kV28 dc28 pm28 cd28 ct28 oc29 kV29 dc29 pm29 cd29 ct29 oc30 kV30 dc30 pm30 cd30 ct30 oc31 kV31 dc31 pm31 cd31 ct31 oc32 kV32 dc32 pm32 cd32 ct32 oc33 kV33 dc33 pm33 cd33 ct33 oc34 kV34 dc34 pm34 cd34 ct34 oc35 kV35 dc35 pm35 cd35 ct35 oc36 kV36 dc36 pm36 cd36 ct36 oc37 kV37 dc37 pm37 cd37 ct37 oc38 kV38 dc38 pm38 cd38 ct38 : Value}
    (a0 : PySem.W.nsIn K mainGlobals "_law_take" = some (some (.ref f0))) (l0 : K.lookup f0 = some ⟨oc0, od0, .func (PySem.W.fnOf "_law_take" "_law_take" (defArgs s_take) (defBody s_take) (defScope s_take) .none kV0 dc0 pm0 an0 cd0 ct0), sl0⟩) (c0 : PySem.W.codeIn K cd0 "_law_take" = true) (k0 : PySem.W.keepIn K (.ref f0) = true)
    (a1 : PySem.W.nsIn K mainGlobals "_law_box_of" = some (some (.ref f1))) (l1 : K.lookup f1 = some ⟨oc1, od1, .func (PySem.W.fnOf "_law_box_of" "_law_box_of" (defArgs s_box_of) (defBody s_box_of) (defScope s_box_of) .none kV1 dc1 pm1 an1 cd1 ct1), sl1⟩) (c1 : PySem.W.codeIn K cd1 "_law_box_of" = true) (k1 : PySem.W.keepIn K (.ref f1) = true)
    (a2 : PySem.W.nsIn K mainGlobals "_law_lowest" = some (some (.ref f2))) (l2 : K.lookup f2 = some ⟨oc2, od2, .func (PySem.W.fnOf "_law_lowest" "_law_lowest" (defArgs s_lowest) (defBody s_lowest) (defScope s_lowest) .none kV2 dc2 pm2 an2 cd2 ct2), sl2⟩) (c2 : PySem.W.codeIn K cd2 "_law_lowest" = true) (k2 : PySem.W.keepIn K (.ref f2) = true)
    (a3 : PySem.W.nsIn K mainGlobals "common_divisor" = some (some (.ref f3))) (l3 : K.lookup f3 = some ⟨oc3, od3, .func (PySem.W.fnOf "common_divisor" "common_divisor" (defArgs s_common_divisor) (defBody s_common_divisor) (defScope s_common_divisor) .none kV3 dc3 pm3 an3 cd3 ct3), sl3⟩) (c3 : PySem.W.codeIn K cd3 "common_divisor" = true) (k3 : PySem.W.keepIn K (.ref f3) = true)
    (a4 : PySem.W.nsIn K mainGlobals "fraction" = some (some (.ref f4))) (l4 : K.lookup f4 = some ⟨oc4, od4, .func (PySem.W.fnOf "fraction" "fraction" (defArgs s_fraction) (defBody s_fraction) (defScope s_fraction) .none kV4 dc4 pm4 an4 cd4 ct4), sl4⟩) (c4 : PySem.W.codeIn K cd4 "fraction" = true) (k4 : PySem.W.keepIn K (.ref f4) = true)
    (a5 : PySem.W.nsIn K mainGlobals "added" = some (some (.ref f5))) (l5 : K.lookup f5 = some ⟨oc5, od5, .func (PySem.W.fnOf "added" "added" (defArgs s_added) (defBody s_added) (defScope s_added) .none kV5 dc5 pm5 an5 cd5 ct5), sl5⟩) (c5 : PySem.W.codeIn K cd5 "added" = true) (k5 : PySem.W.keepIn K (.ref f5) = true)
    (a6 : PySem.W.nsIn K mainGlobals "taken" = some (some (.ref f6))) (l6 : K.lookup f6 = some ⟨oc6, od6, .func (PySem.W.fnOf "taken" "taken" (defArgs s_taken) (defBody s_taken) (defScope s_taken) .none kV6 dc6 pm6 an6 cd6 ct6), sl6⟩) (c6 : PySem.W.codeIn K cd6 "taken" = true) (k6 : PySem.W.keepIn K (.ref f6) = true)
    (a7 : PySem.W.nsIn K mainGlobals "times" = some (some (.ref f7))) (l7 : K.lookup f7 = some ⟨oc7, od7, .func (PySem.W.fnOf "times" "times" (defArgs s_times) (defBody s_times) (defScope s_times) .none kV7 dc7 pm7 an7 cd7 ct7), sl7⟩) (c7 : PySem.W.codeIn K cd7 "times" = true) (k7 : PySem.W.keepIn K (.ref f7) = true)
    (a8 : PySem.W.nsIn K mainGlobals "_law_sum" = some (some (.ref f8))) (l8 : K.lookup f8 = some ⟨oc8, od8, .func (PySem.W.fnOf "_law_sum" "_law_sum" (defArgs s_sum) (defBody s_sum) (defScope s_sum) .none kV8 dc8 pm8 an8 cd8 ct8), sl8⟩) (c8 : PySem.W.codeIn K cd8 "_law_sum" = true) (k8 : PySem.W.keepIn K (.ref f8) = true)
    (a9 : PySem.W.nsIn K mainGlobals "_law_less" = some (some (.ref f9))) (l9 : K.lookup f9 = some ⟨oc9, od9, .func (PySem.W.fnOf "_law_less" "_law_less" (defArgs s_less) (defBody s_less) (defScope s_less) .none kV9 dc9 pm9 an9 cd9 ct9), sl9⟩) (c9 : PySem.W.codeIn K cd9 "_law_less" = true) (k9 : PySem.W.keepIn K (.ref f9) = true)
    (a10 : PySem.W.nsIn K mainGlobals "_law_product" = some (some (.ref f10))) (l10 : K.lookup f10 = some ⟨oc10, od10, .func (PySem.W.fnOf "_law_product" "_law_product" (defArgs s_product) (defBody s_product) (defScope s_product) .none kV10 dc10 pm10 an10 cd10 ct10), sl10⟩) (c10 : PySem.W.codeIn K cd10 "_law_product" = true) (k10 : PySem.W.keepIn K (.ref f10) = true)
    (a11 : PySem.W.nsIn K mainGlobals "dot" = some (some (.ref f11))) (l11 : K.lookup f11 = some ⟨oc11, od11, .func (PySem.W.fnOf "dot" "dot" (defArgs s_dot) (defBody s_dot) (defScope s_dot) .none kV11 dc11 pm11 an11 cd11 ct11), sl11⟩) (c11 : PySem.W.codeIn K cd11 "dot" = true) (k11 : PySem.W.keepIn K (.ref f11) = true)
    (a12 : PySem.W.nsIn K mainGlobals "cross" = some (some (.ref f12))) (l12 : K.lookup f12 = some ⟨oc12, od12, .func (PySem.W.fnOf "cross" "cross" (defArgs s_cross) (defBody s_cross) (defScope s_cross) .none kV12 dc12 pm12 an12 cd12 ct12), sl12⟩) (c12 : PySem.W.codeIn K cd12 "cross" = true) (k12 : PySem.W.keepIn K (.ref f12) = true)
    (a13 : PySem.W.nsIn K mainGlobals "_law_dot" = some (some (.ref f13))) (l13 : K.lookup f13 = some ⟨oc13, od13, .func (PySem.W.fnOf "_law_dot" "_law_dot" (defArgs s_ldot) (defBody s_ldot) (defScope s_ldot) .none kV13 dc13 pm13 an13 cd13 ct13), sl13⟩) (c13 : PySem.W.codeIn K cd13 "_law_dot" = true) (k13 : PySem.W.keepIn K (.ref f13) = true)
    (a14 : PySem.W.nsIn K mainGlobals "_law_cross" = some (some (.ref f14))) (l14 : K.lookup f14 = some ⟨oc14, od14, .func (PySem.W.fnOf "_law_cross" "_law_cross" (defArgs s_lcross) (defBody s_lcross) (defScope s_lcross) .none kV14 dc14 pm14 an14 cd14 ct14), sl14⟩) (c14 : PySem.W.codeIn K cd14 "_law_cross" = true) (k14 : PySem.W.keepIn K (.ref f14) = true)
    (a15 : PySem.W.nsIn K mainGlobals "turned" = some (some (.ref f15))) (l15 : K.lookup f15 = some ⟨oc15, od15, .func (PySem.W.fnOf "turned" "turned" (defArgs s_turned) (defBody s_turned) (defScope s_turned) .none kV15 dc15 pm15 an15 cd15 ct15), sl15⟩) (c15 : PySem.W.codeIn K cd15 "turned" = true) (k15 : PySem.W.keepIn K (.ref f15) = true)
    (a16 : PySem.W.nsIn K mainGlobals "_law_turned" = some (some (.ref f16))) (l16 : K.lookup f16 = some ⟨oc16, od16, .func (PySem.W.fnOf "_law_turned" "_law_turned" (defArgs s_lturned) (defBody s_lturned) (defScope s_lturned) .none kV16 dc16 pm16 an16 cd16 ct16), sl16⟩) (c16 : PySem.W.codeIn K cd16 "_law_turned" = true) (k16 : PySem.W.keepIn K (.ref f16) = true)
    (a17 : PySem.W.nsIn K mainGlobals "_law_folded" = some (some (.ref f17))) (l17 : K.lookup f17 = some ⟨oc17, od17, .func (PySem.W.fnOf "_law_folded" "_law_folded" (defArgs s_folded) (defBody s_folded) (defScope s_folded) .none kV17 dc17 pm17 an17 cd17 ct17), sl17⟩) (c17 : PySem.W.codeIn K cd17 "_law_folded" = true) (k17 : PySem.W.keepIn K (.ref f17) = true)
    (a18 : PySem.W.nsIn K mainGlobals "_law_like" = some (some (.ref f18))) (l18 : K.lookup f18 = some ⟨oc18, od18, .func (PySem.W.fnOf "_law_like" "_law_like" (defArgs s_like) (defBody s_like) (defScope s_like) .none kV18 dc18 pm18 an18 cd18 ct18), sl18⟩) (c18 : PySem.W.codeIn K cd18 "_law_like" = true) (k18 : PySem.W.keepIn K (.ref f18) = true)
    (a19 : PySem.W.nsIn K mainGlobals "_law_unit_by" = some (some (.ref f19))) (l19 : K.lookup f19 = some ⟨oc19, od19, .func (PySem.W.fnOf "_law_unit_by" "_law_unit_by" (defArgs s_unit_by) (defBody s_unit_by) (defScope s_unit_by) .none kV19 dc19 pm19 an19 cd19 ct19), sl19⟩) (c19 : PySem.W.codeIn K cd19 "_law_unit_by" = true) (k19 : PySem.W.keepIn K (.ref f19) = true)
    (a20 : PySem.W.nsIn K mainGlobals "over" = some (some (.ref f20))) (l20 : K.lookup f20 = some ⟨oc20, od20, .func (PySem.W.fnOf "over" "over" (defArgs s_over) (defBody s_over) (defScope s_over) .none kV20 dc20 pm20 an20 cd20 ct20), sl20⟩) (c20 : PySem.W.codeIn K cd20 "over" = true) (k20 : PySem.W.keepIn K (.ref f20) = true)
    (a21 : PySem.W.nsIn K mainGlobals "turn_of" = some (some (.ref f21))) (l21 : K.lookup f21 = some ⟨oc21, od21, .func (PySem.W.fnOf "turn_of" "turn_of" (defArgs s_turn_of) (defBody s_turn_of) (defScope s_turn_of) .none kV21 dc21 pm21 an21 cd21 ct21), sl21⟩) (c21 : PySem.W.codeIn K cd21 "turn_of" = true) (k21 : PySem.W.keepIn K (.ref f21) = true)
    (a22 : PySem.W.nsIn K mainGlobals "stepped" = some (some (.ref f22))) (l22 : K.lookup f22 = some ⟨oc22, od22, .func (PySem.W.fnOf "stepped" "stepped" (defArgs s_stepped) (defBody s_stepped) (defScope s_stepped) .none kV22 dc22 pm22 an22 cd22 ct22), sl22⟩) (c22 : PySem.W.codeIn K cd22 "stepped" = true) (k22 : PySem.W.keepIn K (.ref f22) = true)
    (a23 : PySem.W.nsIn K mainGlobals "has_quarter" = some (some (.ref f23))) (l23 : K.lookup f23 = some ⟨oc23, od23, .func (PySem.W.fnOf "has_quarter" "has_quarter" (defArgs s_has_quarter) (defBody s_has_quarter) (defScope s_has_quarter) .none kV23 dc23 pm23 an23 cd23 ct23), sl23⟩) (c23 : PySem.W.codeIn K cd23 "has_quarter" = true) (k23 : PySem.W.keepIn K (.ref f23) = true)
    (a24 : PySem.W.nsIn K mainGlobals "quarters_between" = some (some (.ref f24))) (l24 : K.lookup f24 = some ⟨oc24, od24, .func (PySem.W.fnOf "quarters_between" "quarters_between" (defArgs s_quarters_between) (defBody s_quarters_between) (defScope s_quarters_between) .none kV24 dc24 pm24 an24 cd24 ct24), sl24⟩) (c24 : PySem.W.codeIn K cd24 "quarters_between" = true) (k24 : PySem.W.keepIn K (.ref f24) = true)
    (a25 : PySem.W.nsIn K mainGlobals "_law_on" = some (some (.ref f25))) (l25 : K.lookup f25 = some ⟨oc25, od25, .func (PySem.W.fnOf "_law_on" "_law_on" (defArgs s_on) (defBody s_on) (defScope s_on) .none kV25 dc25 pm25 an25 cd25 ct25), sl25⟩) (c25 : PySem.W.codeIn K cd25 "_law_on" = true) (k25 : PySem.W.keepIn K (.ref f25) = true)
    (a26 : PySem.W.nsIn K mainGlobals "_law_quarters" = some (some (.ref f26))) (l26 : K.lookup f26 = some ⟨oc26, od26, .func (PySem.W.fnOf "_law_quarters" "_law_quarters" (defArgs s_quarters) (defBody s_quarters) (defScope s_quarters) .none kV26 dc26 pm26 an26 cd26 ct26), sl26⟩) (c26 : PySem.W.codeIn K cd26 "_law_quarters" = true) (k26 : PySem.W.keepIn K (.ref f26) = true)
    (a27 : PySem.W.nsIn K mainGlobals "_law_two_by" = some (some (.ref f27))) (l27 : K.lookup f27 = some ⟨oc27, od27, .func (PySem.W.fnOf "_law_two_by" "_law_two_by" (defArgs s_two_by) (defBody s_two_by) (defScope s_two_by) .none kV27 dc27 pm27 an27 cd27 ct27), sl27⟩) (c27 : PySem.W.codeIn K cd27 "_law_two_by" = true) (k27 : PySem.W.keepIn K (.ref f27) = true)
    (a28 : PySem.W.nsIn K mainGlobals "compared" = some (some (.ref f28))) (l28 : K.lookup f28 = some ⟨oc28, od28, .func (PySem.W.fnOf "compared" "compared" (defArgs s_compared) (defBody s_compared) (defScope s_compared) .none kV28 dc28 pm28 an28 cd28 ct28), sl28⟩) (c28 : PySem.W.codeIn K cd28 "compared" = true) (k28 : PySem.W.keepIn K (.ref f28) = true)
    (a29 : PySem.W.nsIn K mainGlobals "turn_size" = some (some (.ref f29))) (l29 : K.lookup f29 = some ⟨oc29, od29, .func (PySem.W.fnOf "turn_size" "turn_size" (defArgs s_turn_size) (defBody s_turn_size) (defScope s_turn_size) .none kV29 dc29 pm29 an29 cd29 ct29), sl29⟩) (c29 : PySem.W.codeIn K cd29 "turn_size" = true) (k29 : PySem.W.keepIn K (.ref f29) = true)
    (a30 : PySem.W.nsIn K mainGlobals "flipped" = some (some (.ref f30))) (l30 : K.lookup f30 = some ⟨oc30, od30, .func (PySem.W.fnOf "flipped" "flipped" (defArgs s_flipped) (defBody s_flipped) (defScope s_flipped) .none kV30 dc30 pm30 an30 cd30 ct30), sl30⟩) (c30 : PySem.W.codeIn K cd30 "flipped" = true) (k30 : PySem.W.keepIn K (.ref f30) = true)
    (a31 : PySem.W.nsIn K mainGlobals "merged" = some (some (.ref f31))) (l31 : K.lookup f31 = some ⟨oc31, od31, .func (PySem.W.fnOf "merged" "merged" (defArgs s_merged) (defBody s_merged) (defScope s_merged) .none kV31 dc31 pm31 an31 cd31 ct31), sl31⟩) (c31 : PySem.W.codeIn K cd31 "merged" = true) (k31 : PySem.W.keepIn K (.ref f31) = true)
    (a32 : PySem.W.nsIn K mainGlobals "units_between" = some (some (.ref f32))) (l32 : K.lookup f32 = some ⟨oc32, od32, .func (PySem.W.fnOf "units_between" "units_between" (defArgs s_units_between) (defBody s_units_between) (defScope s_units_between) .none kV32 dc32 pm32 an32 cd32 ct32), sl32⟩) (c32 : PySem.W.codeIn K cd32 "units_between" = true) (k32 : PySem.W.keepIn K (.ref f32) = true)
    (a33 : PySem.W.nsIn K mainGlobals "_law_mirrored" = some (some (.ref f33))) (l33 : K.lookup f33 = some ⟨oc33, od33, .func (PySem.W.fnOf "_law_mirrored" "_law_mirrored" (defArgs s_mirrored) (defBody s_mirrored) (defScope s_mirrored) .none kV33 dc33 pm33 an33 cd33 ct33), sl33⟩) (c33 : PySem.W.codeIn K cd33 "_law_mirrored" = true) (k33 : PySem.W.keepIn K (.ref f33) = true)
    (a34 : PySem.W.nsIn K mainGlobals "_law_third" = some (some (.ref f34))) (l34 : K.lookup f34 = some ⟨oc34, od34, .func (PySem.W.fnOf "_law_third" "_law_third" (defArgs s_third) (defBody s_third) (defScope s_third) .none kV34 dc34 pm34 an34 cd34 ct34), sl34⟩) (c34 : PySem.W.codeIn K cd34 "_law_third" = true) (k34 : PySem.W.keepIn K (.ref f34) = true)
    (a35 : PySem.W.nsIn K mainGlobals "_law_ahead" = some (some (.ref f35))) (l35 : K.lookup f35 = some ⟨oc35, od35, .func (PySem.W.fnOf "_law_ahead" "_law_ahead" (defArgs s_ahead) (defBody s_ahead) (defScope s_ahead) .none kV35 dc35 pm35 an35 cd35 ct35), sl35⟩) (c35 : PySem.W.codeIn K cd35 "_law_ahead" = true) (k35 : PySem.W.keepIn K (.ref f35) = true)
    (a36 : PySem.W.nsIn K mainGlobals "_law_due" = some (some (.ref f36))) (l36 : K.lookup f36 = some ⟨oc36, od36, .func (PySem.W.fnOf "_law_due" "_law_due" (defArgs s_due) (defBody s_due) (defScope s_due) .none kV36 dc36 pm36 an36 cd36 ct36), sl36⟩) (c36 : PySem.W.codeIn K cd36 "_law_due" = true) (k36 : PySem.W.keepIn K (.ref f36) = true)
    (a37 : PySem.W.nsIn K mainGlobals "_law_right" = some (some (.ref f37))) (l37 : K.lookup f37 = some ⟨oc37, od37, .func (PySem.W.fnOf "_law_right" "_law_right" (defArgs s_right) (defBody s_right) (defScope s_right) .none kV37 dc37 pm37 an37 cd37 ct37), sl37⟩) (c37 : PySem.W.codeIn K cd37 "_law_right" = true) (k37 : PySem.W.keepIn K (.ref f37) = true)
    (a38 : PySem.W.nsIn K mainGlobals "law" = some (some (.ref f38))) (l38 : K.lookup f38 = some ⟨oc38, od38, .func (PySem.W.fnOf "law" "law" (defArgs s_law) (defBody s_law) (defScope s_law) .none kV38 dc38 pm38 an38 cd38 ct38), sl38⟩) (c38 : PySem.W.codeIn K cd38 "law" = true) (k38 : PySem.W.keepIn K (.ref f38) = true)
    {C_ONE : Addr} {odc_ONE : Option Addr} {tc_ONE uc_ONE : Tok} {nc_ONE : Nat} {slc_ONE : Array (Option Value)} (q_ONE : PySem.W.nsIn K mainGlobals "ONE" = some (some (.ref C_ONE))) (r_ONE : K.lookup C_ONE = some ⟨.type "tuple", odc_ONE, .seq #[.int 1 tc_ONE, .int 1 uc_ONE] nc_ONE, slc_ONE⟩)
    (z_isinstance : PySem.W.nsIn K mainGlobals "isinstance" = some none) (z_abs : PySem.W.nsIn K mainGlobals "abs" = some none) (z_divmod : PySem.W.nsIn K mainGlobals "divmod" = some none) (z_min : PySem.W.nsIn K mainGlobals "min" = some none) (z_max : PySem.W.nsIn K mainGlobals "max" = some none) (z_all : PySem.W.nsIn K mainGlobals "all" = some none) (z_len : PySem.W.nsIn K mainGlobals "len" = some none) (z_int : PySem.W.nsIn K mainGlobals "int" = some none) (z_bool : PySem.W.nsIn K mainGlobals "bool" = some none) (z_tuple : PySem.W.nsIn K mainGlobals "tuple" = some none) (z_list : PySem.W.nsIn K mainGlobals "list" = some none) (z_str : PySem.W.nsIn K mainGlobals "str" = some none) (z_range : PySem.W.nsIn K mainGlobals "range" = some none) (z_enumerate : PySem.W.nsIn K mainGlobals "enumerate" = some none) (z_zip : PySem.W.nsIn K mainGlobals "zip" = some none) :
    ∃ fd : FuncData, (∀ (s : Shared) (v : Value), BindsTo s fd ⟨[v], []⟩ [("_law_script", v)]) ∧ ∀ base : Heap, K.In base → base.Ns mainGlobals mg → FnOk l.prog w K mg base CX0 9 fa fd ["_law_script"] (spLaw K) := by
  have e := hfa.symm.trans (PySem.W.mg_of X G a38)
  cases e
  have T : Txt mg := ⟨PySem.W.mg_none_of X G z_isinstance, PySem.W.mg_none_of X G z_abs, PySem.W.mg_none_of X G z_divmod, PySem.W.mg_none_of X G z_min, PySem.W.mg_none_of X G z_max, PySem.W.mg_none_of X G z_all, PySem.W.mg_none_of X G z_len, PySem.W.mg_none_of X G z_int, PySem.W.mg_none_of X G z_bool, PySem.W.mg_none_of X G z_tuple, PySem.W.mg_none_of X G z_list, PySem.W.mg_none_of X G z_str, PySem.W.mg_none_of X G z_range, PySem.W.mg_none_of X G z_enumerate, PySem.W.mg_none_of X G z_zip⟩
  have c_ONE : Const mg K "ONE" (.tup [.int 1, .int 1]) := ⟨_, PySem.W.mg_of X G q_ONE, const_pair r_ONE⟩
  have F0 := fun_mk (st := s_take) l0 c0 k0
  have b0 := F0.binds (ps := ["_law_box", "_law_many"]) fun _ _ _ _ _ _ us hl => by obtain ⟨_, _, rfl⟩ := len2 hl; rfl
  have F1 := fun_mk (st := s_box_of) l1 c1 k1
  have b1 := F1.binds (ps := ["_law_script", "_law_k"]) fun _ _ _ _ _ _ us hl => by obtain ⟨_, _, rfl⟩ := len2 hl; rfl
  have F2 := fun_mk (st := s_lowest) l2 c2 k2
  have b2 := F2.binds (ps := ["_law_n", "_law_d"]) fun _ _ _ _ _ _ us hl => by obtain ⟨_, _, rfl⟩ := len2 hl; rfl
  have F3 := fun_mk (st := s_common_divisor) l3 c3 k3
  have b3 := F3.binds (ps := ["one", "other"]) fun _ _ _ _ _ _ us hl => by obtain ⟨_, _, rfl⟩ := len2 hl; rfl
  have F4 := fun_mk (st := s_fraction) l4 c4 k4
  have b4 := F4.binds (ps := ["n", "d"]) fun _ _ _ _ _ _ us hl => by obtain ⟨_, _, rfl⟩ := len2 hl; rfl
  have F5 := fun_mk (st := s_added) l5 c5 k5
  have b5 := F5.binds (ps := ["one", "other"]) fun _ _ _ _ _ _ us hl => by obtain ⟨_, _, rfl⟩ := len2 hl; rfl
  have F6 := fun_mk (st := s_taken) l6 c6 k6
  have b6 := F6.binds (ps := ["one", "other"]) fun _ _ _ _ _ _ us hl => by obtain ⟨_, _, rfl⟩ := len2 hl; rfl
  have F7 := fun_mk (st := s_times) l7 c7 k7
  have b7 := F7.binds (ps := ["one", "other"]) fun _ _ _ _ _ _ us hl => by obtain ⟨_, _, rfl⟩ := len2 hl; rfl
  have F8 := fun_mk (st := s_sum) l8 c8 k8
  have b8 := F8.binds (ps := ["_law_p", "_law_q"]) fun _ _ _ _ _ _ us hl => by obtain ⟨_, _, rfl⟩ := len2 hl; rfl
  have F9 := fun_mk (st := s_less) l9 c9 k9
  have b9 := F9.binds (ps := ["_law_p", "_law_q"]) fun _ _ _ _ _ _ us hl => by obtain ⟨_, _, rfl⟩ := len2 hl; rfl
  have F10 := fun_mk (st := s_product) l10 c10 k10
  have b10 := F10.binds (ps := ["_law_p", "_law_q"]) fun _ _ _ _ _ _ us hl => by obtain ⟨_, _, rfl⟩ := len2 hl; rfl
  have F11 := fun_mk (st := s_dot) l11 c11 k11
  have b11 := F11.binds (ps := ["one", "other"]) fun _ _ _ _ _ _ us hl => by obtain ⟨_, _, rfl⟩ := len2 hl; rfl
  have F12 := fun_mk (st := s_cross) l12 c12 k12
  have b12 := F12.binds (ps := ["one", "other"]) fun _ _ _ _ _ _ us hl => by obtain ⟨_, _, rfl⟩ := len2 hl; rfl
  have F13 := fun_mk (st := s_ldot) l13 c13 k13
  have b13 := F13.binds (ps := ["_law_p", "_law_q"]) fun _ _ _ _ _ _ us hl => by obtain ⟨_, _, rfl⟩ := len2 hl; rfl
  have F14 := fun_mk (st := s_lcross) l14 c14 k14
  have b14 := F14.binds (ps := ["_law_p", "_law_q"]) fun _ _ _ _ _ _ us hl => by obtain ⟨_, _, rfl⟩ := len2 hl; rfl
  have F15 := fun_mk (st := s_turned) l15 c15 k15
  have b15 := F15.binds (ps := ["unit", "by"]) fun _ _ _ _ _ _ us hl => by obtain ⟨_, _, rfl⟩ := len2 hl; rfl
  have F16 := fun_mk (st := s_lturned) l16 c16 k16
  have b16 := F16.binds (ps := ["_law_unit", "_law_by"]) fun _ _ _ _ _ _ us hl => by obtain ⟨_, _, rfl⟩ := len2 hl; rfl
  have F17 := fun_mk (st := s_folded) l17 c17 k17
  have b17 := F17.binds (ps := ["_law_script", "_law_many"]) fun _ _ _ _ _ _ us hl => by obtain ⟨_, _, rfl⟩ := len2 hl; rfl
  have F18 := fun_mk (st := s_like) l18 c18 k18
  have b18 := F18.binds (ps := ["_law_found", "_law_due_here"]) fun _ _ _ _ _ _ us hl => by obtain ⟨_, _, rfl⟩ := len2 hl; rfl
  have F19 := fun_mk (st := s_unit_by) l19 c19 k19
  have b19 := F19.binds (ps := ["_law_box"]) fun _ _ _ _ _ _ us hl => by obtain ⟨_, rfl⟩ := len1 hl; rfl
  have F20 := fun_mk (st := s_over) l20 c20 k20
  have b20 := F20.binds (ps := ["one", "other"]) fun _ _ _ _ _ _ us hl => by obtain ⟨_, _, rfl⟩ := len2 hl; rfl
  have F21 := fun_mk (st := s_turn_of) l21 c21 k21
  have b21 := F21.binds (ps := ["tangent"]) fun _ _ _ _ _ _ us hl => by obtain ⟨_, rfl⟩ := len1 hl; rfl
  have F22 := fun_mk (st := s_stepped) l22 c22 k22
  have b22 := F22.binds (ps := ["unit", "tangent", "steps"]) fun _ _ _ _ _ _ us hl => by obtain ⟨_, _, _, rfl⟩ := len3 hl; rfl
  have F23 := fun_mk (st := s_has_quarter) l23 c23 k23
  have b23 := F23.binds (ps := ["one", "other"]) fun _ _ _ _ _ _ us hl => by obtain ⟨_, _, rfl⟩ := len2 hl; rfl
  have F24 := fun_mk (st := s_quarters_between) l24 c24 k24
  have b24 := F24.binds (ps := ["one", "other", "steps"]) fun _ _ _ _ _ _ us hl => by obtain ⟨_, _, _, rfl⟩ := len3 hl; rfl
  have F25 := fun_mk (st := s_on) l25 c25 k25
  have b25 := F25.binds (ps := ["_law_unit", "_law_number", "_law_k"]) fun _ _ _ _ _ _ us hl => by obtain ⟨_, _, _, rfl⟩ := len3 hl; rfl
  have F26 := fun_mk (st := s_quarters) l26 c26 k26
  have b26 := F26.binds (ps := ["_law_one", "_law_other", "_law_steps"]) fun _ _ _ _ _ _ us hl => by obtain ⟨_, _, _, rfl⟩ := len3 hl; rfl
  have F27 := fun_mk (st := s_two_by) l27 c27 k27
  have b27 := F27.binds (ps := ["_law_box"]) fun _ _ _ _ _ _ us hl => by obtain ⟨_, rfl⟩ := len1 hl; rfl
  have F28 := fun_mk (st := s_compared) l28 c28 k28
  have b28 := F28.binds (ps := ["one", "other"]) fun _ _ _ _ _ _ us hl => by obtain ⟨_, _, rfl⟩ := len2 hl; rfl
  have F29 := fun_mk (st := s_turn_size) l29 c29 k29
  have b29 := F29.binds (ps := ["one", "other"]) fun _ _ _ _ _ _ us hl => by obtain ⟨_, _, rfl⟩ := len2 hl; rfl
  have F30 := fun_mk (st := s_flipped) l30 c30 k30
  have b30 := F30.binds (ps := ["vector"]) fun _ _ _ _ _ _ us hl => by obtain ⟨_, rfl⟩ := len1 hl; rfl
  have F31 := fun_mk (st := s_merged) l31 c31 k31
  have b31 := F31.binds (ps := ["ahead", "back", "one"]) fun _ _ _ _ _ _ us hl => by obtain ⟨_, _, _, rfl⟩ := len3 hl; rfl
  have F32 := fun_mk (st := s_units_between) l32 c32 k32
  have b32 := F32.binds (ps := ["one", "other", "steps"]) fun _ _ _ _ _ _ us hl => by obtain ⟨_, _, _, rfl⟩ := len3 hl; rfl
  have F33 := fun_mk (st := s_mirrored) l33 c33 k33
  have b33 := F33.binds (ps := ["_law_unit"]) fun _ _ _ _ _ _ us hl => by obtain ⟨_, rfl⟩ := len1 hl; rfl
  have F34 := fun_mk (st := s_third) l34 c34 k34
  have b34 := F34.binds (ps := ["_law_first", "_law_unit"]) fun _ _ _ _ _ _ us hl => by obtain ⟨_, _, rfl⟩ := len2 hl; rfl
  have F35 := fun_mk (st := s_ahead) l35 c35 k35
  have b35 := F35.binds (ps := ["_law_first", "_law_one", "_law_other"]) fun _ _ _ _ _ _ us hl => by obtain ⟨_, _, _, rfl⟩ := len3 hl; rfl
  have F36 := fun_mk (st := s_due) l36 c36 k36
  have b36 := F36.binds (ps := ["_law_one", "_law_other", "_law_steps"]) fun _ _ _ _ _ _ us hl => by obtain ⟨_, _, _, rfl⟩ := len3 hl; rfl
  have F37 := fun_mk (st := s_right) l37 c37 k37
  have b37 := F37.binds (ps := ["_law_one", "_law_other", "_law_steps", "_law_by"]) fun _ _ _ _ _ _ us hl => by obtain ⟨_, _, _, _, rfl⟩ := len4 hl; rfl
  have F38 := fun_mk (st := s_law) l38 c38 k38
  refine ⟨PySem.W.fnOf "law" "law" (defArgs s_law) (defBody s_law) (defScope s_law) .none kV38 dc38 pm38 an38 cd38 ct38, fun s v => .of_eq rfl, fun base _ _ => ?_⟩
  have g_take : Fn l.prog w K mg base 1 "_law_take" ["_law_box", "_law_many"] (spOf K tTake) := ⟨⟨_, _, ok_take F0 T , PySem.W.mg_of X G a0, k0, b0⟩⟩
  have g_box_of : Fn l.prog w K mg base 1 "_law_box_of" ["_law_script", "_law_k"] (spOf K tBoxOf) := ⟨⟨_, _, ok_box_of F1 T , PySem.W.mg_of X G a1, k1, b1⟩⟩
  have g_lowest : Fn l.prog w K mg base 1 "_law_lowest" ["_law_n", "_law_d"] (spOf K tLow) := ⟨⟨_, _, ok_lowest F2 T , PySem.W.mg_of X G a2, k2, b2⟩⟩
  have g_common_divisor : Fn l.prog w K mg base 1 "common_divisor" ["one", "other"] (spOf K tCommon) := ⟨⟨_, _, ok_common_divisor F3 T , PySem.W.mg_of X G a3, k3, b3⟩⟩
  have g_fraction : Fn l.prog w K mg base 2 "fraction" ["n", "d"] (spOf K tLow) := ⟨⟨_, _, ok_fraction F4 T g_common_divisor, PySem.W.mg_of X G a4, k4, b4⟩⟩
  have g_added : Fn l.prog w K mg base 3 "added" ["one", "other"] (spOf K (tBin fadd)) := ⟨⟨_, _, ok_added F5 T g_fraction, PySem.W.mg_of X G a5, k5, b5⟩⟩
  have g_taken : Fn l.prog w K mg base 3 "taken" ["one", "other"] (spOf K (tBin fsub)) := ⟨⟨_, _, ok_taken F6 T g_fraction, PySem.W.mg_of X G a6, k6, b6⟩⟩
  have g_times : Fn l.prog w K mg base 3 "times" ["one", "other"] (spOf K (tBin fmul)) := ⟨⟨_, _, ok_times F7 T g_fraction, PySem.W.mg_of X G a7, k7, b7⟩⟩
  have g_sum : Fn l.prog w K mg base 2 "_law_sum" ["_law_p", "_law_q"] (spOf K (tBin fadd)) := ⟨⟨_, _, ok_sum F8 T g_lowest, PySem.W.mg_of X G a8, k8, b8⟩⟩
  have g_less : Fn l.prog w K mg base 2 "_law_less" ["_law_p", "_law_q"] (spOf K (tBin fsub)) := ⟨⟨_, _, ok_less F9 T g_lowest, PySem.W.mg_of X G a9, k9, b9⟩⟩
  have g_product : Fn l.prog w K mg base 2 "_law_product" ["_law_p", "_law_q"] (spOf K (tBin fmul)) := ⟨⟨_, _, ok_product F10 T g_lowest, PySem.W.mg_of X G a10, k10, b10⟩⟩
  have g_dot : Fn l.prog w K mg base 4 "dot" ["one", "other"] (spOf K (tVV fdot)) := ⟨⟨_, _, ok_dot F11 T g_times g_added, PySem.W.mg_of X G a11, k11, b11⟩⟩
  have g_cross : Fn l.prog w K mg base 4 "cross" ["one", "other"] (spOf K (tVV fcross)) := ⟨⟨_, _, ok_cross F12 T g_times g_taken, PySem.W.mg_of X G a12, k12, b12⟩⟩
  have g_ldot : Fn l.prog w K mg base 3 "_law_dot" ["_law_p", "_law_q"] (spOf K (tVV fdot)) := ⟨⟨_, _, ok_ldot F13 T g_product g_sum, PySem.W.mg_of X G a13, k13, b13⟩⟩
  have g_lcross : Fn l.prog w K mg base 3 "_law_cross" ["_law_p", "_law_q"] (spOf K (tVV fcross)) := ⟨⟨_, _, ok_lcross F14 T g_product g_less, PySem.W.mg_of X G a14, k14, b14⟩⟩
  have g_turned : Fn l.prog w K mg base 4 "turned" ["unit", "by"] (spOf K tTurned) := ⟨⟨_, _, ok_turned F15 T g_times g_taken g_added, PySem.W.mg_of X G a15, k15, b15⟩⟩
  have g_lturned : Fn l.prog w K mg base 3 "_law_turned" ["_law_unit", "_law_by"] (spOf K tTurned) := ⟨⟨_, _, ok_lturned F16 T g_product g_less g_sum, PySem.W.mg_of X G a16, k16, b16⟩⟩
  have g_folded : Fn l.prog w K mg base 1 "_law_folded" ["_law_script", "_law_many"] (spOf K tFolded) := ⟨⟨_, _, ok_folded F17 T , PySem.W.mg_of X G a17, k17, b17⟩⟩
  have g_like : Fn l.prog w K mg base 7 "_law_like" ["_law_found", "_law_due_here"] (spOf K (tLikeN 7)) := ⟨⟨_, _, ok_like F18 T (PySem.W.mg_of X G a18) k18 b18 7, PySem.W.mg_of X G a18, k18, b18⟩⟩
  have g_unit_by : Fn l.prog w K mg base 2 "_law_unit_by" ["_law_box"] (spOf K tUnitBy) := ⟨⟨_, _, ok_unit_by F19 T g_take g_lowest, PySem.W.mg_of X G a19, k19, b19⟩⟩
  have g_over : Fn l.prog w K mg base 3 "over" ["one", "other"] (spOf K tOver) := ⟨⟨_, _, ok_over F20 T g_fraction, PySem.W.mg_of X G a20, k20, b20⟩⟩
  have g_turn_of : Fn l.prog w K mg base 3 "turn_of" ["tangent"] (spOf K tTurnOf) := ⟨⟨_, _, ok_turn_of F21 T g_fraction, PySem.W.mg_of X G a21, k21, b21⟩⟩
  have g_stepped : Fn l.prog w K mg base 5 "stepped" ["unit", "tangent", "steps"] (spOf K tStepped) := ⟨⟨_, _, ok_stepped F22 T g_turn_of g_times g_fraction g_turned, PySem.W.mg_of X G a22, k22, b22⟩⟩
  have g_has_quarter : Fn l.prog w K mg base 5 "has_quarter" ["one", "other"] (spOf K tHq) := ⟨⟨_, _, ok_has_quarter F23 T g_dot g_cross, PySem.W.mg_of X G a23, k23, b23⟩⟩
  have g_quarters_between : Fn l.prog w K mg base 6 "quarters_between" ["one", "other", "steps"] (spOf K tQb) := ⟨⟨_, _, ok_quarters_between F24 T g_has_quarter g_stepped g_over g_cross g_added g_dot c_ONE, PySem.W.mg_of X G a24, k24, b24⟩⟩
  have g_on : Fn l.prog w K mg base 4 "_law_on" ["_law_unit", "_law_number", "_law_k"] (spOf K tOn) := ⟨⟨_, _, ok_on F25 T g_product g_sum g_less g_lowest g_lturned, PySem.W.mg_of X G a25, k25, b25⟩⟩
  have g_quarters : Fn l.prog w K mg base 5 "_law_quarters" ["_law_one", "_law_other", "_law_steps"] (spOf K tQb) := ⟨⟨_, _, ok_quarters F26 T g_lcross g_ldot g_on g_sum g_lowest g_product, PySem.W.mg_of X G a26, k26, b26⟩⟩
  have g_two_by : Fn l.prog w K mg base 4 "_law_two_by" ["_law_box"] (spOf K tTwoBy) := ⟨⟨_, _, ok_two_by F27 T g_take g_unit_by g_lowest g_lturned, PySem.W.mg_of X G a27, k27, b27⟩⟩
  have g_compared : Fn l.prog w K mg base 1 "compared" ["one", "other"] (spOf K tCmp) := ⟨⟨_, _, ok_compared F28 T , PySem.W.mg_of X G a28, k28, b28⟩⟩
  have g_turn_size : Fn l.prog w K mg base 5 "turn_size" ["one", "other"] (spOf K tTs) := ⟨⟨_, _, ok_turn_size F29 T g_cross g_dot g_taken g_added c_ONE, PySem.W.mg_of X G a29, k29, b29⟩⟩
  have g_flipped : Fn l.prog w K mg base 1 "flipped" ["vector"] (spOf K tFlip) := ⟨⟨_, _, ok_flipped F30 T , PySem.W.mg_of X G a30, k30, b30⟩⟩
  have g_merged : Fn l.prog w K mg base 6 "merged" ["ahead", "back", "one"] (spOf K tMerged) := ⟨⟨_, _, ok_merged F31 T g_turn_size g_compared, PySem.W.mg_of X G a31, k31, b31⟩⟩
  have g_units_between : Fn l.prog w K mg base 7 "units_between" ["one", "other", "steps"] (spOf K tUb) := ⟨⟨_, _, ok_units_between F32 T g_quarters_between g_flipped g_merged, PySem.W.mg_of X G a32, k32, b32⟩⟩
  have g_mirrored : Fn l.prog w K mg base 1 "_law_mirrored" ["_law_unit"] (spOf K tFlip) := ⟨⟨_, _, ok_mirrored F33 T , PySem.W.mg_of X G a33, k33, b33⟩⟩
  have g_third : Fn l.prog w K mg base 4 "_law_third" ["_law_first", "_law_unit"] (spOf K tThird) := ⟨⟨_, _, ok_third F34 T g_lcross, PySem.W.mg_of X G a34, k34, b34⟩⟩
  have g_ahead : Fn l.prog w K mg base 5 "_law_ahead" ["_law_first", "_law_one", "_law_other"] (spOf K tAhead) := ⟨⟨_, _, ok_ahead F35 T g_third g_lcross, PySem.W.mg_of X G a35, k35, b35⟩⟩
  have g_due : Fn l.prog w K mg base 6 "_law_due" ["_law_one", "_law_other", "_law_steps"] (spOf K tDue) := ⟨⟨_, _, ok_due F36 T g_quarters g_mirrored g_ahead, PySem.W.mg_of X G a36, k36, b36⟩⟩
  have g_right : Fn l.prog w K mg base 8 "_law_right" ["_law_one", "_law_other", "_law_steps", "_law_by"] (spOf K tRight8) := ⟨⟨_, _, ok_right F37 T g_due g_units_between g_like g_mirrored g_turned g_lcross g_ldot, PySem.W.mg_of X G a37, k37, b37⟩⟩
  exact (ok_law F38 T g_folded g_box_of g_two_by g_unit_by g_right).imp law_sp
theorem walk {l : PySem.W.OpenLaw} {q : Program} {loose : List Str} {XP : (Str → Option Value) → Heap → Prop} {YP : World → Heap → Prop} {d : DefRec} {K : Params → PySem.W.Frag} (hn : l.most = some 63) (hdf : d.params.defaults = [])
    (hY : ∀ (w : World) (h : Heap), YP w h → (K w.params).In h)
    (F : ∀ (w : World) (mg : Str → Option Value) (fa : Addr) (h : Heap), (K w.params).In h → h.Ns mainGlobals mg → mg d.name = some (.ref fa) →
      ∃ fd : FuncData, (∀ (s : Shared) (u : Value), BindsTo s fd ⟨[u], []⟩ [("_law_script", u)]) ∧ ∀ base : Heap, (K w.params).In base → base.Ns mainGlobals mg → FnOk l.prog w (K w.params) mg base CX0 9 fa fd ["_law_script"] (spLaw (K w.params))) :
    PySem.W.WalkO q loose XP YP l.row.toRowW d [] (fun f vs => PySem.call f vs) :=
  L2.walk_of (n := 63) (k := 9) (x := "_law_script") (CX := fun _ => CX0) (sp := fun w => spLaw (K w.params)) hn (by decide) hdf ⟨rfl, by decide, by decide, rfl⟩ hY F (fun _ _ a ns hl _ hS => ⟨a, ns, rfl, hS, hl, fun _ => rfl⟩) fun _ _ _ _ _ z => z
end My
-- Names taken, so that the last steps make no twins of these constants: their equations are of square size.
def PySem.W.Fast.tw1149648180192893038 : Nat := 0
def PySem.W.Fast.tw17805230938937079195 : Nat := 0
def PySem.W.Fast.tw13944551109013570323 : Nat := 0
def PySem.W.Fast.tw2893786098252750996 : Nat := 0
def PySem.W.Fast.tw3964107990110369295 : Nat := 0
def PySem.W.Fast.tw2428678829032717780 : Nat := 0
def PySem.W.Fast.tw7004260747013407084 : Nat := 0
def PySem.W.Fast.tw9957748535091545098 : Nat := 0
def PySem.W.Fast.tw3994280246945283520 : Nat := 0
def PySem.W.Fast.tw13069646539618424318 : Nat := 0
def PySem.W.Fast.tw8568625209739352751 : Nat := 0
def PySem.W.Fast.tw7994178656081077716 : Nat := 0
open PySem PySem.W PyProof.Rows
set_option maxRecDepth 100000 in
set_option maxHeartbeats 0 in
theorem PySem.Challenge.cw_sidecut_k08_units_between_holds : PySem.Challenge.rw_sidecut_k08_units_between.Holds := by
  w_on; o_law; k_head; (case hw => w_witness2)
  k_fill
  refine My.walk (l := PySem.Challenge.rw_sidecut_k08_units_between) rfl rfl (fun w h Y => PySem.W.kIn_of Y) ?F
  case F =>
    intro w mg fa h KX G hmg
    refine' My.all_mk KX G hmg ?a0 ?l0 ?c0 ?k0 ?a1 ?l1 ?c1 ?k1 ?a2 ?l2 ?c2 ?k2 ?a3 ?l3 ?c3 ?k3 ?a4 ?l4 ?c4 ?k4 ?a5 ?l5 ?c5 ?k5 ?a6 ?l6 ?c6 ?k6 ?a7 ?l7 ?c7 ?k7 ?a8 ?l8 ?c8 ?k8 ?a9 ?l9 ?c9 ?k9 ?a10 ?l10 ?c10 ?k10 ?a11 ?l11 ?c11 ?k11 ?a12 ?l12 ?c12 ?k12 ?a13 ?l13 ?c13 ?k13 ?a14 ?l14 ?c14 ?k14 ?a15 ?l15 ?c15 ?k15 ?a16 ?l16 ?c16 ?k16 ?a17 ?l17 ?c17 ?k17 ?a18 ?l18 ?c18 ?k18 ?a19 ?l19 ?c19 ?k19 ?a20 ?l20 ?c20 ?k20 ?a21 ?l21 ?c21 ?k21 ?a22 ?l22 ?c22 ?k22 ?a23 ?l23 ?c23 ?k23 ?a24 ?l24 ?c24 ?k24 ?a25 ?l25 ?c25 ?k25 ?a26 ?l26 ?c26 ?k26 ?a27 ?l27 ?c27 ?k27 ?a28 ?l28 ?c28 ?k28 ?a29 ?l29 ?c29 ?k29 ?a30 ?l30 ?c30 ?k30 ?a31 ?l31 ?c31 ?k31 ?a32 ?l32 ?c32 ?k32 ?a33 ?l33 ?c33 ?k33 ?a34 ?l34 ?c34 ?k34 ?a35 ?l35 ?c35 ?k35 ?a36 ?l36 ?c36 ?k36 ?a37 ?l37 ?c37 ?k37 ?a38 ?l38 ?c38 ?k38 ?q_ONE ?r_ONE ?z_isinstance ?z_abs ?z_divmod ?z_min ?z_max ?z_all ?z_len ?z_int ?z_bool ?z_tuple ?z_list ?z_str ?z_range ?z_enumerate ?z_zip
    (case a0 => k_is)
    (case l0 => k_is)
    (case c0 => k_is)
    (case k0 => k_is)
    (case a1 => k_is)
    (case l1 => k_is)
    (case c1 => k_is)
    (case k1 => k_is)
    (case a2 => k_is)
    (case l2 => k_is)
    (case c2 => k_is)
    (case k2 => k_is)
    (case a3 => k_is)
    (case l3 => k_is)
    (case c3 => k_is)
    (case k3 => k_is)
    (case a4 => k_is)
    (case l4 => k_is)
    (case c4 => k_is)
    (case k4 => k_is)
    (case a5 => k_is)
    (case l5 => k_is)
    (case c5 => k_is)
    (case k5 => k_is)
    (case a6 => k_is)
    (case l6 => k_is)
    (case c6 => k_is)
    (case k6 => k_is)
    (case a7 => k_is)
    (case l7 => k_is)
    (case c7 => k_is)
    (case k7 => k_is)
    (case a8 => k_is)
    (case l8 => k_is)
    (case c8 => k_is)
    (case k8 => k_is)
    (case a9 => k_is)
    (case l9 => k_is)
    (case c9 => k_is)
    (case k9 => k_is)
    (case a10 => k_is)
    (case l10 => k_is)
    (case c10 => k_is)
    (case k10 => k_is)
    (case a11 => k_is)
    (case l11 => k_is)
    (case c11 => k_is)
    (case k11 => k_is)
    (case a12 => k_is)
    (case l12 => k_is)
    (case c12 => k_is)
    (case k12 => k_is)
    (case a13 => k_is)
    (case l13 => k_is)
    (case c13 => k_is)
    (case k13 => k_is)
    (case a14 => k_is)
    (case l14 => k_is)
    (case c14 => k_is)
    (case k14 => k_is)
    (case a15 => k_is)
    (case l15 => k_is)
    (case c15 => k_is)
    (case k15 => k_is)
    (case a16 => k_is)
    (case l16 => k_is)
    (case c16 => k_is)
    (case k16 => k_is)
    (case a17 => k_is)
    (case l17 => k_is)
    (case c17 => k_is)
    (case k17 => k_is)
    (case a18 => k_is)
    (case l18 => k_is)
    (case c18 => k_is)
    (case k18 => k_is)
    (case a19 => k_is)
    (case l19 => k_is)
    (case c19 => k_is)
    (case k19 => k_is)
    (case a20 => k_is)
    (case l20 => k_is)
    (case c20 => k_is)
    (case k20 => k_is)
    (case a21 => k_is)
    (case l21 => k_is)
    (case c21 => k_is)
    (case k21 => k_is)
    (case a22 => k_is)
    (case l22 => k_is)
    (case c22 => k_is)
    (case k22 => k_is)
    (case a23 => k_is)
    (case l23 => k_is)
    (case c23 => k_is)
    (case k23 => k_is)
    (case a24 => k_is)
    (case l24 => k_is)
    (case c24 => k_is)
    (case k24 => k_is)
    (case a25 => k_is)
    (case l25 => k_is)
    (case c25 => k_is)
    (case k25 => k_is)
    (case a26 => k_is)
    (case l26 => k_is)
    (case c26 => k_is)
    (case k26 => k_is)
    (case a27 => k_is)
    (case l27 => k_is)
    (case c27 => k_is)
    (case k27 => k_is)
    (case a28 => k_is)
    (case l28 => k_is)
    (case c28 => k_is)
    (case k28 => k_is)
    (case a29 => k_is)
    (case l29 => k_is)
    (case c29 => k_is)
    (case k29 => k_is)
    (case a30 => k_is)
    (case l30 => k_is)
    (case c30 => k_is)
    (case k30 => k_is)
    (case a31 => k_is)
    (case l31 => k_is)
    (case c31 => k_is)
    (case k31 => k_is)
    (case a32 => k_is)
    (case l32 => k_is)
    (case c32 => k_is)
    (case k32 => k_is)
    (case a33 => k_is)
    (case l33 => k_is)
    (case c33 => k_is)
    (case k33 => k_is)
    (case a34 => k_is)
    (case l34 => k_is)
    (case c34 => k_is)
    (case k34 => k_is)
    (case a35 => k_is)
    (case l35 => k_is)
    (case c35 => k_is)
    (case k35 => k_is)
    (case a36 => k_is)
    (case l36 => k_is)
    (case c36 => k_is)
    (case k36 => k_is)
    (case a37 => k_is)
    (case l37 => k_is)
    (case c37 => k_is)
    (case k37 => k_is)
    (case a38 => k_is)
    (case l38 => k_is)
    (case c38 => k_is)
    (case k38 => k_is)
    (case q_ONE => k_is)
    (case r_ONE => k_is)
    (case z_isinstance => k_is)
    (case z_abs => k_is)
    (case z_divmod => k_is)
    (case z_min => k_is)
    (case z_max => k_is)
    (case z_all => k_is)
    (case z_len => k_is)
    (case z_int => k_is)
    (case z_bool => k_is)
    (case z_tuple => k_is)
    (case z_list => k_is)
    (case z_str => k_is)
    (case z_range => k_is)
    (case z_enumerate => k_is)
    (case z_zip => k_is)
#print axioms PySem.Challenge.cw_sidecut_k08_units_between_holds
