import PyProof.Rows.All
import Wide.All
import OpenK.AllK
import Wide.FinOn
import Lean
import PyProof.EqAt
import PyProof.EqKinds
import PyProof.TupleCall
import PySem.Challenge.RW_onelook_k45_areas_moved
-- CHANGE: your row's module here, as the last of these rows
set_option Elab.async false
set_option linter.all false
set_option maxRecDepth 100000
/-! THE HAND LAYER, for ints, bools, texts, own classes, LISTS and tuples (index, slices, in, append, pop ..), calls, loops. Paste it whole ahead of your own text; what your proof does not reach may be deleted. -/
namespace L2
open PySem PySem.Spec PyProof.Rows

/-- a key: an int or a str -/
abbrev Key := Sum Int Str
def keyIs : Key → Value → Bool
  | .inl k, v => Value.isInt k v
  | .inr x, v => Value.isStrOf x v
def keyH (w : World) : Key → Int
  | .inl k => hashInt k
  | .inr x => hashStr w x
theorem keyIs_shape : ∀ {k : Key} {v : Value}, keyIs k v = true → (∃ i t, k = Sum.inl i ∧ v = Value.int i t) ∨ (∃ x t, k = Sum.inr x ∧ v = Value.str x t)
  | .inl i, v, h => by
    obtain ⟨t, e⟩ := Value.isInt_shape (k := i) (v := v) h
    exact .inl ⟨i, t, rfl, e⟩
  | .inr x, v, h => by
    obtain ⟨t, e⟩ := Value.isStrOf_shape (x := x) (v := v) h
    exact .inr ⟨x, t, rfl, e⟩
theorem keyIs_int (i : Int) (t : Tok) : keyIs (.inl i) (.int i t) = true := by simp [keyIs, Value.isInt]
theorem keyIs_str (x : Str) (t : Tok) : keyIs (.inr x) (.str x t) = true := by simp [keyIs, Value.isStrOf]
theorem key_ll (a b : Int) : decide ((Sum.inl a : Key) = Sum.inl b) = (a == b) := by
  by_cases e : a = b
  · subst e; simp
  · have h : ¬ (Sum.inl a : Key) = Sum.inl b := fun q => e (Sum.inl.inj q)
    rw [decide_eq_false h]
    exact (beq_eq_false_iff_ne.mpr e).symm
theorem key_rr (a b : Str) : decide ((Sum.inr a : Key) = Sum.inr b) = decide (a = b) := by
  by_cases e : a = b
  · subst e; simp
  · have h : ¬ (Sum.inr a : Key) = Sum.inr b := fun q => e (Sum.inr.inj q)
    rw [decide_eq_false h, decide_eq_false e]
theorem key_lr (a : Int) (b : Str) : decide ((Sum.inl a : Key) = Sum.inr b) = false := decide_eq_false (fun q => nomatch q)
theorem key_rl (a : Str) (b : Int) : decide ((Sum.inr a : Key) = Sum.inl b) = false := decide_eq_false (fun q => nomatch q)

def mixKind (prog : Program) (w : World) : PySem.KeyKind prog w Key where
  is := keyIs
  hash := keyH w
  inj := fun v a b ha hb => by
    rcases keyIs_shape ha with ⟨i, t, rfl, rfl⟩ | ⟨x, t, rfl, rfl⟩
    · rcases keyIs_shape hb with ⟨j, u, rfl, e⟩ | ⟨y, u, rfl, e⟩
      · injection e with e1 _; rw [e1]
      · exact nomatch e
    · rcases keyIs_shape hb with ⟨j, u, rfl, e⟩ | ⟨y, u, rfl, e⟩
      · exact nomatch e
      · injection e with e1 _; rw [e1]
  byValue := fun k v h => by
    rcases keyIs_shape h with ⟨i, t, rfl, rfl⟩ | ⟨x, t, rfl, rfl⟩ <;> rfl
  pyHash := fun hv h => by
    rcases keyIs_shape hv with ⟨i, t, rfl, rfl⟩ | ⟨x, t, rfl, rfl⟩
    · exact wpAny_pyHash_int h
    · exact wpAny_pyHash_str h
  eqBool := fun hu hv h => by
    rcases keyIs_shape hu with ⟨i, t, rfl, rfl⟩ | ⟨x, t, rfl, rfl⟩
    · rcases keyIs_shape hv with ⟨j, u, rfl, rfl⟩ | ⟨y, u, rfl, rfl⟩
      · rw [key_ll] at h; exact wpAny_eqBool_int h
      · rw [key_lr] at h; exact SeqAt.EqAt.int_str i t y u _ _ _ _ h
    · rcases keyIs_shape hv with ⟨j, u, rfl, rfl⟩ | ⟨y, u, rfl, rfl⟩
      · rw [key_rl] at h; exact SeqAt.EqAt.str_int x t j u _ _ _ _ h
      · rw [key_rr] at h; exact wpAny_eqBool_str h
  «strs» := fun k x t v h => by
    rcases keyIs_shape h with ⟨i, u, rfl, e⟩ | ⟨y, u, rfl, e⟩
    · exact nomatch e
    · injection e with e1 _
      subst e1
      cases v <;> rfl

theorem mixKind_is (prog : Program) (w : World) (k : Key) (v : Value) : (mixKind prog w).is k v = keyIs k v := rfl
theorem mixKind_int (prog : Program) (w : World) (i : Int) (t : Tok) : (mixKind prog w).is (.inl i) (.int i t) = true := keyIs_int i t
theorem mixKind_str (prog : Program) (w : World) (x : Str) (t : Tok) : (mixKind prog w).is (.inr x) (.str x t) = true := keyIs_str x t
end L2

namespace L2
open PySem PySem.Spec PyProof.Rows

/-- a value, without the heap -/
inductive V where
  | non | bl (b : Bool) | int (i : Int) | str (x : Str) | byt (b : Array UInt8) | flt (b : UInt64) | ref (a : Addr) | ty (n : String)
  deriving DecidableEq

def RelV : V → Value → Prop
  | .non, u => u = Value.none
  | .bl b, u => u = Value.bool b
  | .int i, u => ∃ t, u = Value.int i t
  | .str x, u => ∃ t, u = Value.str x t
  | .byt b, u => ∃ t, u = Value.bytes b t
  | .flt b, u => ∃ t, u = Value.float b t
  | .ref a, u => u = Value.ref a
  | .ty n, u => u = Value.type n

abbrev Vals : List V → List Value → Prop := Paired RelV
theorem Vals.length {xs : List V} {us : List Value} (r : Vals xs us) : xs.length = us.length := Paired.length r
theorem Vals.get : ∀ {xs : List V} {us : List Value} {i : Nat} {x : V}, Vals xs us → xs[i]? = some x → ∃ u, us[i]? = some u ∧ RelV x u
  | _, _, _, _, .nil, e => by simp at e
  | _, _, 0, _, .cons r _, e => by simp at e; subst e; exact ⟨_, rfl, r⟩
  | _, _, i + 1, x, .cons _ t, e => by
    obtain ⟨u, h1, h2⟩ := Vals.get (i := i) (x := x) t (by simpa using e)
    exact ⟨u, by simpa using h1, h2⟩
theorem Vals.set {x : V} {u : Value} (r : RelV x u) : ∀ {xs : List V} {us : List Value} (i : Nat), Vals xs us → Vals (xs.set i x) (us.set i u)
  | _, _, _, .nil => .nil
  | _, _, 0, .cons _ t => .cons r t
  | _, _, i + 1, .cons q t => .cons q (Vals.set r i t)
theorem Vals.append : ∀ {xs ys : List V} {us ws : List Value}, Vals xs us → Vals ys ws → Vals (xs ++ ys) (us ++ ws)
  | _, _, _, _, .nil, s => s
  | _, _, _, _, .cons r t, s => .cons r (Vals.append t s)
theorem Vals.take : ∀ {xs : List V} {us : List Value} (n : Nat), Vals xs us → Vals (xs.take n) (us.take n)
  | _, _, 0, _ => .nil
  | _, _, _ + 1, .nil => .nil
  | _, _, n + 1, .cons r t => .cons r (Vals.take n t)
theorem Vals.drop : ∀ {xs : List V} {us : List Value} (n : Nat), Vals xs us → Vals (xs.drop n) (us.drop n)
  | _, _, 0, r => r
  | _, _, _ + 1, .nil => .nil
  | _, _, n + 1, .cons _ t => Vals.drop n t
theorem Vals.none_of : ∀ {xs : List V} {us : List Value} {i : Nat}, Vals xs us → xs[i]? = none → us[i]? = none := fun {xs us i} r e => by
  have h1 := r.length
  have h2 : xs.length ≤ i := List.getElem?_eq_none_iff.mp e
  exact List.getElem?_eq_none_iff.mpr (by omega)

def RelO : Option V → Option Value → Prop
  | some v, some u => RelV v u
  | none, none => True
  | _, _ => False
def KV {κ : Type} : List (κ × V) → List (κ × Value) → Prop := Paired fun (p : κ × V) (q : κ × Value) => p.1 = q.1 ∧ RelV p.2 q.2

/-- a key of a dict (00_mix): an int or a text -/
def kV : Key → V
  | .inl i => .int i
  | .inr x => .str x

/-- what stands at a tracked address -/
inductive HO where
  /-- a list -/
  | lst (xs : List V)
  /-- a tuple (never changes) -/
  | tup (xs : List V)
  /-- a dict whose keys are ints and texts; one whose keys are tuples of ints and texts (the empty one is both) -/
  | dK (kvs : List (Key × V)) | dT (kvs : List (List Key × V))
  /-- a set of ints: its members, its size -/
  | set (S : Int → Bool) (n : Nat)
  /-- an instance of the class at C, its dict at dx, its attributes -/
  | ins (C dx : Addr) (fs : List (Str × V))
  /-- the dict of the instance at x -/
  | own (x : Addr)
  /-- the dict of an exception -/
  | xd (fs : List (Str × V))
  /-- a bound method, f of x -/
  | met (f x : Addr)
  /-- a range object lo, lo + 1, .. below hi -/
  | rng (lo hi : Int)
  /-- a thing that is known to the object (the script; a dict while a loop walks it): read, never written while it is so -/
  | frz (o : Obj) (u : HO)
  /-- a code object's table -/
  | tbl (ps : Array Value)
  /-- any other thing, by what is true of its one object (a def of one's own: SetO a S n := HO.ext fun h => ..) -/
  | ext (φ : Heap → Prop)

abbrev Hp := Addr → Option HO
def upd (H : Hp) (a : Addr) (o : HO) : Hp := fun b => if b = a then some o else H b
theorem upd_same {H : Hp} {a : Addr} {o : HO} : upd H a o a = some o := by unfold upd; rw [if_pos rfl]
theorem upd_ne {H : Hp} {a b : Addr} {o : HO} (h : b ≠ a) : upd H a o b = H b := by unfold upd; rw [if_neg h]
theorem upd_upd {H : Hp} {a : Addr} {o u : HO} : upd (upd H a o) a u = upd H a u := by
  funext b; unfold upd; split <;> rfl
/-- two objects of different content stand apart -/
theorem ne_of {H : Hp} {a b : Addr} {o u : HO} (h : H a = some o) (h' : H b = some u) (d : o ≠ u) : a ≠ b := by
  intro e; subst e; rw [h] at h'; exact d (Option.some.inj h')
theorem ne_of_none {H : Hp} {a b : Addr} {o : HO} (h : H a = some o) (h' : H b = none) : a ≠ b := by
  intro e; subst e; rw [h] at h'; cases h'

section
variable (P : Program) (w : World)
def ObjOk (H : Hp) (h : Heap) (a : Addr) : HO → Prop
  | .lst xs => xs.length ≤ sizeLine ∧ ∃ (its : List Value) (n : Nat), Vals xs its ∧ h.get? a = some { cls := .type "list", data := .seq its.toArray n }
  | .tup xs => xs.length ≤ sizeLine ∧ ∃ its : List Value, Vals xs its ∧ IsTup h a its.toArray
  | .dK kvs => kvs.length ≤ sizeLine ∧ (a == sysModules) = false ∧ ∃ vs, KV kvs vs ∧ h.DictOf (mixKind P w) a vs
  | .dT kvs => kvs.length ≤ sizeLine ∧ (a == sysModules) = false ∧ ∃ xs : List (List Key × Addr × Value),
      Paired (fun (p : List Key × V) (q : List Key × Addr × Value) => p.1 = q.1 ∧ H q.2.1 = some (.tup (p.1.map kV)) ∧ RelV p.2 q.2.2) kvs xs ∧
      ∃ o es ep, h.get? a = some o ∧ o.ExactDict ∧ o.data = .dict es ep ∧ es.toList = xs.map (entryOfKey (tupleKind (mixKind P w))) ∧ (xs.map (·.1)).Nodup
  | .set S n => h.SetOf (intKind P w) a S n
  | .ins C dx fs => H dx = some (.own a) ∧ fs.length ≤ 1000 ∧ dx ≠ a ∧ h.get? a = some (PySem.W.instObj C dx) ∧
      ∃ mA, h.Ns1 dx mA ∧ (∀ f, RelO (fs.lookup f) (mA f)) ∧ PySem.Within mA (fs.map (·.1))
  | .own _ => ∃ o, h.get? a = some o
  | .xd fs => ∃ mA, h.Ns1 a mA ∧ ∀ f, RelO (fs.lookup f) (mA f)
  | .rng lo hi => ∃ t u v, h.get? a = some { cls := .type "range", data := .fields #[.int lo t, .int hi u, .int 1 v] }
  | .frz o u => h.get? a = some o ∧ ObjOk H h a u
  | .tbl ps => h.get? a = some { cls := .none, data := .fields ps }
  | .met f x => h.get? a = some (PySem.W.methodObj (.ref f) (.ref x))
  | .ext φ => φ h ∧ (∃ o, h.get? a = some o) ∧ ∀ h1 h2 : Heap, φ h1 → (∀ o, h1.get? a = some o → h2.get? a = some o) → φ h2
/-- the abstract heap is held -/
def HOk (H : Hp) (h : Heap) : Prop := ∀ a o, H a = some o → ObjOk P w H h a o
end

section
variable {P : Program} {w : World} {H H' : Hp} {h h' : Heap} {a : Addr} {o : HO}
theorem ObjOk.lt (x : ObjOk P w H h a o) : a < h.objs.size := by
  cases o with
  | lst xs => obtain ⟨_, _, _, _, e⟩ := x; exact Heap.lt_size e
  | tup xs => obtain ⟨_, _, _, p⟩ := x; exact p.lt
  | dK kvs => obtain ⟨_, _, _, _, o, _, _, e, _⟩ := x; exact Heap.lt_size e
  | dT kvs => obtain ⟨_, _, _, _, o, _, _, e, _⟩ := x; exact Heap.lt_size e
  | set S n => obtain ⟨o, _, _, _, e, _⟩ := x; exact Heap.lt_size e
  | ins C dx fs => obtain ⟨_, _, _, e, _⟩ := x; exact Heap.lt_size e
  | own y => obtain ⟨_, e⟩ := x; exact Heap.lt_size e
  | xd fs => obtain ⟨_, ⟨_, _, _, e, _⟩, _⟩ := x; exact Heap.lt_size e
  | rng lo hi => obtain ⟨_, _, _, e⟩ := x; exact Heap.lt_size e
  | frz ob u => obtain ⟨e, _⟩ := x; exact Heap.lt_size e
  | tbl ps => exact Heap.lt_size (show h.get? a = some _ from x)
  | met f y => exact Heap.lt_size (show h.get? a = some _ from x)
  | ext φ => obtain ⟨_, ⟨_, e⟩, _⟩ := x; exact Heap.lt_size e
theorem Paired.mapP {α β : Type} {F G : α → β → Prop} : ∀ {l₁ : List α} {l₂ : List β}, Paired F l₁ l₂ → (∀ a b, F a b → G a b) → Paired G l₁ l₂
  | _, _, .nil, _ => .nil
  | _, _, .cons r t, f => .cons (f _ _ r) (Paired.mapP t f)
theorem Paired.imp' {α β : Type} {F G : α → β → Prop} (f : ∀ a b, F a b → G a b) {l₁ : List α} {l₂ : List β} (r : Paired F l₁ l₂) : Paired G l₁ l₂ := Paired.mapP r f
/-- what an object's description leans on: its own object, its own dict, the tuples -/
theorem ObjOk.stay (x : ObjOk P w H h a o) (k : ∀ b u, (b = a ∨ H b = some (.own a)) → h.get? b = some u → h'.get? b = some u)
    (ho : ∀ b, H b = some (.own a) → H' b = some (.own a)) (ht : ∀ b xs, H b = some (.tup xs) → H' b = some (.tup xs)) : ObjOk P w H' h' a o := by
  induction o with
  | lst xs => obtain ⟨z, its, n, r, e⟩ := x; exact ⟨z, its, n, r, k _ _ (.inl rfl) e⟩
  | tup xs => obtain ⟨z, its, r, ob, e, c⟩ := x; exact ⟨z, its, r, ob, k _ _ (.inl rfl) e, c⟩
  | dK kvs => obtain ⟨z, y, vs, r, ob, es, ep, e, c⟩ := x; exact ⟨z, y, vs, r, ob, es, ep, k _ _ (.inl rfl) e, c⟩
  | dT kvs =>
    obtain ⟨z, y, xs, r, ob, es, ep, e, c⟩ := x
    exact ⟨z, y, xs, Paired.mapP r fun p q z => ⟨z.1, ht _ _ z.2.1, z.2.2⟩, ob, es, ep, k _ _ (.inl rfl) e, c⟩
  | set S n => obtain ⟨ob, es, ep, t, e, c⟩ := x; exact ⟨ob, es, ep, t, k _ _ (.inl rfl) e, c⟩
  | ins C dx fs =>
    obtain ⟨d, z, ne, e, mA, ⟨od, es, ep, e2, c⟩, r⟩ := x
    exact ⟨ho _ d, z, ne, k _ _ (.inl rfl) e, mA, ⟨od, es, ep, k _ _ (.inr d) e2, c⟩, r⟩
  | own y => obtain ⟨ob, e⟩ := x; exact ⟨ob, k _ _ (.inl rfl) e⟩
  | xd fs => obtain ⟨mA, ⟨od, es, ep, e, c⟩, r⟩ := x; exact ⟨mA, ⟨od, es, ep, k _ _ (.inl rfl) e, c⟩, r⟩
  | rng lo hi => obtain ⟨t, u, v, e⟩ := x; exact ⟨t, u, v, k _ _ (.inl rfl) e⟩
  | frz ob u ih => obtain ⟨e, q⟩ := x; exact ⟨k _ _ (.inl rfl) e, ih q⟩
  | tbl ps =>
    have e : h.get? a = some { cls := .none, data := .fields ps } := x
    show h'.get? a = some { cls := .none, data := .fields ps }
    exact k a _ (.inl rfl) e
  | met f y =>
    have e : h.get? a = some (PySem.W.methodObj (.ref f) (.ref y)) := x
    show h'.get? a = some (PySem.W.methodObj (.ref f) (.ref y))
    exact k a _ (.inl rfl) e
  | ext φ => obtain ⟨p, ⟨o, e⟩, st⟩ := x; exact ⟨st _ _ p fun o q => k _ _ (.inl rfl) q, ⟨o, k _ _ (.inl rfl) e⟩, st⟩
theorem HOk.lt (x : HOk P w H h) (e : H a = some o) : a < h.objs.size := (x a o e).lt
theorem HOk.fresh (x : HOk P w H h) (e : h.objs.size ≤ a) : H a = none := by
  cases q : H a with
  | none => rfl
  | some u => exact absurd (Nat.lt_of_lt_of_le (x.lt q) e) (Nat.lt_irrefl _)
/-- every object of the heap is kept -/
theorem HOk.kept (x : HOk P w H h) (k : ∀ b u, h.get? b = some u → h'.get? b = some u) : HOk P w H h' := fun a o e =>
  (x a o e).stay (fun b u _ q => k b u q) (fun _ q => q) fun _ _ q => q
/-- a new object is laid and tracked -/
theorem HOk.laid (x : HOk P w H h) (k : ∀ b u, h.get? b = some u → h'.get? b = some u) (hp : h.objs.size ≤ a) (new : ObjOk P w (upd H a o) h' a o) : HOk P w (upd H a o) h' := fun b u e => by
  have hn := x.fresh hp
  by_cases hb : b = a
  · subst hb; rw [upd_same] at e; cases e; exact new
  · rw [upd_ne hb] at e
    exact (x b u e).stay (fun c v _ q => k c v q) (fun c q => by rw [upd_ne (ne_of_none q hn)]; exact q) fun c xs q => by rw [upd_ne (ne_of_none q hn)]; exact q
end

/-- what may be read as u: it is u, or a known u -/
def Rd (H : Hp) (a : Addr) (u : HO) : Prop := H a = some u ∨ ∃ o, H a = some (.frz o u)
theorem Rd.of {H : Hp} {a : Addr} {u : HO} (h : H a = some u) : Rd H a u := .inl h
theorem Rd.ok {P : Program} {w : World} {H : Hp} {h : Heap} {a : Addr} {u : HO} (r : Rd H a u) (x : HOk P w H h) : ObjOk P w H h a u := by
  rcases r with r | ⟨o, r⟩
  · exact x a u r
  · obtain ⟨_, q⟩ := x a _ r
    exact q
/-- what may be written -/
def Mut : Option HO → Prop
  | some (.lst _) => True
  | some (.dK _) => True
  | some (.dT _) => True
  | some (.set _ _) => True
  | some (.ins _ _ _) => True
  | some (.ext _) => True
  | _ => False
section
variable {P : Program} {w : World} {H : Hp} {h h' : Heap} {x e : Addr} {o' : HO}
/-- the object at e is changed: x itself, or the dict of the instance x -/
theorem HOk.write (ok : HOk P w H h) (mu : Mut (H x)) (he : e = x ∨ H e = some (.own x)) (k : ∀ b u, b ≠ e → h.get? b = some u → h'.get? b = some u) (heo : ∃ u, h'.get? e = some u)
    (new : ObjOk P w (upd H x o') h' x o') : HOk P w (upd H x o') h' := fun b u q => by
  have nown : ∀ c y, H c = some (.own y) → c ≠ x := fun c y r z => by subst z; rw [r] at mu; exact mu
  have ntup : ∀ c xs, H c = some (.tup xs) → c ≠ x := fun c xs r z => by subst z; rw [r] at mu; exact mu
  by_cases hb : b = x
  · subst hb; rw [upd_same] at q; cases q; exact new
  · rw [upd_ne hb] at q
    by_cases hbe : b = e
    · have q' : H b = some (.own x) := by
        rcases he with z | z
        · exact absurd (hbe.trans z) hb
        · rw [hbe]; exact z
      rw [q] at q'; cases q'
      obtain ⟨v, hv⟩ := heo
      exact ⟨v, by rw [hbe]; exact hv⟩
    · refine (ok b u q).stay (fun c v hc r => k c v ?_ r) (fun c r => by rw [upd_ne (nown c b r)]; exact r) fun c xs r => by rw [upd_ne (ntup c xs r)]; exact r
      rcases hc with rfl | hc
      · exact hbe
      · rintro rfl
        rcases he with z | z
        · exact nown c b hc z
        · rw [hc] at z; cases z; exact hb rfl
end

/-! ### kept unless tracked; of the frames at fs (the callers') the slots may change (an exception that passes writes there); of the records at ex (iterators) nothing is said -/
structure Un (fs ex : List Addr) (H H' : Hp) (h h' : Heap) : Prop where
  keep : ∀ b o, h.get? b = some o → H b = none → b ∉ fs → b ∉ ex → h'.get? b = some o
  slot : ∀ b o, h.get? b = some o → H b = none → b ∈ fs → b ∉ ex → ∃ sl, h'.get? b = some { o with slots := sl }
  free : ∀ b o, h.get? b = some o → H b = none → b ∉ ex → H' b = none
  there : ∀ b o, h.get? b = some o → b ∉ ex → ∃ o', h'.get? b = some o'
  tups : ∀ b xs, H b = some (.tup xs) → H' b = some (.tup xs)
  frzs : ∀ b o u, H b = some (.frz o u) → H' b = some (.frz o u)
  tbls : ∀ b ps, H b = some (.tbl ps) → ∃ more, H' b = some (.tbl (ps ++ more))
section
variable {fs fs' ex ex' : List Addr} {H H1 H2 : Hp} {h h1 h2 h' : Heap} {a x e : Addr} {o : HO}
theorem Un.any (u : Un fs ex H H1 h h1) {b : Addr} {ob : Obj} (q : h.get? b = some ob) (n : H b = none) (hx : b ∉ ex) : ∃ sl, h1.get? b = some { ob with slots := sl } := by
  by_cases hb : b ∈ fs
  · exact u.slot b ob q n hb hx
  · exact ⟨ob.slots, u.keep b ob q n hb hx⟩
theorem Un.trans (a : Un fs ex H H1 h h1) (b : Un fs ex H1 H2 h1 h2) : Un fs ex H H2 h h2 where
  keep := fun c ob q n hc hx => b.keep c ob (a.keep c ob q n hc hx) (a.free c ob q n hx) hc hx
  slot := fun c ob q n hc hx => by
    obtain ⟨sl, e1⟩ := a.slot c ob q n hc hx
    obtain ⟨sl', e2⟩ := b.slot c _ e1 (a.free c ob q n hx) hc hx
    exact ⟨sl', e2⟩
  free := fun c ob q n hx => by
    obtain ⟨o', e1⟩ := a.there c ob q hx
    exact b.free c o' e1 (a.free c ob q n hx) hx
  there := fun c ob q hx => by
    obtain ⟨o', e1⟩ := a.there c ob q hx
    exact b.there c o' e1 hx
  tups := fun c xs q => b.tups c xs (a.tups c xs q)
  frzs := fun c ob xs q => b.frzs c ob xs (a.frzs c ob xs q)
  tbls := fun c ps q => by
    obtain ⟨m1, e1⟩ := a.tbls c ps q
    obtain ⟨m2, e2⟩ := b.tbls c _ e1
    exact ⟨m1 ++ m2, by rw [e2, Array.append_assoc]⟩
theorem Un.kept (k : ∀ b u, h.get? b = some u → h'.get? b = some u) : Un fs ex H H h h' :=
  ⟨fun b ob q _ _ _ => k b ob q, fun b ob q _ _ _ => ⟨ob.slots, k b ob q⟩, fun _ _ _ n _ => n, fun b ob q _ => ⟨ob, k b ob q⟩, fun _ _ q => q, fun _ _ _ q => q, fun _ ps q => ⟨#[], by rw [q]; simp⟩⟩
theorem Un.refl : Un fs ex H H h h := Un.kept fun _ _ q => q
theorem Un.laid (k : ∀ b u, h.get? b = some u → h'.get? b = some u) (hp : h.objs.size ≤ a) (hn : H a = none) : Un fs ex H (upd H a o) h h' where
  keep := fun b u q _ _ _ => k b u q
  slot := fun b u q _ _ _ => ⟨u.slots, k b u q⟩
  free := fun b u q n _ => by rw [upd_ne (Nat.ne_of_lt (Nat.lt_of_lt_of_le (Heap.lt_size q) hp))]; exact n
  there := fun b u q _ => ⟨u, k b u q⟩
  tups := fun b xs q => by rw [upd_ne (ne_of_none q hn)]; exact q
  frzs := fun b u xs q => by rw [upd_ne (ne_of_none q hn)]; exact q
  tbls := fun b ps q => ⟨#[], by rw [upd_ne (ne_of_none q hn), q]; simp⟩
theorem Un.write (mu : Mut (H x)) (he : e = x ∨ H e = some (.own x)) (k : ∀ b u, b ≠ e → h.get? b = some u → h'.get? b = some u) (heo : ∃ u, h'.get? e = some u) : Un fs ex H (upd H x o) h h' := by
  have hx : ∀ b, H b = none → b ≠ x := fun b n z => by subst z; rw [n] at mu; exact mu
  have hb : ∀ b, H b = none → b ≠ e := fun b n z => by
    subst z
    rcases he with r | r
    · exact hx b n r
    · rw [n] at r; cases r
  have hm : ∀ b u, H b = some u → ¬ Mut (some u) → b ≠ x := fun b u q nm z => by subst z; rw [q] at mu; exact nm mu
  refine ⟨fun b u q n _ _ => k b u (hb b n) q, fun b u q n _ _ => ⟨u.slots, k b u (hb b n) q⟩, fun b u q n _ => by rw [upd_ne (hx b n)]; exact n, fun b u q _ => ?_,
    fun b xs q => by rw [upd_ne (hm b _ q fun z => z)]; exact q, fun b u xs q => by rw [upd_ne (hm b _ q fun z => z)]; exact q, fun b ps q => ⟨#[], by rw [upd_ne (hm b _ q fun z => z), q]; simp⟩⟩
  by_cases hbe : b = e
  · subst hbe; exact heo
  · exact ⟨u, k b u hbe q⟩
theorem Un.mono (u : Un fs ex H H1 h h1) (hs : ∀ b ∈ fs, b ∈ fs') (hx : ∀ b ∈ ex, b ∈ ex') : Un fs' ex' H H1 h h1 :=
  ⟨fun b ob q n hb he => u.keep b ob q n (fun z => hb (hs b z)) fun z => he (hx b z), fun _ _ q n _ he => u.any q n fun z => he (hx _ z), fun b ob q n he => u.free b ob q n fun z => he (hx b z), fun b ob q he => u.there b ob q fun z => he (hx b z), u.tups, u.frzs, u.tbls⟩
end

/-! ### the heap without what is tracked -/
def trk (h : Heap) (H : Hp) : List Addr := (List.range h.objs.size).filter fun a => (H a).isSome
def hidT (h : Heap) (H : Hp) : Heap := PySem.W.hideAll h (trk h H)
theorem hidT_size (h : Heap) (H : Hp) : (hidT h H).objs.size = h.objs.size := PySem.W.hideAll_size _ _
theorem hidT_get {h : Heap} {H : Hp} {b : Addr} {o : Obj} (e : h.get? b = some o) (n : H b = none) : (hidT h H).get? b = some o :=
  PySem.W.hideAll_get _ e fun hm => by
    have q : (H b).isSome = true := (List.mem_filter.mp hm).2
    rw [n] at q; simp at q
theorem of_hidT {h : Heap} {H : Hp} {b : Addr} {o : Obj} (e : (hidT h H).get? b = some o) : h.get? b = some o ∧ H b = none := by
  have e' : h.get? b = some o := PySem.W.of_hideAll (trk h H) e
  refine ⟨e', ?_⟩
  cases q : H b with
  | none => rfl
  | some x =>
    have hm : b ∈ trk h H := List.mem_filter.mpr ⟨List.mem_range.mpr (Heap.lt_size e'), by simp [q]⟩
    have z : (hidT h H).get? b = none := PySem.W.hideAll_none (trk h H) hm
    rw [z] at e; cases e

/-! ### OpenK's ledger, filled with every new object but one -/
def allNews (g h : Heap) (L : Addr) : List (Addr × Obj) := (List.range h.objs.size).filterMap fun a => if a = L ∨ (g.get? a).isSome = true then none else (h.get? a).map fun o => (a, o)
theorem mem_allNews {g h : Heap} {L a : Addr} {o : Obj} (h1 : a ≠ L) (h2 : g.get? a = none) (h3 : h.get? a = some o) : (a, o) ∈ allNews g h L :=
  List.mem_filterMap.mpr ⟨a, List.mem_range.mpr (Heap.lt_size h3), by simp [h1, h2, h3]⟩
theorem of_mem_allNews {g h : Heap} {L : Addr} {p : Addr × Obj} (hp : p ∈ allNews g h L) : p.1 ≠ L ∧ g.get? p.1 = none ∧ h.get? p.1 = some p.2 := by
  obtain ⟨b, _, e⟩ := List.mem_filterMap.mp hp
  split at e
  · cases e
  · rename_i hn
    cases q : h.get? b with
    | none => rw [q] at e; simp at e
    | some u =>
      rw [q] at e
      simp only [Option.map_some, Option.some.injEq] at e
      subst e
      refine ⟨fun z => hn (.inl z), ?_, q⟩
      show g.get? b = none
      cases r : g.get? b with
      | none => rfl
      | some v => exact (hn (.inr (by simp [r]))).elim
def rest (g h : Heap) (L d : Addr) : List (Addr × Obj) := (allNews g h L).filter fun p => decide (p.1 ≠ d)
theorem rest_ne {g h : Heap} {L d : Addr} : ∀ p ∈ rest g h L d, p.1 ≠ d := fun p hp => of_decide_eq_true (List.mem_filter.mp hp).2
theorem mem_rest {g h : Heap} {L d a : Addr} {o : Obj} (h1 : a ≠ L) (h2 : g.get? a = none) (h3 : h.get? a = some o) (h4 : a ≠ d) : (a, o) ∈ rest g h L d :=
  List.mem_filter.mpr ⟨mem_allNews h1 h2 h3, decide_eq_true h4⟩
theorem news_all {g h : Heap} {L : Addr} : News g L h (allNews g h L) := fun p hp => let ⟨a, b, c⟩ := of_mem_allNews hp; ⟨c, a, b⟩
theorem news_at {g h : Heap} {L d : Addr} {o : Obj} (h1 : d ≠ L) (h2 : g.get? d = none) (h3 : h.get? d = some o) : News g L h ((d, o) :: rest g h L d) := fun p hp => by
  rcases List.mem_cons.mp hp with rfl | hp
  · exact ⟨h3, h1, h2⟩
  · exact news_all p (List.mem_filter.mp hp).1
/-- behind a rule that changed d alone: all else but the frame is kept -/
theorem kept_of_news {g h h' : Heap} {L d : Addr} {m : Str → Option Value} (k : ∀ b o, g.get? b = some o → h.get? b = some o) (F : Fr g L h' m) (N : News g L h' (rest g h L d)) :
    ∀ b o, b ≠ L → b ≠ d → h.get? b = some o → h'.get? b = some o := fun b o h1 h2 e => by
  cases q : g.get? b with
  | some u =>
    have := k b u q
    rw [e] at this; cases this
    exact F.keep b _ q
  | none => exact (N (b, o) (mem_rest h1 q e h2)).1
end L2

namespace L2
open PySem PySem.Spec PyProof.Rows

/-- the module's facts, over the base: the heap at the law's entry without what is tracked there -/
structure Mod (K : PySem.W.Frag) (mg : Str → Option Value) (base : Heap) : Prop where
  kin : K.In base
  glob : base.Ns mainGlobals mg
  blt : ∃ mb, base.Ns builtinsNs mb ∧ ∀ x : Str, x ≠ "__name__" → mb x = bootBuiltins x
  nolimit : base.NoLimit

/-- the context: a def's body (or a comprehension's block) running. base: fixed through the whole law; s₀, H₀: the entry; outer: the frames whose slots others may change (a def's callers); stack: all frames that run;
   ex: iterators that were made ahead of the entry and are walked here (a comprehension's); fn: the names whose cells were made at the entry (a def: all; a comprehension's block: its own); calm: not within an except suite; pn: pins that every state bears; xe: what is wanted of an exception that leaves the code -/
structure Cx where
  prog : Program
  w : World
  K : PySem.W.Frag
  mg : Str → Option Value
  base : Heap
  A : Around
  N : List Str
  s₀ : Shared
  H₀ : Hp
  env : Env
  outer : List Env
  stack : List Env
  ex : List Addr
  fn : Str → Bool
  calm : Bool
  pn : List (Addr × Obj)
  xe : Value → Shared → Prop
/-- the callers' frames -/
def frs (l : List Env) : List Addr := l.filterMap (·.frame)
abbrev Cx.fs (X : Cx) : List Addr := frs X.outer

def Vis (sc : Scope) (x : Str) : Prop := sc.names.lookup x = some .local ∨ sc.names.lookup x = some .cell ∨ sc.names.lookup x = some .free
def Loc (sc : Scope) (x : Str) : Prop := sc.names.lookup x = some .local ∨ sc.names.lookup x = some .cell
def Look (env : Env) (h : Heap) (m : Str → Option Value) (x : Str) (u : Value) : Prop :=
  (env.kindOf x = some .local ∧ m x = some u) ∨ ((env.kindOf x = some .cell ∨ env.kindOf x = some .free) ∧ ∃ c, env.cells.lookup x = some c ∧ h.IsCell c (some u))

structure Cx.Ok (X : Cx) : Prop where
  mod : Mod X.K X.mg X.base
  kind : X.env.scope.kind = .function
  glob : X.env.globals = mainGlobals
  blt : X.env.builtins = builtinsNs
  above : X.s₀.heap.objs.size ≤ X.env.locals
  inj : ∀ x y c, X.env.cells.lookup x = some c → X.env.cells.lookup y = some c → x = y
  has : ∀ x, (X.env.kindOf x = some .cell ∨ X.env.kindOf x = some .free) → ∃ c, X.env.cells.lookup x = some c
  cab : ∀ x c, X.fn x = true → X.env.cells.lookup x = some c → X.s₀.heap.objs.size ≤ c
  hd : X.calm = true → X.A.handled = none
  frames : X.A.frames = some X.stack
  stk : X.stack = X.outer ∨ (X.stack = X.env :: X.outer ∧ X.env.frame = some X.env.locals)
  exf : ∀ b ∈ X.ex, b ≠ X.env.locals ∧ ∀ x c, X.env.cells.lookup x = some c → c ≠ b
  bs : ∀ b o, X.base.get? b = some o → X.s₀.heap.get? b = some o ∧ X.H₀ b = none
  bsz : X.base.objs.size ≤ X.s₀.heap.objs.size
  noex : ∀ b o, X.base.get? b = some o → b ∉ X.ex
  exfs : ∀ b ∈ X.ex, b ∉ X.fs
  funs : X.s₀.heap.FunFrames X.base X.outer
  frf : ∀ b ∈ X.fs, X.H₀ b = none

structure Inv (X : Cx) (pins : List (Addr × Obj)) (σ : List (Option V)) (H : Hp) (s : Shared) : Prop where
  ok : X.Ok
  os : s.os = X.s₀.os
  bare : AllBare s.gens
  base : Un X.fs X.ex X.H₀ H X.s₀.heap s.heap
  loc : ∃ m, s.heap.Ns X.env.locals m ∧ ∀ (i : Nat) (x : Str) (v : V), X.N[i]? = some x → σ[i]? = some (some v) → Vis X.env.scope x → ∃ u, RelV v u ∧ Look X.env s.heap m x u
  cell : ∀ x c, X.env.cells.lookup x = some c → ∃ v, s.heap.IsCell c v
  free : H X.env.locals = none
  freeC : ∀ x c, X.env.cells.lookup x = some c → H c = none
  pin : ∀ p ∈ X.pn ++ pins, s.heap.get? p.1 = some p.2 ∧ H p.1 = none ∧ p.1 ≠ X.env.locals ∧ p.1 ∉ X.fs ∧ ∀ v, p.2.data ≠ .cell v
  hok : HOk X.prog X.w H s.heap
  len : σ.length = X.N.length

section
variable {X : Cx} {pins : List (Addr × Obj)} {σ : List (Option V)} {H H' : Hp} {s : Shared} {h' : Heap}

theorem Cx.Ok.nofr (ok : X.Ok) {b : Addr} {o : Obj} (e : X.base.get? b = some o) : b ∉ X.fs := fun hb => by
  have := (ok.funs.mem hb).1
  rw [e] at this; cases this
theorem Inv.bs (I : Inv X pins σ H s) : ∀ b o, X.base.get? b = some o → s.heap.get? b = some o ∧ H b = none := fun b o e =>
  ⟨I.base.keep b o (I.ok.bs b o e).1 (I.ok.bs b o e).2 (I.ok.nofr e) (I.ok.noex b o e), I.base.free b o (I.ok.bs b o e).1 (I.ok.bs b o e).2 (I.ok.noex b o e)⟩
theorem Inv.bk (I : Inv X pins σ H s) : ∀ b o, X.base.get? b = some o → s.heap.get? b = some o := fun b o e => (I.bs b o e).1
theorem Inv.mod (I : Inv X pins σ H s) : Mod X.K X.mg X.base := I.ok.mod
theorem Inv.kIn (I : Inv X pins σ H s) : X.K.In s.heap := I.ok.mod.kin.keeps I.bk
theorem Inv.nolimit (I : Inv X pins σ H s) : s.heap.NoLimit := I.ok.mod.nolimit.keeps I.bk
/-- the frame over the base: for OpenK's rules (K.In X.base is I.mod.kin) -/
theorem Inv.fr (I : Inv X pins σ H s) : ∃ m, Fr X.base X.env.locals s.heap m :=
  let ⟨m, hn, _⟩ := I.loc
  ⟨m, hn, I.bk, Nat.le_trans I.ok.bsz I.ok.above⟩
theorem Inv.lt (I : Inv X pins σ H s) : X.env.locals < s.heap.objs.size := let ⟨_, hn, _⟩ := I.loc; hn.lt
theorem Inv.sz (I : Inv X pins σ H s) : X.s₀.heap.objs.size ≤ s.heap.objs.size := Nat.le_trans I.ok.above (Nat.le_of_lt I.lt)
theorem Inv.nofs (I : Inv X pins σ H s) {a : Addr} (h : s.heap.objs.size ≤ a) : a ∉ X.fs := fun hb => by
  obtain ⟨_, o, ho, _⟩ := I.ok.funs.mem hb
  exact absurd (Nat.lt_of_lt_of_le (Heap.lt_size ho) (Nat.le_trans I.sz h)) (Nat.lt_irrefl _)
theorem Inv.cne (I : Inv X pins σ H s) : ∀ x c, X.env.cells.lookup x = some c → c ≠ X.env.locals := fun x c e z => by
  obtain ⟨v, o, ho, hd⟩ := I.cell x c e
  obtain ⟨m, ⟨o', es, ep, ho', hd', _⟩, _⟩ := I.loc
  rw [z, ho'] at ho; cases ho; rw [hd'] at hd; cases hd
theorem Inv.funs (I : Inv X pins σ H s) : s.heap.FunFrames X.base X.outer := by
  have all : ∀ (l : List Env), (∀ b ∈ frs l, b ∈ X.fs) → X.s₀.heap.FunFrames X.base l → s.heap.FunFrames X.base l := by
    intro l
    induction l with
    | nil => intro _ _; trivial
    | cons env r ih =>
      intro hs hl
      obtain ⟨hk, ⟨L, o, hf, hn, ho, hd⟩, hr⟩ := hl
      have hL : L ∈ X.fs := hs L (by unfold frs; rw [List.filterMap_cons, hf]; exact List.mem_cons_self)
      obtain ⟨sl, e⟩ := I.base.slot L o ho (I.ok.frf L hL) hL fun z => I.ok.exfs L z hL
      exact ⟨hk, ⟨L, _, hf, hn, e, hd⟩, ih (fun b hb => hs b (by unfold frs; rw [List.filterMap_cons, hf]; exact List.mem_cons_of_mem _ hb)) hr⟩
  exact all X.outer (fun _ hb => hb) I.ok.funs

/-- the frames that run, for a call -/
theorem Inv.stack (I : Inv X pins σ H s) : s.heap.FunFrames X.base X.stack := by
  rcases I.ok.stk with e | ⟨e, hf⟩
  · rw [e]; exact I.funs
  · rw [e]
    obtain ⟨m, hn, _⟩ := I.loc
    refine .cons (by rw [I.ok.kind]; decide) hf hn ?_ I.funs
    exact Heap.get?_none_of_le (Nat.le_trans I.ok.bsz I.ok.above)
theorem Inv.stkSub (I : Inv X pins σ H s) : ∀ b ∈ frs X.stack, b ∈ X.env.locals :: X.fs := fun b hb => by
  rcases I.ok.stk with e | ⟨e, hf⟩
  · rw [e] at hb; exact List.mem_cons_of_mem _ hb
  · rw [e] at hb
    unfold frs at hb
    rw [List.filterMap_cons, hf] at hb
    exact hb
theorem Inv.stkFree (I : Inv X pins σ H s) : ∀ b ∈ frs X.stack, H b = none := fun b hb => by
  rcases List.mem_cons.mp (I.stkSub b hb) with e | hb
  · rw [e]; exact I.free
  · obtain ⟨_, o, ho, _⟩ := I.ok.funs.mem hb
    exact I.base.free b o ho (I.ok.frf b hb) fun z => I.ok.exfs b z hb

/-- THE STEP: the untracked objects but the frame and the records at ch are kept (the callers' frames up to slots), the frame's map is kept, the new abstract heap is held -/
theorem Inv.step {g' : Array GenState} {t' : Nat} {d' : Drawn} {ch : List Addr} (I : Inv X pins σ H s)
    (hch : ∀ b ∈ ch, (b ∈ X.ex ∨ X.s₀.heap.objs.size ≤ b) ∧ b ≠ X.env.locals ∧ (∀ x c, X.env.cells.lookup x = some c → c ≠ b) ∧ ∀ p ∈ X.pn ++ pins, p.1 ≠ b)
    (keep : ∀ b o, b ≠ X.env.locals → b ∉ X.fs → b ∉ ch → s.heap.get? b = some o → H b = none → h'.get? b = some o)
    (slot : ∀ b o, b ≠ X.env.locals → b ∈ X.fs → b ∉ ch → s.heap.get? b = some o → H b = none → ∃ sl, h'.get? b = some { o with slots := sl }) (free : ∀ b o, b ∉ ch → s.heap.get? b = some o → H b = none → H' b = none)
    (there : ∀ b o, b ∉ ch → s.heap.get? b = some o → ∃ o', h'.get? b = some o')
    (tups : ∀ b xs, H b = some (.tup xs) → H' b = some (.tup xs)) (frzs : ∀ b o u, H b = some (.frz o u) → H' b = some (.frz o u)) (tbls : ∀ b ps, H b = some (.tbl ps) → ∃ more, H' b = some (.tbl (ps ++ more)))
    (ns : ∀ m, s.heap.Ns X.env.locals m → h'.Ns X.env.locals m) (hok : HOk X.prog X.w H' h') (hg : AllBare g') :
    Inv X pins σ H' { s with heap := h', gens := g', drawn := d', toks := t' } := by
  have neL : ∀ b o, X.s₀.heap.get? b = some o → b ≠ X.env.locals := fun b o e => Nat.ne_of_lt (Nat.lt_of_lt_of_le (Heap.lt_size e) I.ok.above)
  have neC : ∀ b o, X.s₀.heap.get? b = some o → b ∉ X.ex → b ∉ ch := fun b o e hx hb => by
    rcases (hch b hb).1 with z | z
    · exact hx z
    · exact absurd (Nat.lt_of_lt_of_le (Heap.lt_size e) z) (Nat.lt_irrefl _)
  have cellK : ∀ x c, X.env.cells.lookup x = some c → ∀ v, s.heap.IsCell c v → h'.IsCell c v := fun x c e v ⟨o, ho, hd⟩ => by
    have nch : c ∉ ch := fun z => (hch c z).2.2.1 x c e rfl
    by_cases hc : c ∈ X.fs
    · obtain ⟨sl, q⟩ := slot c o (I.cne x c e) hc nch ho (I.freeC x c e)
      exact ⟨_, q, hd⟩
    · exact ⟨o, keep c o (I.cne x c e) hc nch ho (I.freeC x c e), hd⟩
  refine ⟨I.ok, I.os, hg, ⟨fun b o e n hb hx => ?_, fun b o e n hb hx => ?_, fun b o e n hx => ?_, fun b o e hx => ?_, fun b xs e => tups b xs (I.base.tups b xs e), fun b o xs e => frzs b o xs (I.base.frzs b o xs e), fun b ps e => ?_⟩, ?_, fun x c e => ?_, ?_, fun x c e => ?_, fun p hp => ?_, hok, I.len⟩
  · exact keep b o (neL b o e) hb (neC b o e hx) (I.base.keep b o e n hb hx) (I.base.free b o e n hx)
  · obtain ⟨sl, e1⟩ := I.base.slot b o e n hb hx
    obtain ⟨sl', e2⟩ := slot b _ (neL b o e) hb (neC b o e hx) e1 (I.base.free b o e n hx)
    exact ⟨sl', e2⟩
  · obtain ⟨o', e1⟩ := I.base.there b o e hx
    exact free b o' (neC b o e hx) e1 (I.base.free b o e n hx)
  · obtain ⟨o', e1⟩ := I.base.there b o e hx
    exact there b o' (neC b o e hx) e1
  · obtain ⟨m1, e1⟩ := I.base.tbls b ps e
    obtain ⟨m2, e2⟩ := tbls b _ e1
    exact ⟨m1 ++ m2, by rw [e2, Array.append_assoc]⟩
  · obtain ⟨m, hn, hl⟩ := I.loc
    refine ⟨m, ns m hn, fun i x v e1 e2 e3 => ?_⟩
    obtain ⟨u, r, l⟩ := hl i x v e1 e2 e3
    refine ⟨u, r, ?_⟩
    rcases l with l | ⟨k, c, e, z⟩
    · exact .inl l
    · exact .inr ⟨k, c, e, cellK x c e _ z⟩
  · obtain ⟨v, z⟩ := I.cell x c e
    exact ⟨v, cellK x c e v z⟩
  · obtain ⟨m, ⟨o, _, _, ho, _⟩, _⟩ := I.loc
    exact free _ o (fun z => (hch _ z).2.1 rfl) ho I.free
  · obtain ⟨v, o, ho, hd⟩ := I.cell x c e
    exact free c o (fun z => (hch c z).2.2.1 x c e rfl) ho (I.freeC x c e)
  · obtain ⟨e, n, ne, nf, d⟩ := I.pin p hp
    have nch : p.1 ∉ ch := fun z => (hch p.1 z).2.2.2 p hp rfl
    exact ⟨keep p.1 p.2 ne nf nch e n, free p.1 p.2 nch e n, ne, nf, d⟩
/-- .. where the frame's own object is kept too -/
theorem Inv.un {t' : Nat} (I : Inv X pins σ H s) (u : Un X.fs [] H H' s.heap h') (hok : HOk X.prog X.w H' h') : Inv X pins σ H' { s with heap := h', toks := t' } := by
  obtain ⟨m, ⟨o, es, ep, ho, r⟩, _⟩ := id I.loc
  obtain ⟨sl, hL⟩ := u.any ho I.free (by simp)
  exact I.step (g' := s.gens) (d' := s.drawn) (ch := []) (fun _ z => nomatch z) (fun b o _ hb _ e n => u.keep b o e n hb (by simp)) (fun b o _ hb _ e n => u.slot b o e n hb (by simp)) (fun b o _ e n => u.free b o e n (by simp)) (fun b o _ e => u.there b o e (by simp)) u.tups u.frzs u.tbls (fun m' hm => by
    obtain ⟨o', es', ep', ho', r'⟩ := hm
    rw [ho] at ho'; cases ho'
    exact ⟨_, es', ep', hL, r'⟩) hok I.bare
/-- behind a call (or a comprehension's block): the slots of this frame may have changed too, the records at ch may have turned -/
theorem Inv.call {g' : Array GenState} {t' : Nat} {d' : Drawn} {ch : List Addr} (I : Inv X pins σ H s) (u : Un (frs X.stack) ch H H' s.heap h') (hok : HOk X.prog X.w H' h') (hg : AllBare g')
    (hch : ∀ b ∈ ch, (b ∈ X.ex ∨ X.s₀.heap.objs.size ≤ b) ∧ b ≠ X.env.locals ∧ (∀ x c, X.env.cells.lookup x = some c → c ≠ b) ∧ ∀ p ∈ X.pn ++ pins, p.1 ≠ b) :
    Inv X pins σ H' { s with heap := h', gens := g', drawn := d', toks := t' } := by
  obtain ⟨m, ⟨o, es, ep, ho, r⟩, _⟩ := id I.loc
  obtain ⟨sl, hL⟩ := u.any ho I.free fun z => (hch _ z).2.1 rfl
  exact I.step (ch := ch) hch (fun b o hL hb hc e n => u.keep b o e n (fun z => (List.mem_cons.mp (I.stkSub b z)).elim hL hb) hc) (fun b o _ _ hc e n => u.any e n hc) (fun b o hc e n => u.free b o e n hc) (fun b o hc e => u.there b o e hc) u.tups u.frzs u.tbls (fun m' hm => by
    obtain ⟨o', es', ep', ho', r'⟩ := hm
    rw [ho] at ho'; cases ho'
    exact ⟨_, es', ep', hL, r'⟩) hok hg
/-- an untracked record of ours (an iterator) has turned -/
theorem Inv.turned {t' : Nat} {it : Addr} (I : Inv X pins σ H s) (k : ∀ b o, b ≠ it → s.heap.get? b = some o → h'.get? b = some o) (hn : H it = none) (hL : it ≠ X.env.locals)
    (h1 : it ∈ X.ex ∨ X.s₀.heap.objs.size ≤ it) (h2 : ∀ x c, X.env.cells.lookup x = some c → c ≠ it) (h3 : ∀ p ∈ X.pn ++ pins, p.1 ≠ it) : Inv X pins σ H { s with heap := h', toks := t' } := by
  have nit : ∀ b u, H b = some u → b ≠ it := fun b u e z => by rw [z, hn] at e; cases e
  refine I.step (g' := s.gens) (d' := s.drawn) (ch := [it]) (fun b hb => ?_) (fun b o _ _ hc e _ => k b o (fun z => hc (by simp [z])) e) (fun b o _ _ hc e _ => ⟨o.slots, k b o (fun z => hc (by simp [z])) e⟩) (fun _ _ _ _ n => n)
    (fun b o hc e => ⟨o, k b o (fun z => hc (by simp [z])) e⟩) (fun _ _ e => e) (fun _ _ _ e => e) (fun b ps e => ⟨#[], by rw [e]; simp⟩) (fun m hm => ?_) (fun b u e => ?_) I.bare
  · have e : b = it := by simpa using hb
    subst e
    exact ⟨h1, hL, h2, h3⟩
  · obtain ⟨o, es, ep, ho, r⟩ := hm
    exact ⟨o, es, ep, k _ o (Ne.symm hL) ho, r⟩
  · refine (I.hok b u e).stay (fun c v hc q => k c v ?_ q) (fun _ q => q) fun _ _ q => q
    rcases hc with z | z
    · rw [z]; exact nit b u e
    · exact nit c _ z
theorem Inv.tok (I : Inv X pins σ H s) (t : Nat) : Inv X pins σ H { s with toks := t } := I.un (h' := s.heap) (t' := t) Un.refl I.hok
/-- all objects kept -/
theorem Inv.kept {t' : Nat} (I : Inv X pins σ H s) (k : ∀ b u, s.heap.get? b = some u → h'.get? b = some u) : Inv X pins σ H { s with heap := h', toks := t' } := I.un (Un.kept k) (I.hok.kept k)
/-- a new object laid and tracked -/
theorem Inv.laid {a : Addr} {o : HO} {t' : Nat} (I : Inv X pins σ H s) (k : ∀ b u, s.heap.get? b = some u → h'.get? b = some u) (hp : s.heap.objs.size ≤ a) (new : ObjOk X.prog X.w (upd H a o) h' a o) :
    Inv X pins σ (upd H a o) { s with heap := h', toks := t' } := I.un (Un.laid k hp (I.hok.fresh hp)) (I.hok.laid k hp new)
/-- an object written -/
theorem Inv.write {x e : Addr} {o : HO} {t' : Nat} (I : Inv X pins σ H s) (mu : Mut (H x)) (he : e = x ∨ H e = some (.own x)) (k : ∀ b u, b ≠ e → s.heap.get? b = some u → h'.get? b = some u) (heo : ∃ u, h'.get? e = some u)
    (new : ObjOk X.prog X.w (upd H x o) h' x o) : Inv X pins σ (upd H x o) { s with heap := h', toks := t' } := I.un (Un.write mu he k heo) (I.hok.write mu he k heo new)
/-- forgetting slots, pins -/
theorem Inv.weak {σ' : List (Option V)} (I : Inv X pins σ H s) (hl : σ'.length = σ.length) (w : ∀ (i : Nat) v, σ'[i]? = some (some v) → σ[i]? = some (some v)) : Inv X pins σ' H s :=
  ⟨I.ok, I.os, I.bare, I.base, let ⟨m, hn, hl'⟩ := I.loc; ⟨m, hn, fun i x v e1 e2 e3 => hl' i x v e1 (w i v e2) e3⟩, I.cell, I.free, I.freeC, I.pin, I.hok, hl.trans I.len⟩
theorem Inv.pins_of {pins' : List (Addr × Obj)} (I : Inv X pins σ H s) (h : ∀ p ∈ pins', s.heap.get? p.1 = some p.2 ∧ H p.1 = none ∧ p.1 ≠ X.env.locals ∧ p.1 ∉ X.fs ∧ ∀ v, p.2.data ≠ .cell v) : Inv X pins' σ H s :=
  ⟨I.ok, I.os, I.bare, I.base, I.loc, I.cell, I.free, I.freeC, fun p hp => (List.mem_append.mp hp).elim (fun z => I.pin p (List.mem_append_left _ z)) (h p), I.hok, I.len⟩

theorem nodup_ix {N : List Str} (hN : N.Nodup) {i j : Nat} {x : Str} (a : N[i]? = some x) (b : N[j]? = some x) : i = j := by
  obtain ⟨h1, e1⟩ := List.getElem?_eq_some_iff.mp a
  obtain ⟨h2, e2⟩ := List.getElem?_eq_some_iff.mp b
  exact (List.getElem_inj hN).mp (e1.trans e2.symm)

/-- a name is stored; what changed -/
theorem store_ok2 {M : Model} {A : Around} {E : Value → Shared → Prop} {i : Nat} {x : Str} {v : V} {u : Value} {Q : Unit → Shared → Prop} (I : Inv X pins σ H s) (hN : X.N.Nodup) (hi : X.N[i]? = some x) (hx : Loc X.env.scope x) (r : RelV v u)
    (h : ∀ s', Inv X pins (σ.set i (some v)) H s' → (∃ a, Heap.SameBut a s.heap s'.heap ∧ (a = X.env.locals ∨ X.env.cells.lookup x = some a)) → Q () s') (hf : X.fn x = true ∨ X.env.scope.names.lookup x = some .local := by first | exact .inl rfl | exact .inr rfl | assumption) : wpAny M A (storeName X.env x u) Q E s := by
  obtain ⟨m, hn, hl⟩ := id I.loc
  have hcls : (X.env.scope.kind == .class || (X.env.scope.kind == .module && X.env.locals != X.env.globals)) = false := by rw [I.ok.kind]; rfl
  have hiσ : i < σ.length := by rw [I.len]; exact (List.getElem?_eq_some_iff.mp hi).1
  have cne := I.cne
  have tracked : ∀ {a : Addr} {h' : Heap}, (∃ o, s.heap.get? a = some o ∧ H a = none) → Heap.SameBut a s.heap h' → HOk X.prog X.w H h' := fun {a h'} ha hs b ob e => by
    obtain ⟨_, _, hfree⟩ := ha
    refine (I.hok b ob e).stay (fun c w' hc q => (hs.2 c ?_).trans q) (fun _ q => q) fun _ _ q => q
    rintro rfl
    rcases hc with rfl | hc
    · rw [hfree] at e; cases e
    · rw [hfree] at hc; cases hc
  rcases hx with hk | hk
  · refine wpAny_storeName_local hk hn (fun h' hn' hs => ?_) hcls
    obtain ⟨oL, _, _, hoL, _⟩ := id hn
    refine h _ ⟨I.ok, I.os, I.bare, ⟨fun b o e n hb hx => ?_, fun b o e n hb hx => ?_, I.base.free, fun b o e hx => ?_, I.base.tups, I.base.frzs, I.base.tbls⟩, ⟨_, hn', fun j y v' e1 e2 e3 => ?_⟩, fun y c e => ?_, I.free, I.freeC, fun p hp => ?_, tracked ⟨oL, hoL, I.free⟩ hs, by simpa using I.len⟩ ⟨_, hs, .inl rfl⟩
    · exact (hs.2 b (Nat.ne_of_lt (Nat.lt_of_lt_of_le (Heap.lt_size e) I.ok.above))).trans (I.base.keep b o e n hb hx)
    · obtain ⟨sl, e1⟩ := I.base.slot b o e n hb hx
      exact ⟨sl, (hs.2 b (Nat.ne_of_lt (Nat.lt_of_lt_of_le (Heap.lt_size e) I.ok.above))).trans e1⟩
    · obtain ⟨o', e1⟩ := I.base.there b o e hx
      exact ⟨o', (hs.2 b (Nat.ne_of_lt (Nat.lt_of_lt_of_le (Heap.lt_size e) I.ok.above))).trans e1⟩
    · by_cases hj : j = i
      · subst hj
        rw [hi] at e1; cases e1
        rw [List.getElem?_set_self hiσ] at e2
        cases e2
        exact ⟨u, r, .inl ⟨hk, by simp⟩⟩
      · rw [List.getElem?_set_ne (Ne.symm hj)] at e2
        obtain ⟨u', r', q⟩ := hl j y v' e1 e2 e3
        refine ⟨u', r', ?_⟩
        rcases q with ⟨k, e⟩ | ⟨k, c, e, z⟩
        · refine .inl ⟨k, ?_⟩
          have : y ≠ x := fun e => hj (nodup_ix hN e1 (e ▸ hi))
          simp [this, e]
        · exact .inr ⟨k, c, e, z.sameBut hs (cne y c e)⟩
    · obtain ⟨w', z⟩ := I.cell y c e
      exact ⟨w', z.sameBut hs (cne y c e)⟩
    · obtain ⟨e, n, ne, nf, d⟩ := I.pin p hp
      exact ⟨(hs.2 p.1 ne).trans e, n, ne, nf, d⟩
  · have hfn : X.fn x = true := by
      rcases hf with z | z
      · exact z
      · rw [z] at hk; cases hk
    obtain ⟨c, hc⟩ := I.ok.has x (.inl hk)
    obtain ⟨w', z⟩ := I.cell x c hc
    refine wpAny_storeName_cell I.ok.kind hk hc z (fun h' hc' hs => ?_)
    obtain ⟨oc, hoc, hocd⟩ := id z
    refine h { s with heap := h' } ⟨I.ok, I.os, I.bare, ⟨fun b o e n hb hx => ?_, fun b o e n hb hx => ?_, I.base.free, fun b o e hx => ?_, I.base.tups, I.base.frzs, I.base.tbls⟩, ⟨m, hn.sameBut hs (Ne.symm (cne x c hc)), fun j y v' e1 e2 e3 => ?_⟩, fun y c' e => ?_, I.free, I.freeC, fun p hp => ?_, tracked ⟨oc, hoc, I.freeC x c hc⟩ hs, by simpa using I.len⟩ ⟨c, hs, .inr hc⟩
    · exact (hs.2 b (Nat.ne_of_lt (Nat.lt_of_lt_of_le (Heap.lt_size e) (I.ok.cab x c hfn hc)))).trans (I.base.keep b o e n hb hx)
    · obtain ⟨sl, e1⟩ := I.base.slot b o e n hb hx
      exact ⟨sl, (hs.2 b (Nat.ne_of_lt (Nat.lt_of_lt_of_le (Heap.lt_size e) (I.ok.cab x c hfn hc)))).trans e1⟩
    · obtain ⟨o', e1⟩ := I.base.there b o e hx
      exact ⟨o', (hs.2 b (Nat.ne_of_lt (Nat.lt_of_lt_of_le (Heap.lt_size e) (I.ok.cab x c hfn hc)))).trans e1⟩
    · by_cases hj : j = i
      · subst hj
        rw [hi] at e1; cases e1
        rw [List.getElem?_set_self hiσ] at e2
        cases e2
        exact ⟨u, r, .inr ⟨.inl hk, c, hc, hc'⟩⟩
      · rw [List.getElem?_set_ne (Ne.symm hj)] at e2
        obtain ⟨u', r', q⟩ := hl j y v' e1 e2 e3
        refine ⟨u', r', ?_⟩
        rcases q with q | ⟨k, c', e, z'⟩
        · exact .inl q
        · refine .inr ⟨k, c', e, z'.sameBut hs ?_⟩
          rintro rfl
          exact hj (nodup_ix hN e1 (I.ok.inj _ _ _ e hc ▸ hi))
    · by_cases hcc : c' = c
      · subst hcc; exact ⟨_, hc'⟩
      · obtain ⟨w2, z2⟩ := I.cell y c' e
        exact ⟨w2, z2.sameBut hs hcc⟩
    · obtain ⟨e, n, ne, nf, d⟩ := I.pin p hp
      refine ⟨(hs.2 p.1 ?_).trans e, n, ne, nf, d⟩
      intro q
      rw [q, hoc] at e
      have q' : oc = p.2 := Option.some.inj e
      exact d w' (by rw [← q']; exact hocd)
theorem store_ok {M : Model} {A : Around} {E : Value → Shared → Prop} {i : Nat} {x : Str} {v : V} {u : Value} {Q : Unit → Shared → Prop} (I : Inv X pins σ H s) (hN : X.N.Nodup) (hi : X.N[i]? = some x) (hx : Loc X.env.scope x) (r : RelV v u)
    (h : ∀ s', Inv X pins (σ.set i (some v)) H s' → Q () s') (hf : X.fn x = true ∨ X.env.scope.names.lookup x = some .local := by first | exact .inl rfl | exact .inr rfl | assumption) : wpAny M A (storeName X.env x u) Q E s :=
  store_ok2 I hN hi hx r (fun s' I' _ => h s' I') hf
/-- behind a call or a block, the state as it is -/
theorem Inv.call' {s' : Shared} {ch : List Addr} (I : Inv X pins σ H s) (ho : s'.os = s.os) (u : Un (frs X.stack) ch H H' s.heap s'.heap) (hok : HOk X.prog X.w H' s'.heap) (hg : AllBare s'.gens)
    (hch : ∀ b ∈ ch, (b ∈ X.ex ∨ X.s₀.heap.objs.size ≤ b) ∧ b ≠ X.env.locals ∧ (∀ x c, X.env.cells.lookup x = some c → c ≠ b) ∧ ∀ p ∈ X.pn ++ pins, p.1 ≠ b) : Inv X pins σ H' s' := by
  obtain ⟨h', g', d', t', o'⟩ := s'
  have e : o' = s.os := ho
  subst e
  exact I.call (g' := g') (t' := t') (d' := d') u hok hg hch
end

/-! ### the judgements -/
/-- an exception: its class, its own dict's address (where it has one), the abstract heap behind it -/
abbrev XK := Value → Option Addr → Hp → Prop
abbrev St := List (Option V)
abbrev VK := V → Hp → Prop
/-- an expression's reading; a test's; an argument list's -/
abbrev TE := St → Hp → VK → Prop
abbrev TT := St → Hp → (Bool → Hp → Prop) → Prop
abbrev TA := St → Hp → (List V → Hp → Prop) → Prop
/-- what is wanted behind a statement -/
structure Ends where
  nx : St → Hp → Prop
  rt : VK
  bk : St → Hp → Prop := fun _ _ => False
  ct : St → Hp → Prop := fun _ _ => False
abbrev TS := Ends → St → Hp → Prop

def EP (X : Cx) (pins : List (Addr × Obj)) (σ : St) (Q : VK) (u : Value) (s' : Shared) : Prop := ∃ v H', Inv X pins σ H' s' ∧ RelV v u ∧ Q v H'
def TP (X : Cx) (pins : List (Addr × Obj)) (σ : St) (Q : Bool → Hp → Prop) (b : Bool) (s' : Shared) : Prop := ∃ H', Inv X pins σ H' s' ∧ Q b H'
def AP (X : Cx) (pins : List (Addr × Obj)) (σ : St) (Q : List V → Hp → Prop) (us : List Value) (s' : Shared) : Prop := ∃ vs H', Inv X pins σ H' s' ∧ Vals vs us ∧ Q vs H'
def SP (X : Cx) (pins : List (Addr × Obj)) (D : Ends) (f : Flow) (s' : Shared) : Prop :=
  match f with
  | .next => ∃ σ' H', Inv X pins σ' H' s' ∧ D.nx σ' H'
  | .brk => ∃ σ' H', Inv X pins σ' H' s' ∧ D.bk σ' H'
  | .cont => ∃ σ' H', Inv X pins σ' H' s' ∧ D.ct σ' H'
  | .ret u => ∃ v σ' H', Inv X pins σ' H' s' ∧ RelV v u ∧ D.rt v H'

def PE (X : Cx) (e : Expr) (t : TE) : Prop :=
  ∀ (pins : List (Addr × Obj)) (s : Shared) (σ : St) (H : Hp) (Q : VK), Inv X pins σ H s → t σ H Q → wpAny (model X.prog X.w) X.A (eval e X.env) (EP X pins σ Q) X.xe s
def PT (X : Cx) (e : Expr) (t : TT) : Prop :=
  ∀ (pins : List (Addr × Obj)) (s : Shared) (σ : St) (H : Hp) (Q : Bool → Hp → Prop), Inv X pins σ H s → t σ H Q → wpAny (model X.prog X.w) X.A (isTrue e X.env (eval e X.env)) (TP X pins σ Q) X.xe s
/-- a test whatever its 'whole' is (and, or) -/
def PW (X : Cx) (e : Expr) (t : TT) : Prop :=
  ∀ (whole : Sem Value) (pins : List (Addr × Obj)) (s : Shared) (σ : St) (H : Hp) (Q : Bool → Hp → Prop), Inv X pins σ H s → t σ H Q → wpAny (model X.prog X.w) X.A (isTrue e X.env whole) (TP X pins σ Q) X.xe s
theorem PW.pt {X : Cx} {e : Expr} {t : TT} (h : PW X e t) : PT X e t := h _
/-- an argument list (no star), from the left -/
def PA (X : Cx) (es : List Expr) (t : TA) : Prop :=
  ∀ (pos : Pos) (pins : List (Addr × Obj)) (s : Shared) (σ : St) (H : Hp) (Q : List V → Hp → Prop), Inv X pins σ H s → t σ H Q → wpAny (model X.prog X.w) X.A (spliced (backTo pos (starEach es X.env))) (AP X pins σ Q) X.xe s
def PS (X : Cx) (st : Stmt) (t : TS) : Prop :=
  ∀ (pins : List (Addr × Obj)) (s : Shared) (σ : St) (H : Hp) (D : Ends), Inv X pins σ H s → t D σ H → wpAny (model X.prog X.w) X.A (exec st X.env) (SP X pins D) X.xe s
def PSs (X : Cx) (st : List Stmt) (t : TS) : Prop :=
  ∀ (pins : List (Addr × Obj)) (s : Shared) (σ : St) (H : Hp) (D : Ends), Inv X pins σ H s → t D σ H → wpAny (model X.prog X.w) X.A (execs st X.env) (SP X pins D) X.xe s
/-- weaken the end -/
theorem thn {α : Type} {t : Sem α} {Q Q' : α → Shared → Prop} {M : Model} {A : Around} {E : Value → Shared → Prop} {s : Shared} (h : wpAny M A t Q E s) (hQ : ∀ a s, Q a s → Q' a s) : wpAny M A t Q' E s := wpAny_mono h hQ fun _ _ x => x
end L2

namespace L2
open PySem PySem.Spec PyProof.Rows
section
variable {X : Cx}

/-- two expressions in a row -/
theorem bin {a b : Expr} {ta tb : TE} (ha : PE X a ta) (hb : PE X b tb) {pins : List (Addr × Obj)} {s : Shared} {σ : St} {H : Hp} {R : V → V → Hp → Prop} (I : Inv X pins σ H s) (h : ta σ H fun x H1 => tb σ H1 fun y H2 => R x y H2)
    {α : Type} {Q : α → Shared → Prop} {f : Value → Value → Sem α}
    (hf : ∀ v u s2 x y H2, Inv X pins σ H2 s2 → RelV x v → RelV y u → R x y H2 → wpAny (model X.prog X.w) X.A (f v u) Q X.xe s2) :
    wpAny (model X.prog X.w) X.A (eval a X.env) (fun v s₁ => wpAny (model X.prog X.w) X.A (eval b X.env) (fun u s₂ => wpAny (model X.prog X.w) X.A (f v u) Q X.xe s₂) X.xe s₁) X.xe s := by
  refine thn (ha pins s σ H _ I h) fun v s1 ⟨x, H1, I1, r1, q1⟩ => ?_
  refine thn (hb pins s1 σ H1 _ I1 q1) fun u s2 ⟨y, H2, I2, r2, q2⟩ => ?_
  exact hf v u s2 x y H2 I2 r1 r2 q2

/-! ### names and constants -/
def tVar (i : Nat) : TE := fun σ H Q => ∃ v, σ[i]? = some (some v) ∧ Q v H
def tC (v : V) : TE := fun _ H Q => Q v H
theorem pe_var {i : Nat} {x : Str} {pos : Pos} (hN : X.N[i]? = some x) (hv : Vis X.env.scope x) (hd : (x == ("__debug__" : Str)) = false := by decide) (hcd : (x == ("__classdict__" : Str)) = false := by decide) : PE X (.Name x pos) (tVar i) := by
  intro pins s σ H Q I h
  obtain ⟨v, e, h⟩ := h
  obtain ⟨m, hn, hl⟩ := I.loc
  obtain ⟨u, r, l⟩ := hl i x v hN e hv
  have fin : EP X pins σ Q u s := ⟨v, H, I, r, h⟩
  rcases l with ⟨hk, hm⟩ | ⟨hk, c, hc, hcell⟩
  · exact wpAny_Name (wpAny_loadName_local I.ok.kind hk hn hm fin) hd
  · rcases hk with hk | hk
    · exact wpAny_Name (wpAny_loadName_cell I.ok.kind hk hc hcell fin) hd
    · exact wpAny_Name (wpAny_loadName_free I.ok.kind hk hc hcell fin hcd) hd
theorem pe_int {i j pos} : PE X (.Constant (.int i) j pos) (tC (.int i)) := fun _ _ _ H _ I h => wpAny_Constant_int ⟨.int i, H, I.tok _, ⟨_, rfl⟩, h⟩
theorem pe_bl {b j pos} : PE X (.Constant (.bool b) j pos) (tC (.bl b)) := fun _ _ _ H _ I h => Constant_bool ⟨.bl b, H, I, rfl, h⟩
theorem pe_non {j pos} : PE X (.Constant .none j pos) (tC .non) := fun _ _ _ H _ I h => Constant_none ⟨.non, H, I, rfl, h⟩
theorem pe_str {x j pos} : PE X (.Constant (.str x) j pos) (tC (.str x)) := fun _ _ _ H _ I h => Calls.Constant_str ⟨.str x, H, I.tok _, ⟨_, rfl⟩, h⟩

/-- a global name of the def -/
def Gl (X : Cx) (x : Str) : Prop := X.env.kindOf x = some .globalImplicit
theorem ld_glob {E : Value → Shared → Prop} {pins : List (Addr × Obj)} {s : Shared} {σ : St} {H : Hp} {x : Str} {u : Value} {pos : Pos} {Q : Value → Shared → Prop} (I : Inv X pins σ H s) (hg : Gl X x) (hm : X.mg x = some u) (h : Q u s)
    (hd : (x == ("__debug__" : Str)) = false := by decide) : wpAny (model X.prog X.w) X.A (eval (.Name x pos) X.env) Q E s :=
  Calls.Name_function_global I.ok.kind hg (Calls.loadGlobal_global (by rw [I.ok.glob]; exact I.mod.glob.keeps I.bk) hm h) hd
theorem ld_blt {E : Value → Shared → Prop} {pins : List (Addr × Obj)} {s : Shared} {σ : St} {H : Hp} {x : Str} {u : Value} {pos : Pos} {Q : Value → Shared → Prop} (I : Inv X pins σ H s) (hg : Gl X x) (hm : X.mg x = none) (hv : bootBuiltins x = some u) (h : Q u s)
    (hn : x ≠ "__name__" := by decide) (hd : (x == ("__debug__" : Str)) = false := by decide) : wpAny (model X.prog X.w) X.A (eval (.Name x pos) X.env) Q E s := by
  obtain ⟨mb, h1, h2⟩ := I.mod.blt
  exact Calls.Name_function_global I.ok.kind hg (Calls.loadGlobal_builtin (by rw [I.ok.glob]; exact I.mod.glob.keeps I.bk) hm (by rw [I.ok.blt]; exact h1.keeps I.bk) ((h2 x hn).trans hv) h) hd
/-- a module's constant, a class, a function, as a value -/
theorem pe_glob {x : Str} {v : V} {u : Value} {pos : Pos} (hg : Gl X x) (hm : X.mg x = some u) (r : RelV v u) (hd : (x == ("__debug__" : Str)) = false := by decide) : PE X (.Name x pos) (tC v) :=
  fun _ _ _ H _ I h => ld_glob I hg hm ⟨v, H, I, r, h⟩ hd
theorem pe_bltn {x : Str} {v : V} {u : Value} {pos : Pos} (hg : Gl X x) (hm : X.mg x = none) (hv : bootBuiltins x = some u) (r : RelV v u) (hn : x ≠ "__name__" := by decide) (hd : (x == ("__debug__" : Str)) = false := by decide) : PE X (.Name x pos) (tC v) :=
  fun _ _ _ H _ I h => ld_blt I hg hm hv ⟨v, H, I, r, h⟩ hn hd

/-! ### arithmetic -/
/-- two ints -/
def t2I (ta tb : TE) (k : Int → Int → Hp → Prop) : St → Hp → Prop := fun σ H => ta σ H fun x H1 => tb σ H1 fun y H2 => ∃ i j, x = .int i ∧ y = .int j ∧ k i j H2
def tAdd (ta tb : TE) : TE := fun σ H Q => t2I ta tb (fun i j H2 => Q (.int (i + j)) H2) σ H
def tSub (ta tb : TE) : TE := fun σ H Q => t2I ta tb (fun i j H2 => Q (.int (i - j)) H2) σ H
/-- the left factor below 2^64 -/
def tMul (ta tb : TE) : TE := fun σ H Q => t2I ta tb (fun i j H2 => (-(2 ^ 64) < i ∧ i < 2 ^ 64) ∧ Q (.int (i * j)) H2) σ H
variable {a b : Expr} {ta tb : TE} {pos : Pos}
theorem pe_add (ha : PE X a ta) (hb : PE X b tb) : PE X (.BinOp a .Add b pos) (tAdd ta tb) := by
  intro pins s σ H Q I h
  refine wpAny_BinOp (bin ha hb I h fun v u s2 x y H2 I2 rx ry q => ?_)
  obtain ⟨i, j, rfl, rfl, q⟩ := q
  obtain ⟨t, rfl⟩ := rx
  obtain ⟨t', rfl⟩ := ry
  exact add_int ⟨.int _, H2, I2.tok _, ⟨_, rfl⟩, q⟩
theorem pe_sub (ha : PE X a ta) (hb : PE X b tb) : PE X (.BinOp a .Sub b pos) (tSub ta tb) := by
  intro pins s σ H Q I h
  refine wpAny_BinOp (bin ha hb I h fun v u s2 x y H2 I2 rx ry q => ?_)
  obtain ⟨i, j, rfl, rfl, q⟩ := q
  obtain ⟨t, rfl⟩ := rx
  obtain ⟨t', rfl⟩ := ry
  exact sub_int ⟨.int _, H2, I2.tok _, ⟨_, rfl⟩, q⟩
theorem pe_mul (ha : PE X a ta) (hb : PE X b tb) : PE X (.BinOp a .Mult b pos) (tMul ta tb) := by
  intro pins s σ H Q I h
  refine wpAny_BinOp (bin ha hb I h fun v u s2 x y H2 I2 rx ry q => ?_)
  obtain ⟨i, j, rfl, rfl, ⟨q1, q2⟩, q⟩ := q
  obtain ⟨t, rfl⟩ := rx
  obtain ⟨t', rfl⟩ := ry
  exact mul_int ⟨.int _, H2, I2.tok _, ⟨_, rfl⟩, q⟩ (.of_left (intBits_le_64 q1 q2))

/-! ### comparisons -/
def PC (X : Cx) (op : CmpOp) (a b : Expr) (t : TE) : Prop :=
  ∀ (pins : List (Addr × Obj)) (s : Shared) (σ : St) (H : Hp) (Q : VK), Inv X pins σ H s → t σ H Q →
    wpAny (model X.prog X.w) X.A (eval a X.env) (fun v s₁ => wpAny (model X.prog X.w) X.A (eval b X.env) (fun u s₂ => wpAny (model X.prog X.w) X.A (compareOp op v u) (EP X pins σ Q) X.xe s₂) X.xe s₁) X.xe s
theorem nobehind (b : Expr) {op : CmpOp} (h : op ≠ .In) (h2 : op ≠ .NotIn) : behindInMarks op b = false := by
  have e1 : (op == CmpOp.In) = false := by cases op <;> first | rfl | exact absurd rfl h
  have e2 : (op == CmpOp.NotIn) = false := by cases op <;> first | rfl | exact absurd rfl h2
  cases b <;> simp [behindInMarks, e1, e2]
def tCmp (p : Int → Int → Bool) (ta tb : TE) : TE := fun σ H Q => t2I ta tb (fun i j H2 => Q (.bl (p i j)) H2) σ H
abbrev tLt : TE → TE → TE := tCmp fun i j => decide (i < j)
abbrev tLe : TE → TE → TE := tCmp fun i j => decide (i ≤ j)
abbrev tGt : TE → TE → TE := tCmp fun i j => decide (j < i)
abbrev tGe : TE → TE → TE := tCmp fun i j => decide (j ≤ i)
abbrev tEqI : TE → TE → TE := tCmp fun i j => decide (i = j)
abbrev tNeI : TE → TE → TE := tCmp fun i j => !decide (i = j)
/-- a comparison of two ints, by its rule -/
theorem pc_int {op : CmpOp} {p : Int → Int → Bool} (ha : PE X a ta) (hb : PE X b tb)
    (rule : ∀ (i j : Int) (t u : Tok) (Q : Value → Shared → Prop) (s : Shared), Q (.bool (p i j)) s → wpAny (model X.prog X.w) X.A (compareOp op (.int i t) (.int j u)) Q X.xe s) : PC X op a b (tCmp p ta tb) := by
  intro pins s σ H Q I h
  refine bin ha hb I h fun v u s2 x y H2 I2 rx ry q => ?_
  obtain ⟨i, j, rfl, rfl, q⟩ := q
  obtain ⟨t, rfl⟩ := rx
  obtain ⟨t', rfl⟩ := ry
  exact rule i j t t' _ s2 ⟨.bl _, H2, I2, rfl, q⟩
theorem pc_lt (ha : PE X a ta) (hb : PE X b tb) : PC X .Lt a b (tLt ta tb) := pc_int ha hb fun _ _ _ _ _ _ h => lt_int h
theorem pc_le (ha : PE X a ta) (hb : PE X b tb) : PC X .LtE a b (tLe ta tb) := pc_int ha hb fun _ _ _ _ _ _ h => le_int h
theorem pc_gt (ha : PE X a ta) (hb : PE X b tb) : PC X .Gt a b (tGt ta tb) := pc_int ha hb fun _ _ _ _ _ _ h => gt_int h
theorem pc_ge (ha : PE X a ta) (hb : PE X b tb) : PC X .GtE a b (tGe ta tb) := pc_int ha hb fun _ _ _ _ _ _ h => ge_int h
theorem pc_eqI (ha : PE X a ta) (hb : PE X b tb) : PC X .Eq a b (tEqI ta tb) := pc_int ha hb fun _ _ _ _ _ _ h => eq_int (by rw [Bool.beq_eq_decide_eq]; exact h)
theorem pc_neI (ha : PE X a ta) (hb : PE X b tb) : PC X .NotEq a b (tNeI ta tb) := pc_int ha hb fun _ _ _ _ _ _ h => ne_int (by rw [bne, Bool.beq_eq_decide_eq]; exact h)
/-- is None -/
def tIsN (ta : TE) : TE := fun σ H Q => ta σ H fun x H1 => Q (.bl (decide (x = .non))) H1
def tNotN (ta : TE) : TE := fun σ H Q => ta σ H fun x H1 => Q (.bl (!decide (x = .non))) H1
theorem RelV.none_iff {x : V} {v : Value} (r : RelV x v) : (v == Value.none) = decide (x = .non) := by
  cases x with
  | non => cases r; rfl
  | bl _ => cases r; rfl
  | int _ => obtain ⟨t, rfl⟩ := r; rfl
  | str _ => obtain ⟨t, rfl⟩ := r; rfl
  | byt _ => obtain ⟨t, rfl⟩ := r; rfl
  | flt _ => obtain ⟨t, rfl⟩ := r; rfl
  | ref _ => cases r; rfl
  | ty _ => cases r; rfl
theorem pc_isN {j pos'} (ha : PE X a ta) : PC X .Is a (.Constant .none j pos') (tIsN ta) := by
  intro pins s σ H Q I h
  refine thn (ha pins s σ H _ I h) fun v s1 ⟨x, H1, I1, r1, q1⟩ => ?_
  exact Constant_none (is_none_gen ⟨.bl _, H1, I1, by rw [r1.none_iff]; rfl, q1⟩)
theorem pc_notN {j pos'} (ha : PE X a ta) : PC X .IsNot a (.Constant .none j pos') (tNotN ta) := by
  intro pins s σ H Q I h
  refine thn (ha pins s σ H _ I h) fun v s1 ⟨x, H1, I1, r1, q1⟩ => ?_
  exact Constant_none (isnot_none_gen ⟨.bl _, H1, I1, by rw [r1.none_iff]; rfl, q1⟩)
/-- a comparison as a value, as a test -/
def tB (t : TE) : TT := fun σ H Q => t σ H fun x H1 => ∃ c, x = .bl c ∧ Q c H1
theorem pe_cmp {op : CmpOp} {t : TE} (h : PC X op a b t) (h1 : behindInMarks op b = false := by first | exact nobehind _ (by decide) (by decide) | rfl) : PE X (.Compare a [op] [b] pos) t := fun pins s σ H Q I hw => wpAny_Compare1 (h pins s σ H Q I hw) h1
theorem pt_cmp {op : CmpOp} {t : TE} (h : PC X op a b t) (h1 : behindInMarks op b = false := by first | exact nobehind _ (by decide) (by decide) | rfl) : PT X (.Compare a [op] [b] pos) (tB t) := by
  intro pins s σ H Q I hw
  refine wpAny_isTrue_Compare1 (thn (h pins s σ H _ I hw) fun v s1 h1 => thn h1 fun u s2 h2 => thn h2 fun c s3 ⟨x, H1, I1, r1, q1⟩ => ?_) h1
  obtain ⟨d, rfl, q⟩ := q1
  cases r1
  exact wpAny_truthy_bool ⟨H1, I1, q⟩
/-- an expression whose value is a bool, as a test -/
theorem pt_val {e : Expr} {t : TE} (h : PE X e t) (he : ∀ whole, isTrue e X.env whole = (do let v ← whole; standAt e.pos; holding [v] (truthy v)) := by intro _; rfl) : PT X e (tB t) := by
  intro pins s σ H Q I hw
  refine isTrue_plain (thn (h pins s σ H _ I hw) fun v s1 ⟨x, H1, I1, r1, q1⟩ => ?_) (he _)
  obtain ⟨d, rfl, q⟩ := q1
  cases r1
  exact wpAny_truthy_bool ⟨H1, I1, q⟩

/-! ### and, or, not -/
variable {tA tB' : TT} {rest : List Expr}
def tAnd (t u : TT) : TT := fun σ H Q => t σ H fun c H1 => if c = true then u σ H1 Q else Q false H1
def tOr (t u : TT) : TT := fun σ H Q => t σ H fun c H1 => if c = true then Q true H1 else u σ H1 Q
def tNot (t : TT) : TT := fun σ H Q => t σ H fun c H1 => Q (!c) H1
theorem pw_and1 (ha : PT X a tA) : PW X (.BoolOp .And [a] pos) tA := by
  intro wh pins s σ H Q I h
  refine isTrue_and (thn (ha pins s σ H Q I h) fun c s1 e => ?_)
  cases c with
  | true => exact isTrue_and_nil e
  | false => exact e
theorem pw_or1 (ha : PT X a tA) : PW X (.BoolOp .Or [a] pos) tA := by
  intro wh pins s σ H Q I h
  refine isTrue_or (thn (ha pins s σ H Q I h) fun c s1 e => ?_)
  cases c with
  | false => exact isTrue_or_nil e
  | true => exact e
theorem pw_and (ha : PT X a tA) (hb : PW X (.BoolOp .And (b :: rest) pos) tB') : PW X (.BoolOp .And (a :: b :: rest) pos) (tAnd tA tB') := by
  intro wh pins s σ H Q I h
  refine isTrue_and (thn (ha pins s σ H _ I h) fun c s1 ⟨H1, I1, q1⟩ => ?_)
  cases c with
  | true => exact hb wh pins s1 σ H1 Q I1 q1
  | false => exact ⟨H1, I1, q1⟩
theorem pw_or (ha : PT X a tA) (hb : PW X (.BoolOp .Or (b :: rest) pos) tB') : PW X (.BoolOp .Or (a :: b :: rest) pos) (tOr tA tB') := by
  intro wh pins s σ H Q I h
  refine isTrue_or (thn (ha pins s σ H _ I h) fun c s1 ⟨H1, I1, q1⟩ => ?_)
  cases c with
  | true => exact ⟨H1, I1, q1⟩
  | false => exact hb wh pins s1 σ H1 Q I1 q1
theorem pt_not (ha : PT X a tA) : PT X (.UnaryOp .Not a pos) (tNot tA) := by
  intro pins s σ H Q I h
  exact isTrue_not (ha pins s σ H (fun c H1 => Q (!c) H1) I h)
/-- .. as values (bools) -/
def tAndV (ta tb : TE) : TE := fun σ H Q => ta σ H fun x H1 => ∃ c, x = .bl c ∧ if c = true then tb σ H1 Q else Q (.bl false) H1
def tOrV (ta tb : TE) : TE := fun σ H Q => ta σ H fun x H1 => ∃ c, x = .bl c ∧ if c = true then Q (.bl true) H1 else tb σ H1 Q
def tNotV (ta : TE) : TE := fun σ H Q => ta σ H fun x H1 => ∃ c, x = .bl c ∧ Q (.bl (!c)) H1
theorem pe_one {op} {t : TE} (h : PE X a t) : PE X (.BoolOp op [a] pos) t := fun pins s σ H Q I hw => BoolOp_one (h pins s σ H Q I hw)
theorem pe_and (ha : PE X a ta) (hb : PE X (.BoolOp .And (b :: rest) pos) tb) : PE X (.BoolOp .And (a :: b :: rest) pos) (tAndV ta tb) := by
  intro pins s σ H Q I h
  refine BoolOp_and (thn (ha pins s σ H _ I h) fun v s1 ⟨x, H1, I1, r1, q1⟩ => ?_)
  obtain ⟨c, rfl, q1⟩ := q1
  cases r1
  refine wpAny_truthy_bool ?_
  cases c with
  | true => exact hb pins s1 σ H1 Q I1 q1
  | false => exact ⟨.bl false, H1, I1, rfl, q1⟩
theorem pe_or (ha : PE X a ta) (hb : PE X (.BoolOp .Or (b :: rest) pos) tb) : PE X (.BoolOp .Or (a :: b :: rest) pos) (tOrV ta tb) := by
  intro pins s σ H Q I h
  refine BoolOp_or (thn (ha pins s σ H _ I h) fun v s1 ⟨x, H1, I1, r1, q1⟩ => ?_)
  obtain ⟨c, rfl, q1⟩ := q1
  cases r1
  refine wpAny_truthy_bool ?_
  cases c with
  | false => exact hb pins s1 σ H1 Q I1 q1
  | true => exact ⟨.bl true, H1, I1, rfl, q1⟩
theorem pe_not (ha : PE X a ta) : PE X (.UnaryOp .Not a pos) (tNotV ta) := by
  intro pins s σ H Q I h
  refine UnaryOp_ (thn (ha pins s σ H _ I h) fun v s1 ⟨x, H1, I1, r1, q1⟩ => ?_)
  obtain ⟨c, rfl, q1⟩ := q1
  cases r1
  exact not_of (wpAny_truthy_bool ⟨.bl (!c), H1, I1, rfl, q1⟩)
/-- a if t else b -/
def tIf (t : TT) (ta tb : TE) : TE := fun σ H Q => t σ H fun c H1 => if c = true then ta σ H1 Q else tb σ H1 Q
theorem pe_ifExp {c : Expr} (hc : PT X c tA) (ha : PE X a ta) (hb : PE X b tb) : PE X (.IfExp c a b pos) (tIf tA ta tb) := by
  intro pins s σ H Q I h
  refine wpAny_IfExp (thn (hc pins s σ H _ I h) fun d s1 ⟨H1, I1, q1⟩ => ?_)
  cases d with
  | true => exact ha pins s1 σ H1 Q I1 q1
  | false => exact hb pins s1 σ H1 Q I1 q1
end
end L2

namespace L2
open PySem PySem.Spec PyProof.Rows

/-! ### a list, a tuple that is read: tracked, frozen, or an object of the module -/
def SqL (K : PySem.W.Frag) (H : Hp) (a : Addr) (xs : List V) : Prop :=
  Rd H a (.lst xs) ∨
    ∃ (o : Obj) (its : Array Value) (n : Nat), K.lookup a = some o ∧ o.cls = .type "list" ∧ o.dict = none ∧ o.data = .seq its n ∧ its.size ≤ sizeLine ∧ Vals xs its.toList
def SqT (K : PySem.W.Frag) (H : Hp) (a : Addr) (xs : List V) : Prop :=
  Rd H a (.tup xs) ∨
    ∃ (o : Obj) (its : Array Value) (n : Nat), K.lookup a = some o ∧ o.cls = .type "tuple" ∧ o.data = .seq its n ∧ its.size ≤ sizeLine ∧ Vals xs its.toList
def absV : Value → Option V
  | .none => some .non
  | .bool b => some (.bl b)
  | .int i _ => some (.int i)
  | .str x _ => some (.str x)
  | .bytes b _ => some (.byt b)
  | .float b _ => some (.flt b)
  | .ref a => some (.ref a)
  | .type n => some (.ty n)
  | _ => none
theorem RelV.abs {x : V} {u : Value} (r : RelV x u) : absV u = some x := by
  cases x with
  | non => cases r; rfl
  | bl _ => cases r; rfl
  | int _ => obtain ⟨t, rfl⟩ := r; rfl
  | str _ => obtain ⟨t, rfl⟩ := r; rfl
  | byt _ => obtain ⟨t, rfl⟩ := r; rfl
  | flt _ => obtain ⟨t, rfl⟩ := r; rfl
  | ref _ => cases r; rfl
  | ty _ => cases r; rfl
theorem RelV.inj {x y : V} {u : Value} (r : RelV x u) (q : RelV y u) : x = y := Option.some.inj (r.abs.symm.trans q.abs)
theorem Vals.inj : ∀ {xs ys : List V} {us : List Value}, Vals xs us → Vals ys us → xs = ys
  | _, _, _, .nil, .nil => rfl
  | _, _, _, .cons r t, .cons r' t' => by rw [r.inj r', Vals.inj t t']
section
variable {X : Cx} {pins : List (Addr × Obj)} {σ : St} {H : Hp} {s : Shared} {a : Addr} {xs ys : List V}
theorem SqL.of {K : PySem.W.Frag} (h : H a = some (.lst xs)) : SqL K H a xs := .inl (.inl h)
theorem SqT.of {K : PySem.W.Frag} (h : H a = some (.tup xs)) : SqT K H a xs := .inl (.inl h)
theorem Inv.list (I : Inv X pins σ H s) (h : SqL X.K H a xs) : ∃ its : List Value, Vals xs its ∧ PlainL s.heap a its.toArray ∧ xs.length ≤ sizeLine := by
  rcases h with h | ⟨o, its, n, hk, hc, hd, hs, hz, r⟩
  · obtain ⟨z, its, n, r, e⟩ := h.ok I.hok
    exact ⟨its, r, ⟨_, n, e, rfl, rfl, rfl⟩, z⟩
  · refine ⟨its.toList, r, ⟨o, n, I.kIn a o hk, hc, hd, by simpa using hs⟩, ?_⟩
    have e := r.length
    simp only [Array.length_toList] at e
    omega
theorem Inv.tuple (I : Inv X pins σ H s) (h : SqT X.K H a xs) : ∃ its : List Value, Vals xs its ∧ IsTup s.heap a its.toArray ∧ xs.length ≤ sizeLine := by
  rcases h with h | ⟨o, its, n, hk, hc, hs, hz, r⟩
  · obtain ⟨z, its, r, p⟩ := h.ok I.hok
    exact ⟨its, r, p, z⟩
  · refine ⟨its.toList, r, ⟨o, I.kIn a o hk, hc, n, by simpa using hs⟩, ?_⟩
    have e := r.length
    simp only [Array.length_toList] at e
    omega
theorem Inv.list_inj (I : Inv X pins σ H s) (h : SqL X.K H a xs) (h' : SqL X.K H a ys) : xs = ys := by
  obtain ⟨its, r, ⟨o, n, e, _, _, d⟩, _⟩ := I.list h
  obtain ⟨its', r', ⟨o', n', e', _, _, d'⟩, _⟩ := I.list h'
  rw [e] at e'; cases e'
  rw [d] at d'
  injection d' with d1 _
  have : its = its' := by simpa using congrArg Array.toList d1
  subst this
  exact r.inj r'
theorem Inv.tuple_inj (I : Inv X pins σ H s) (h : SqT X.K H a xs) (h' : SqT X.K H a ys) : xs = ys := by
  obtain ⟨its, r, ⟨o, e, _, n, d⟩, _⟩ := I.tuple h
  obtain ⟨its', r', ⟨o', e', _, n', d'⟩, _⟩ := I.tuple h'
  rw [e] at e'; cases e'
  rw [d] at d'
  injection d' with d1 _
  have : its = its' := by simpa using congrArg Array.toList d1
  subst this
  exact r.inj r'
end

/-! ### another wish about exceptions -/
abbrev Cx.wish (X : Cx) (E : Value → Shared → Prop) : Cx := { X with xe := E }
/-- no exception leaves -/
abbrev Cx.nox (X : Cx) : Cx := X.wish fun _ _ => False
theorem Cx.Ok.wish {X : Cx} (ok : X.Ok) (E : Value → Shared → Prop) : (X.wish E).Ok :=
  ⟨ok.mod, ok.kind, ok.glob, ok.blt, ok.above, ok.inj, ok.has, ok.cab, ok.hd, ok.frames, ok.stk, ok.exf, ok.bs, ok.bsz, ok.noex, ok.exfs, ok.funs, ok.frf⟩
theorem Cx.Ok.unwish {X : Cx} {E : Value → Shared → Prop} (ok : (X.wish E).Ok) : X.Ok :=
  ⟨ok.mod, ok.kind, ok.glob, ok.blt, ok.above, ok.inj, ok.has, ok.cab, ok.hd, ok.frames, ok.stk, ok.exf, ok.bs, ok.bsz, ok.noex, ok.exfs, ok.funs, ok.frf⟩
section
variable {X : Cx} {pins : List (Addr × Obj)} {σ : St} {H : Hp} {s : Shared} {E : Value → Shared → Prop}
theorem Inv.wish (I : Inv X pins σ H s) (E : Value → Shared → Prop) : Inv (X.wish E) pins σ H s := ⟨I.ok.wish E, I.os, I.bare, I.base, I.loc, I.cell, I.free, I.freeC, I.pin, I.hok, I.len⟩
theorem Inv.unwish (I : Inv (X.wish E) pins σ H s) : Inv X pins σ H s := ⟨I.ok.unwish, I.os, I.bare, I.base, I.loc, I.cell, I.free, I.freeC, I.pin, I.hok, I.len⟩
theorem SP.unwish {D : Ends} {f : Flow} {s' : Shared} (h : SP (X.wish E) pins D f s') : SP X pins D f s' := by
  cases f with
  | next => obtain ⟨σ', H', I, q⟩ := h; exact ⟨σ', H', I.unwish, q⟩
  | brk => obtain ⟨σ', H', I, q⟩ := h; exact ⟨σ', H', I.unwish, q⟩
  | cont => obtain ⟨σ', H', I, q⟩ := h; exact ⟨σ', H', I.unwish, q⟩
  | ret u => obtain ⟨v, σ', H', I, r, q⟩ := h; exact ⟨v, σ', H', I.unwish, r, q⟩
theorem PE.nox {e : Expr} {t : TE} (h : PE X.nox e t) : PE X e t := fun pins s σ H Q I hw =>
  wpAny_mono (h pins s σ H Q (I.wish _) hw) (fun _ _ ⟨v, H', I', r, q⟩ => ⟨v, H', I'.unwish, r, q⟩) fun _ _ z => False.elim z
theorem PT.nox {e : Expr} {t : TT} (h : PT X.nox e t) : PT X e t := fun pins s σ H Q I hw =>
  wpAny_mono (h pins s σ H Q (I.wish _) hw) (fun _ _ ⟨H', I', q⟩ => ⟨H', I'.unwish, q⟩) fun _ _ z => False.elim z
theorem PSs.nox {st : List Stmt} {t : TS} (h : PSs X.nox st t) : PSs X st t := fun pins s σ H D I hw =>
  wpAny_mono (h pins s σ H D (I.wish _) hw) (fun _ _ q => q.unwish) fun _ _ z => False.elim z
end

/-! ### blocks and small statements -/
section
variable {X : Cx} {st : Stmt} {rest : List Stmt} {t u : TS} {e : Expr} {te : TE} {pos : Pos}
def tNext : TS := fun D σ H => D.nx σ H
def tSeq (t u : TS) : TS := fun D σ H => t { D with nx := u D } σ H
theorem pss_nil : PSs X [] tNext := fun _ _ σ H _ I h => wpAny_execs_nil ⟨σ, H, I, h⟩
theorem pss_cons (h1 : PS X st t) (h2 : PSs X rest u) : PSs X (st :: rest) (tSeq t u) := by
  intro pins s σ H D I h
  refine wpAny_execs_cons (thn (h1 pins s σ H { D with nx := u D } I h) fun f s1 q => ?_)
  cases f with
  | next =>
    obtain ⟨σ', H', I', q⟩ := q
    exact h2 pins s1 σ' H' D I' q
  | ret v => exact q
  | brk => exact q
  | cont => exact q
theorem pss_one (h1 : PS X st t) : PSs X [st] t := by
  intro pins s σ H D I h
  refine wpAny_execs_cons (thn (h1 pins s σ H D I h) fun f s1 q => ?_)
  cases f with
  | next => exact wpAny_execs_nil q
  | ret v => exact q
  | brk => exact q
  | cont => exact q
def tBreak : TS := fun D σ H => D.bk σ H
def tCont : TS := fun D σ H => D.ct σ H
theorem ps_pass : PS X (.Pass pos) tNext := fun _ _ σ H _ I h => wpAny_Pass ⟨σ, H, I, h⟩
theorem ps_break : PS X (.Break pos) tBreak := fun _ _ σ H _ I h => wpAny_Break ⟨σ, H, I, h⟩
theorem ps_continue : PS X (.Continue pos) tCont := fun _ _ σ H _ I h => wpAny_Continue ⟨σ, H, I, h⟩
/-- in a def's body nothing is shown -/
theorem Inv.quiet {pins : List (Addr × Obj)} {σ : St} {H : Hp} {s : Shared} (I : Inv X pins σ H s) : interactive X.env = false := by simp [interactive, I.ok.kind]
/-- a docstring -/
theorem ps_doc {x j pos pos'} : PS X (.Expr (.Constant (.str x) j pos) pos') tNext := fun _ s σ H _ I h => wpAny_Expr (Calls.Constant_str (show SP X _ _ .next { s with toks := s.toks + 1 } from ⟨σ, H, I.tok _, h⟩)) I.quiet
/-- an expression whose value is dropped -/
def tDrop (te : TE) : TS := fun D σ H => te σ H fun _ H1 => D.nx σ H1
theorem ps_expr (he : PE X e te) (hs : swapsWith e none pos.line X.env = pure false := by rfl) : PS X (.Expr e pos) (tDrop te) := by
  intro pins s σ H D I h
  exact wpAny_Expr_any (thn (he pins s σ H _ I h) fun v s1 ⟨x, H1, I1, r1, q1⟩ => ⟨σ, H1, I1, q1⟩) I.quiet hs
def tRet (te : TE) : TS := fun D σ H => te σ H D.rt
theorem ps_ret (he : PE X e te) : PS X (.Return (some e) pos) (tRet te) := by
  intro pins s σ H D I h
  exact wpAny_Return_some (thn (he pins s σ H _ I h) fun v s1 ⟨x, H1, I1, r1, q1⟩ => ⟨x, σ, H1, I1, r1, q1⟩)
def tRetN : TS := fun D _ H => D.rt .non H
theorem ps_retN : PS X (.Return none pos) tRetN := fun _ _ σ H _ I h => wpAny_Return_none ⟨.non, σ, H, I, rfl, h⟩
def tIfS (c : TT) (t u : TS) : TS := fun D σ H => c σ H fun b H1 => if b = true then t D σ H1 else u D σ H1
theorem ps_if {c : Expr} {a b : List Stmt} {tc : TT} (hc : PT X c tc) (ha : PSs X a t) (hb : PSs X b u) : PS X (.If c a b pos) (tIfS tc t u) := by
  intro pins s σ H D I h
  refine wpAny_If (thn (hc pins s σ H _ I h) fun d s1 ⟨H1, I1, q1⟩ => ?_)
  cases d with
  | true => exact ha pins s1 σ H1 D I1 q1
  | false => exact hb pins s1 σ H1 D I1 q1
/-- code that the proof never comes to -/
def tNever : TS := fun _ _ _ => False
theorem ps_never : PS X st tNever := fun _ _ _ _ _ _ h => h.elim
theorem pss_never {sts : List Stmt} : PSs X sts tNever := fun _ _ _ _ _ _ h => h.elim
end

/-! ### targets -/
abbrev TG := V → St → Hp → (St → Hp → Prop) → Prop
abbrev TGs := List V → St → Hp → (St → Hp → Prop) → Prop
def PG (X : Cx) (target : Expr) (t : TG) : Prop :=
  ∀ (pins : List (Addr × Obj)) (s : Shared) (σ : St) (H : Hp) (v : V) (u : Value) (Q : St → Hp → Prop), Inv X pins σ H s → RelV v u → t v σ H Q →
    wpAny (model X.prog X.w) X.A (assign target X.env u) (fun _ s' => ∃ σ' H', Inv X pins σ' H' s' ∧ Q σ' H') X.xe s
/-- several targets, one after another -/
def PGs (X : Cx) (ts : List Expr) (t : TGs) : Prop :=
  ∀ (pins : List (Addr × Obj)) (s : Shared) (σ : St) (H : Hp) (vs : List V) (us : List Value) (Q : St → Hp → Prop), Inv X pins σ H s → Vals vs us → t vs σ H Q →
    wpAny (model X.prog X.w) X.A (assignInOrder ((assignEach ts X.env).map (·.2)) us) (fun _ s' => ∃ σ' H', Inv X pins σ' H' s' ∧ Q σ' H') X.xe s
/-- o[i] = v, by values -/
abbrev TSet := V → V → V → Hp → (Hp → Prop) → Prop
def PSet (X : Cx) (t : TSet) : Prop :=
  ∀ (pins : List (Addr × Obj)) (s : Shared) (σ : St) (H : Hp) (o i v : V) (ov iv u : Value) (Q : Hp → Prop), Inv X pins σ H s → RelV o ov → RelV i iv → RelV v u → t o i v H Q →
    wpAny (model X.prog X.w) X.A (setItem ov iv u) (fun _ s' => ∃ H', Inv X pins σ H' s' ∧ Q H') X.xe s
/-- a op= b, by values -/
abbrev TIp := V → V → Hp → VK → Prop
def PIp (X : Cx) (op : Operator) (t : TIp) : Prop :=
  ∀ (pins : List (Addr × Obj)) (s : Shared) (σ : St) (H : Hp) (x y : V) (v u : Value) (Q : VK), Inv X pins σ H s → RelV x v → RelV y u → t x y H Q →
    wpAny (model X.prog X.w) X.A (inplaceOp op v u) (EP X pins σ Q) X.xe s
section
variable {X : Cx} {pos : Pos}
def gName (i : Nat) : TG := fun v σ H Q => Q (σ.set i (some v)) H
theorem pg_name {i : Nat} {x : Str} (hN : X.N.Nodup) (hi : X.N[i]? = some x) (hx : Loc X.env.scope x) (hf : X.fn x = true ∨ X.env.scope.names.lookup x = some .local := by first | exact .inl rfl | exact .inr rfl | assumption) : PG X (.Name x pos) (gName i) := by
  intro pins s σ H v u Q I r h
  exact wpAny_assign_Name (store_ok I hN hi hx r (fun s' I' => ⟨_, H, I', h⟩) hf)
def gNil : TGs := fun vs σ H Q => vs = [] ∧ Q σ H
def gCons (t : TG) (u : TGs) : TGs := fun vs σ H Q => ∃ v r, vs = v :: r ∧ t v σ H fun σ' H' => u r σ' H' Q
theorem pgs_nil : PGs X [] gNil := by
  intro pins s σ H vs us Q I r h
  obtain ⟨e, h⟩ := h
  subst e
  cases r
  exact assignInOrder_nil ⟨σ, H, I, h⟩
theorem pgs_cons {e : Expr} {es : List Expr} {t : TG} {u : TGs} (h1 : PG X e t) (h2 : PGs X es u)
    (hs : (assignEach (e :: es) X.env).map (·.2) = assign e X.env :: (assignEach es X.env).map (·.2) := by rfl) : PGs X (e :: es) (gCons t u) := by
  intro pins s σ H vs us Q I r h
  obtain ⟨v, vr, e1, h⟩ := h
  subst e1
  cases r with
  | cons r rr =>
    rw [hs]
    refine assignInOrder_cons (thn (h1 pins s σ H _ _ _ I r h) fun _ s1 ⟨σ1, H1, I1, q1⟩ => ?_)
    exact h2 pins s1 σ1 H1 _ _ Q I1 rr q1
/-- (a, b, ..) = a tuple of that length -/
def gTup (K : PySem.W.Frag) (n : Nat) (t : TGs) : TG := fun v σ H Q => ∃ a xs, v = .ref a ∧ SqT K H a xs ∧ xs.length = n ∧ t xs σ H Q
theorem pg_tup {es : List Expr} {k : Nat} {t : TGs} {n : Nat} (hc : X.calm = true) (h : PGs X es t)
    (hn : (assignEach es X.env).length = n := by rfl) (hst : (assignEach es X.env).findIdx? (·.1) = none := by rfl) : PG X (.Tuple es k pos) (gTup X.K n t) := by
  intro pins s σ H v u Q I r hw
  obtain ⟨a, xs, e1, hq, hl, hw⟩ := hw
  subst e1
  cases r
  obtain ⟨its, rv, ht, hz⟩ := I.tuple hq
  refine assign_Tuple_tuple (I.ok.hd hc) ht (by simp [hn, ← hl, rv.length]) hst fun h' hx => ?_
  have I1 : Inv X pins σ H { s with heap := h' } := I.kept (t' := s.toks) fun b o e => hx b o (Nat.ne_of_lt (Heap.lt_size e)) e
  exact h pins _ σ H xs _ Q I1 (by simpa using rv) hw
/-- o[i] = .. -/
def gSub (to ti : TE) (t : TSet) : TG := fun v σ H Q => to σ H fun o H1 => ti σ H1 fun i H2 => t o i v H2 fun H3 => Q σ H3
theorem pg_sub {o i : Expr} {to ti : TE} {t : TSet} (ho : PE X o to) (hi : PE X i ti) (hs : PSet X t)
    (ha : ∀ v, assign (.Subscript o i pos) X.env v = (do
      let ov ← holding [v] (eval o X.env)
      let iv ← holding [v, ov] (eval i X.env)
      standAt pos
      holding [v, ov, iv] (setItem ov iv v)
      release [v, ov, iv] []) := by intro _; rfl) : PG X (.Subscript o i pos) (gSub to ti t) := by
  intro pins s σ H v u Q I r h
  rw [ha]
  refine wpAny_bind (wpAny_holding (thn (ho pins s σ H _ I h) fun ov s1 ⟨x, H1, I1, r1, q1⟩ => ?_))
  refine wpAny_bind (wpAny_holding (thn (hi pins s1 σ H1 _ I1 q1) fun iv s2 ⟨y, H2, I2, r2, q2⟩ => ?_))
  refine wpAny_bind (wpAny_standAt (wpAny_bind (wpAny_holding (thn (hs pins s2 σ H2 x y v ov iv u _ I2 r1 r2 r q2) fun _ s3 ⟨H3, I3, q3⟩ => ?_))))
  exact wpAny_release ⟨σ, H3, I3, q3⟩
/-- target = value -/
def tAsg (te : TE) (g : TG) : TS := fun D σ H => te σ H fun x H1 => g x σ H1 D.nx
theorem ps_asg {tg e : Expr} {te : TE} {g : TG} (he : PE X e te) (hg : PG X tg g) (hs : swapsWithSole [tg] e pos.line X.env = pure false := by rfl) (hw : swappedStores [tg] e X.env = pure none := by rfl)
    (h1 : (assignEach [tg] X.env).map (·.2) = [assign tg X.env] := by rfl) : PS X (.Assign [tg] e pos) (tAsg te g) := by
  intro pins s σ H D I h
  refine wpAny_Assign_stores (thn (he pins s σ H _ I h) fun v s1 ⟨x, H1, I1, r1, q1⟩ => ?_) hs hw
  rw [h1]
  exact thn (hg pins s1 σ H1 x v _ I1 r1 q1) fun _ s2 q => q
/-- name = value -/
theorem ps_set {i : Nat} {x : Str} {e : Expr} {te : TE} {pos' : Pos} (hN : X.N.Nodup) (hi : X.N[i]? = some x) (hx : Loc X.env.scope x) (he : PE X e te) (hs : swapsWith e (some (.Name x pos')) pos.line X.env = pure false := by rfl) (hf : X.fn x = true ∨ X.env.scope.names.lookup x = some .local := by first | exact .inl rfl | exact .inr rfl | assumption) :
    PS X (.Assign [.Name x pos'] e pos) (tAsg te (gName i)) := by
  intro pins s σ H D I h
  refine wpAny_Assign_Name (thn (he pins s σ H _ I h) fun v s1 ⟨y, H1, I1, r1, q1⟩ => ?_) hs
  exact store_ok I1 hN hi hx r1 (fun s2 I2 => ⟨_, H1, I2, q1⟩) hf
/-- a, b = x, y with plain local names: stored from the right; the pair itself is not tracked (the opening rows as in PyProof/Rows/TupAssign.lean:23) -/
def tPar (i j : Nat) (ta : TA) : TS := fun D σ H => ta σ H fun vs H1 => ∃ v w, vs = [v, w] ∧ D.nx ((σ.set i (some v)).set j (some w)) H1
theorem ps_par {i j : Nat} {x y : Str} {a b : Expr} {ta : TA} {px py pt : Pos} {kt k2 pt2} (hc : X.calm = true) (hN : X.N.Nodup) (hi : X.N[i]? = some x) (hj : X.N[j]? = some y) (hij : i ≠ j)
    (hx : X.env.scope.names.lookup x = some .local) (hy : X.env.scope.names.lookup y = some .local) (ha : PA X [a, b] ta)
    (hw : swappedStores [.Tuple [.Name x px, .Name y py] kt pt] (.Tuple [a, b] k2 pt2) X.env = pure (some [x, y]))
    (hs : swapsWithSole [.Tuple [.Name x px, .Name y py] kt pt] (.Tuple [a, b] k2 pt2) pos.line X.env = pure false := by rfl) :
    PS X (.Assign [.Tuple [.Name x px, .Name y py] kt pt] (.Tuple [a, b] k2 pt2) pos) (tPar i j ta) := by
  intro pins s σ H D I h
  rw [exec_Assign_arm]
  refine wpAny_bind (wpAny_standAt ?_)
  rw [hs]
  refine wpAny_bind (wpAny_pure ?_)
  rw [if_neg (by decide)]
  refine wpAny_bind (Tuple_ (thn (ha _ pins s σ H _ I h) fun us s1 ⟨vs, H1, I1, r1, q1⟩ => ?_))
  obtain ⟨v, w, e1, q1⟩ := q1
  subst e1
  obtain ⟨u1, u2, rfl, rv, rw'⟩ : ∃ u1 u2, us = [u1, u2] ∧ RelV v u1 ∧ RelV w u2 := by
    cases r1 with
    | cons p q =>
      cases q with
      | cons p' q' =>
        cases q'
        exact ⟨_, _, rfl, p, p'⟩
  refine wpAny_newObj_type ?_ (by show 2 ≤ sizeLine; decide)
  have I2 : Inv X pins σ H1 { s1 with heap := s1.heap.push { cls := .type "tuple", data := .seq [u1, u2].toArray } } := I1.kept (t' := s1.toks) fun b o e => Heap.get?_push_of_some _ e
  rw [hw]
  refine wpAny_bind (wpAny_pure ?_)
  show wpAny (model X.prog X.w) X.A (do rule "assign.swapped-stores"; let items ← unpackItems (.ref s1.heap.objs.size) 2 none; assignInOrder [fun v => bindName X.env y v, fun v => bindName X.env x v] items.reverse; pure Flow.next) _ _ _
  refine wpAny_bind (wpAny_rule (wpAny_bind (unpackItems_tuple (items := #[u1, u2]) (I.ok.hd hc) (IsTup.new s1.heap _) fun h' hx' => ?_)))
  have I3 := I2.kept (h' := h') (t' := s1.toks) fun b o e => hx' b o (Nat.ne_of_lt (Heap.lt_size e)) e
  show wpAny _ _ (assignInOrder [fun v => bindName X.env y v, fun v => bindName X.env x v] [u2, u1] >>= fun _ => pure Flow.next) _ _ _
  refine wpAny_bind (assignInOrder_cons (wpAny_bindName (store_ok I3 hN hj (.inl hy) rw' (fun s2 I4 => ?_) (.inr hy))))
  refine assignInOrder_cons (wpAny_bindName (store_ok I4 hN hi (.inl hx) rv (fun s3 I5 => assignInOrder_nil (wpAny_pure ?_)) (.inr hx)))
  rw [List.set_comm _ _ (Ne.symm hij)] at I5
  exact ⟨_, H1, I5, q1⟩
/-- name op= e -/
def tAug (i : Nat) (te : TE) (ti : TIp) : TS := fun D σ H => ∃ x, σ[i]? = some (some x) ∧ te σ H fun y H1 => ti x y H1 fun z H2 => D.nx (σ.set i (some z)) H2
theorem ps_aug {i : Nat} {x : Str} {e : Expr} {te : TE} {op : Operator} {ti : TIp} {pos' : Pos} (hN : X.N.Nodup) (hi : X.N[i]? = some x) (hx : Loc X.env.scope x) (he : PE X e te) (ho : PIp X op ti) (hf : X.fn x = true ∨ X.env.scope.names.lookup x = some .local := by first | exact .inl rfl | exact .inr rfl | assumption) :
    PS X (.AugAssign (.Name x pos') op e pos) (tAug i te ti) := by
  intro pins s σ H D I h
  obtain ⟨v, e1, h⟩ := h
  obtain ⟨m, hn, hl⟩ := I.loc
  have vis : Vis X.env.scope x := by rcases hx with k | k; exact .inl k; exact .inr (.inl k)
  obtain ⟨u, r, l⟩ := hl i x v hi e1 vis
  refine wpAny_AugAssign_Name ?_
  have go : wpAny (model X.prog X.w) X.A (eval e X.env) (fun w s₂ => wpAny (model X.prog X.w) X.A (inplaceOp op u w) (fun r s₃ => wpAny (model X.prog X.w) X.A (storeName X.env x r) (fun _ => SP X pins D .next) X.xe s₃) X.xe s₂) X.xe s := by
    refine thn (he pins s σ H _ I h) fun w s1 ⟨y, H1, I1, r1, q1⟩ => ?_
    refine thn (ho pins s1 σ H1 v y u w _ I1 r r1 q1) fun z s2 ⟨zv, H2, I2, r2, q2⟩ => ?_
    exact store_ok I2 hN hi hx r2 (fun s3 I3 => ⟨_, H2, I3, q2⟩) hf
  rcases l with ⟨hk, hm⟩ | ⟨hk, c, hc, hcell⟩
  · exact wpAny_loadName_local I.ok.kind hk hn hm go
  · rcases hk with hk | hk
    · exact wpAny_loadName_cell I.ok.kind hk hc hcell go
    · rcases hx with k | k
      · have : X.env.scope.names.lookup x = some .free := hk
        rw [k] at this; cases this
      · have : X.env.scope.names.lookup x = some .free := hk
        rw [k] at this; cases this
/-- o[i] op= e -/
def tAugS (to ti te : TE) (tget : V → V → Hp → VK → Prop) (tip : TIp) (tset : TSet) : TS := fun D σ H => to σ H fun o H1 => ti σ H1 fun i H2 => tget o i H2 fun x H3 => te σ H3 fun y H4 => tip x y H4 fun z H5 => tset o i z H5 fun H6 => D.nx σ H6
/-- o[i], by values -/
def PGet (X : Cx) (t : V → V → Hp → VK → Prop) : Prop :=
  ∀ (pins : List (Addr × Obj)) (s : Shared) (σ : St) (H : Hp) (o i : V) (ov iv : Value) (Q : VK), Inv X pins σ H s → RelV o ov → RelV i iv → t o i H Q →
    wpAny (model X.prog X.w) X.A (getItem ov iv) (EP X pins σ Q) X.xe s
theorem ps_augS {o i e : Expr} {to ti te : TE} {tget : V → V → Hp → VK → Prop} {tip : TIp} {tset : TSet} {op : Operator} {tpos : Pos} (ho : PE X o to) (hi : PE X i ti) (hg : PGet X tget) (he : PE X e te) (hp : PIp X op tip) (hs : PSet X tset)
    (ha : ∀ ov iv new, augStore i ov iv new = (do holding [new, ov, iv] (setItem ov iv new); release [new, ov, iv] []; pure .next) := by intros; rfl) : PS X (.AugAssign (.Subscript o i tpos) op e pos) (tAugS to ti te tget tip tset) := by
  intro pins s σ H D I h
  refine wpAny_AugAssign_SubscriptAny (thn (ho pins s σ H _ I h) fun ov s1 ⟨x1, H1, I1, r1, q1⟩ => ?_) ha
  refine thn (hi pins s1 σ H1 _ I1 q1) fun iv s2 ⟨x2, H2, I2, r2, q2⟩ => ?_
  refine thn (hg pins s2 σ H2 x1 x2 ov iv _ I2 r1 r2 q2) fun old s3 ⟨x3, H3, I3, r3, q3⟩ => ?_
  refine thn (he pins s3 σ H3 _ I3 q3) fun v s4 ⟨x4, H4, I4, r4, q4⟩ => ?_
  refine thn (hp pins s4 σ H4 x3 x4 old v _ I4 r3 r4 q4) fun new s5 ⟨x5, H5, I5, r5, q5⟩ => ?_
  exact thn (hs pins s5 σ H5 x1 x2 x5 ov iv new _ I5 r1 r2 r5 q5) fun _ s6 ⟨H6, I6, q6⟩ => ⟨σ, H6, I6, q6⟩
/-- ints -/
def ipI (f : Int → Int → Int) : TIp := fun x y H Q => ∃ i j, x = .int i ∧ y = .int j ∧ Q (.int (f i j)) H
theorem ip_add : PIp X .Add (ipI fun i j => i + j) := by
  intro pins s σ H x y v u Q I r1 r2 h
  obtain ⟨i, j, e1, e2, q⟩ := h
  subst e1; subst e2
  obtain ⟨t, rfl⟩ := r1
  obtain ⟨t', rfl⟩ := r2
  exact iadd_int ⟨.int _, H, I.tok _, ⟨_, rfl⟩, q⟩
theorem ip_sub : PIp X .Sub (ipI fun i j => i - j) := by
  intro pins s σ H x y v u Q I r1 r2 h
  obtain ⟨i, j, e1, e2, q⟩ := h
  subst e1; subst e2
  obtain ⟨t, rfl⟩ := r1
  obtain ⟨t', rfl⟩ := r2
  exact isub_int ⟨.int _, H, I.tok _, ⟨_, rfl⟩, q⟩
end

/-! ### while -/
section
variable {X : Cx} {pos : Pos}
/-- the invariant W with its measure -/
def tWhile (c : TT) (tb : TS) : TS := fun D σ H => ∃ W : Nat → St → Hp → Prop, (∃ m, W m σ H) ∧ ∀ m σ H, W m σ H →
  c σ H fun b H1 => if b = true then ∃ N : St → Hp → Prop, (∀ σ' H', N σ' H' → ∃ m', m' < m ∧ W m' σ' H') ∧ tb { D with nx := N, ct := N, bk := D.nx } σ H1 else D.nx σ H1
theorem ps_while {c : Expr} {body : List Stmt} {tc : TT} {tb : TS} (hp : PassesOwn (model X.prog X.w) X.A X.env X.xe) (hc : PT X c tc) (hb : PSs X body tb) : PS X (.While c body [] pos) (tWhile tc tb) := by
  intro pins s σ H D I h
  obtain ⟨W, ⟨m0, w0⟩, turn⟩ := h
  refine wpAny_While (codeAny_whileLoop (fun n s' => ∃ σ' H', Inv X pins σ' H' s' ∧ W n σ' H') ?_ m0 ⟨σ, H, I, w0⟩)
  rintro n s1 ⟨σ1, H1, I1, w1⟩
  refine wpAny_passesOwn hp (thn (hc pins s1 σ1 H1 _ I1 (turn n σ1 H1 w1)) fun b s2 ⟨H2, I2, q2⟩ => ?_)
  cases b with
  | true =>
    obtain ⟨N, hN, q2⟩ := q2
    rw [if_pos rfl]
    refine wpAny_passesOwn hp (thn (hb pins s2 σ1 H2 _ I2 q2) fun f s3 q3 => ?_)
    cases f with
    | next =>
      obtain ⟨σ3, H3, I3, n3⟩ := q3
      obtain ⟨m', hm, w3⟩ := hN σ3 H3 n3
      exact ⟨m', hm, σ3, H3, I3, w3⟩
    | cont =>
      obtain ⟨σ3, H3, I3, n3⟩ := q3
      obtain ⟨m', hm, w3⟩ := hN σ3 H3 n3
      exact ⟨m', hm, σ3, H3, I3, w3⟩
    | brk => exact q3
    | ret v => exact q3
  | false =>
    rw [if_neg Bool.false_ne_true]
    exact wpAny_execs_nil ⟨σ1, H2, I2, q2⟩
end

/-! ### what a loop or a comprehension walks -/
/-- at turn i: it yields x (the heap may grow), or it stops -/
structure It where
  go : Nat → Hp → Prop
  yld : Nat → Hp → V → Hp → Prop
  stop : Nat → Hp → Prop
/-- the iterator's own objects may turn: they are not the frame's, not pinned, younger than the entry (or a comprehension's own) -/
def FpOk (X : Cx) (pins : List (Addr × Obj)) (H : Hp) (b : Addr) : Prop :=
  H b = none ∧ b ≠ X.env.locals ∧ b ∉ X.fs ∧ (b ∈ X.ex ∨ X.s₀.heap.objs.size ≤ b) ∧ (∀ x c, X.env.cells.lookup x = some c → c ≠ b) ∧ ∀ p ∈ X.pn ++ pins, p.1 ≠ b
theorem Inv.fpOk {X : Cx} {pins : List (Addr × Obj)} {σ : St} {H H' : Hp} {s : Shared} {b : Addr} (I : Inv X pins σ H s) (hb : s.heap.objs.size ≤ b) (hn : H' b = none) : FpOk X pins H' b := by
  refine ⟨hn, Nat.ne_of_gt (Nat.lt_of_lt_of_le I.lt hb), I.nofs hb, .inr (Nat.le_trans I.sz hb), fun x c e z => ?_, fun p hp z => ?_⟩
  · obtain ⟨v, q⟩ := I.cell x c e
    exact absurd (Nat.lt_of_lt_of_le q.lt (by rw [z]; exact hb)) (Nat.lt_irrefl _)
  · exact absurd (Nat.lt_of_lt_of_le (Heap.lt_size (I.pin p hp).1) (by rw [z]; exact hb)) (Nat.lt_irrefl _)
structure Turn (P : Program) (w : World) (K : PySem.W.Frag) (tg : Expr) (J : It) (fp : List Addr) (it : Addr) (tn : Nat → Heap → Prop) : Prop where
  mem : it ∈ fp
  obj : ∀ i h, tn i h → ∀ b ∈ fp, ∃ o, h.get? b = some o ∧ ∀ v, o.data ≠ .cell v
  keep : ∀ i h h', tn i h → (∀ b ∈ fp, ∀ o, h.get? b = some o → h'.get? b = some o) → tn i h'
  item : ∀ (X : Cx), X.prog = P → X.w = w → X.K = K → X.calm = true → ∀ (i : Nat) (pins : List (Addr × Obj)) (s : Shared) (σ : St) (H : Hp) (E : Value → Shared → Prop), Inv X pins σ H s → (∀ b ∈ fp, FpOk X pins H b) → tn i s.heap → J.go i H →
    wpAny (model P w) X.A (pyNext (.ref it)) (fun r s1 => ∃ u, r = some u ∧
      wpAny (model P w) X.A (letOwnedTupleGo tg (.ref it) u) (fun _ s2 => ∃ x H', Inv X pins σ H' s2 ∧ RelV x u ∧ J.yld i H x H' ∧ tn (i + 1) s2.heap ∧ ∀ b ∈ fp, H' b = none) E s1) E s
  done : ∀ (X : Cx), X.prog = P → X.w = w → X.K = K → X.calm = true → ∀ (i : Nat) (pins : List (Addr × Obj)) (s : Shared) (σ : St) (H : Hp) (E : Value → Shared → Prop), Inv X pins σ H s → (∀ b ∈ fp, FpOk X pins H b) → tn i s.heap → J.stop i H →
    wpAny (model P w) X.A (pyNext (.ref it)) (fun r s1 => r = none ∧ Inv X pins σ H s1) E s
  self : ∀ (A : Around) (i : Nat) (s : Shared) (Q : Value → Shared → Prop) (E : Value → Shared → Prop), tn i s.heap → Q (.ref it) s → wpAny (model P w) A (pyIter (.ref it)) Q E s
abbrev TI := St → Hp → (It → Hp → Prop) → Prop
/-- an iterator has come -/
def PIE (X : Cx) (pins : List (Addr × Obj)) (σ : St) (tg : Expr) (R : It → Hp → Prop) (itv : Value) (s2 : Shared) : Prop :=
  ∃ (it : Addr) (fp : List Addr) (tn : Nat → Heap → Prop) (J : It) (H' : Hp), itv = .ref it ∧ Inv X pins σ H' s2 ∧ Turn X.prog X.w X.K tg J fp it tn ∧ tn 0 s2.heap ∧ (∀ b ∈ fp, FpOk X pins H' b) ∧ R J H'
def PI (X : Cx) (tg iter : Expr) (wi : TI) : Prop :=
  ∀ (pins : List (Addr × Obj)) (s : Shared) (σ : St) (H : Hp) (R : It → Hp → Prop), Inv X pins σ H s → wi σ H R →
    wpAny (model X.prog X.w) X.A (eval iter X.env) (fun v s1 => wpAny (model X.prog X.w) X.A (pyIter v) (PIE X pins σ tg R) X.xe s1) X.xe s

/-- the step ahead of the store is nothing for an iterator that keeps no tuple -/
theorem go_of {M : Model} {A : Around} {E : Value → Shared → Prop} {s : Shared} {tg : Expr} {it : Addr} {u : Value} {o : Obj} {n : String} {vs : Array Value} {Q : Unit → Shared → Prop} (ho : s.heap.get? it = some o) (hc : o.cls = .type n) (hd : o.data = .fields vs)
    (hn : ["enumerate", "zip", "dict_itemiterator", "dict_reverseitemiterator", "odict_iterator", "itertools.zip_longest", "itertools.pairwise"].contains n = false) (hQ : Q () s) : wpAny M A (letOwnedTupleGo tg (.ref it) u) Q E s := by
  unfold letOwnedTupleGo
  cases tg <;> first
    | exact wpAny_pure hQ
    | (cases u <;> first
        | exact wpAny_pure hQ
        | (refine wpAny_bind (wpAny_load ho ?_)
           rw [hc, hd]
           show wpAny M A (if (["enumerate", "zip", "dict_itemiterator", "dict_reverseitemiterator", "odict_iterator", "itertools.zip_longest", "itertools.pairwise"].contains n && vs[0]? == some (rawInt _)) = true then _ else _) Q E s
           rw [if_neg (by intro h; rw [hn, Bool.false_and] at h; cases h)]
           exact wpAny_pure hQ))

/-- the list at a, as it stands at each turn (a loop may append to it) -/
def Itl (K : PySem.W.Frag) (a : Addr) : It :=
  ⟨fun i H => ∃ xs x, SqL K H a xs ∧ xs[i]? = some x, fun i H x H' => H' = H ∧ ∀ xs, SqL K H a xs → xs[i]? = some x, fun i H => ∃ xs, SqL K H a xs ∧ xs.length ≤ i⟩
def Itt (K : PySem.W.Frag) (a : Addr) : It :=
  ⟨fun i H => ∃ xs x, SqT K H a xs ∧ xs[i]? = some x, fun i H x H' => H' = H ∧ ∀ xs, SqT K H a xs → xs[i]? = some x, fun i H => ∃ xs, SqT K H a xs ∧ xs.length ≤ i⟩
/-- lo, lo + 1, .. (n of them) -/
def Itr (lo : Int) (n : Nat) : It := ⟨fun i _ => i < n, fun i H x H' => H' = H ∧ x = .int (lo + i), fun i _ => n ≤ i⟩
theorem turn_list {P : Program} {w : World} {K : PySem.W.Frag} {tg : Expr} (a it : Addr) : Turn P w K tg (Itl K a) [it] it (fun i h => h.IsListIter it a i) where
  mem := by simp
  obj := fun i h st b hb => by
    have e : b = it := by simpa using hb
    subst e
    obtain ⟨o, e, c, d⟩ := st
    exact ⟨o, e, fun v z => by rw [d] at z; cases z⟩
  keep := fun i h h' st k => st.at fun o e => k it (by simp) o e
  item := by
    intro X hP hw hK hc i pins s σ H E I hf st hg
    subst hP hw hK
    obtain ⟨xs, x, hq, hx⟩ := hg
    obtain ⟨its, rv, p, hz⟩ := I.list hq
    obtain ⟨u, hu, ru⟩ := rv.get hx
    obtain ⟨f0, f1, f2, f3, f4, f5⟩ := hf it (by simp)
    refine wpAny_pyNext_list_item st p.isList (x := u) (by simpa using hu) fun h' st' sb => ?_
    have I1 : Inv X pins σ H { s with heap := h' } := I.turned (t' := s.toks) (fun b o hb e => (sb.2 b hb).trans e) f0 f1 f3 f4 f5
    obtain ⟨o, e, c, d⟩ := id st'
    exact ⟨u, rfl, go_of (s := { s with heap := h' }) e c d (by decide) ⟨x, H, I1, ru, ⟨rfl, fun ys hy => by rw [I.list_inj hy hq]; exact hx⟩, st', fun b hb => (hf b hb).1⟩⟩
  done := by
    intro X hP hw hK hc i pins s σ H E I hf st hg
    subst hP hw hK
    obtain ⟨xs, hq, hx⟩ := hg
    obtain ⟨its, rv, p, hz⟩ := I.list hq
    obtain ⟨f0, f1, f2, f3, f4, f5⟩ := hf it (by simp)
    have hl := rv.length
    exact wpAny_pyNext_list_end (I.ok.hd hc) st p.isList (by simp; omega) fun h' eb => ⟨rfl, I.turned (t' := s.toks) (fun b o hb e => eb b o hb e) f0 f1 f3 f4 f5⟩
  self := fun _ _ _ _ _ st h => wpAny_pyIter_listiter st h
theorem turn_tuple {P : Program} {w : World} {K : PySem.W.Frag} {tg : Expr} (a it : Addr) : Turn P w K tg (Itt K a) [it] it (fun i h => h.IsTupleIter it a i) where
  mem := by simp
  obj := fun i h st b hb => by
    have e : b = it := by simpa using hb
    subst e
    obtain ⟨o, e, c, d⟩ := st
    exact ⟨o, e, fun v z => by rw [d] at z; cases z⟩
  keep := fun i h h' st k => st.at fun o e => k it (by simp) o e
  item := by
    intro X hP hw hK hc i pins s σ H E I hf st hg
    subst hP hw hK
    obtain ⟨xs, x, hq, hx⟩ := hg
    obtain ⟨its, rv, p, hz⟩ := I.tuple hq
    obtain ⟨u, hu, ru⟩ := rv.get hx
    obtain ⟨f0, f1, f2, f3, f4, f5⟩ := hf it (by simp)
    refine wpAny_pyNext_tuple_item st (show s.heap.IsTuple a its.toArray from p) (x := u) (by simpa using hu) fun h' st' sb => ?_
    have I1 : Inv X pins σ H { s with heap := h' } := I.turned (t' := s.toks) (fun b o hb e => (sb.2 b hb).trans e) f0 f1 f3 f4 f5
    obtain ⟨o, e, c, d⟩ := id st'
    exact ⟨u, rfl, go_of (s := { s with heap := h' }) e c d (by decide) ⟨x, H, I1, ru, ⟨rfl, fun ys hy => by rw [I.tuple_inj hy hq]; exact hx⟩, st', fun b hb => (hf b hb).1⟩⟩
  done := by
    intro X hP hw hK hc i pins s σ H E I hf st hg
    subst hP hw hK
    obtain ⟨xs, hq, hx⟩ := hg
    obtain ⟨its, rv, p, hz⟩ := I.tuple hq
    obtain ⟨f0, f1, f2, f3, f4, f5⟩ := hf it (by simp)
    have hl := rv.length
    exact wpAny_pyNext_tuple_end (I.ok.hd hc) st (show s.heap.IsTuple a its.toArray from p) (by simp; omega) fun h' eb => ⟨rfl, I.turned (t' := s.toks) (fun b o hb e => eb b o hb e) f0 f1 f3 f4 f5⟩
  self := fun _ _ _ _ _ st h => wpAny_pyIter_tupleiter st h
theorem turn_range {P : Program} {w : World} {K : PySem.W.Frag} {tg : Expr} (it : Addr) (lo : Int) (n : Nat) : Turn P w K tg (Itr lo n) [it] it (fun i h => IsRangeIter h it (lo + (i : Nat) * 1) ((n : Int) - (i : Nat)) 1) where
  mem := by simp
  obj := fun i h st b hb => by
    have e : b = it := by simpa using hb
    subst e
    exact ⟨_, st, fun v z => by
      have z' : Data.fields _ = Data.cell v := z
      cases z'⟩
  keep := fun i h h' st k => k it (by simp) _ st
  item := by
    intro X hP hw hK hc i pins s σ H E I hf st hg
    subst hP hw hK
    obtain ⟨f0, f1, f2, f3, f4, f5⟩ := hf it (by simp)
    have W := Walks.range (prog := X.prog) (w := X.w) (I.ok.hd hc) it lo 1 n
    refine W.item i s _ _ hg st fun v h' tk hv st' kk => ?_
    obtain ⟨t, rfl⟩ := hv
    have I1 : Inv X pins σ H { s with heap := h', toks := tk } := I.turned (fun b o hb e => kk b o (by simpa using hb) e) f0 f1 f3 f4 f5
    refine ⟨_, rfl, go_of (s := { s with heap := h', toks := tk }) (n := "range_iterator") st' rfl rfl (by decide) ⟨.int (lo + i), H, I1, ⟨t, ?_⟩, ⟨rfl, rfl⟩, st', fun b hb => (hf b hb).1⟩⟩
    rw [Int.mul_one]
  done := by
    intro X hP hw hK hc i pins s σ H E I hf st hg
    subst hP hw hK
    obtain ⟨f0, f1, f2, f3, f4, f5⟩ := hf it (by simp)
    exact wpAny_pyNext_range_end (I.ok.hd hc) st (by have : n ≤ i := hg; omega) fun h' eb => ⟨rfl, I.turned (t' := s.toks) (fun b o hb e => eb b o hb e) f0 f1 f3 f4 f5⟩
  self := fun _ _ _ _ _ st h => wpAny_pyIter_rangeiter st h
end L2

namespace L2
open PySem PySem.Spec PyProof.Rows
section
variable {X : Cx} {tg : Expr}
def iList (K : PySem.W.Frag) (tl : TE) : TI := fun σ H R => tl σ H fun x H1 => ∃ a, x = .ref a ∧ (∃ xs, SqL K H1 a xs) ∧ R (Itl K a) H1
def iTup (K : PySem.W.Frag) (tl : TE) : TI := fun σ H R => tl σ H fun x H1 => ∃ a, x = .ref a ∧ (∃ xs, SqT K H1 a xs) ∧ R (Itt K a) H1
theorem pi_list {l : Expr} {tl : TE} (hl : PE X l tl) : PI X tg l (iList X.K tl) := by
  intro pins s σ H R I h
  refine thn (hl pins s σ H _ I h) fun v s1 ⟨x, H1, I1, r1, q1⟩ => ?_
  obtain ⟨a, e, ⟨xs, hq⟩, q⟩ := q1
  subst e
  cases r1
  obtain ⟨its, rv, p, hz⟩ := I1.list hq
  refine wpAny_pyIter_list p.isList ?_
  refine ⟨s1.heap.objs.size, [s1.heap.objs.size], _, _, H1, rfl, I1.kept (t' := s1.toks) fun b o e => Heap.get?_push_of_some _ e, turn_list a _, ⟨_, Heap.get?_push_size _ rfl, rfl, rfl⟩, fun b hb => ?_, q⟩
  have e : b = s1.heap.objs.size := by simpa using hb
  subst e
  exact I1.fpOk (Nat.le_refl _) (I1.hok.fresh (Nat.le_refl _))
theorem pi_tup {l : Expr} {tl : TE} (hl : PE X l tl) : PI X tg l (iTup X.K tl) := by
  intro pins s σ H R I h
  refine thn (hl pins s σ H _ I h) fun v s1 ⟨x, H1, I1, r1, q1⟩ => ?_
  obtain ⟨a, e, ⟨xs, hq⟩, q⟩ := q1
  subst e
  cases r1
  obtain ⟨its, rv, p, hz⟩ := I1.tuple hq
  refine wpAny_pyIter_tuple (show s1.heap.IsTuple a its.toArray from p) ?_
  refine ⟨s1.heap.objs.size, [s1.heap.objs.size], _, _, H1, rfl, I1.kept (t' := s1.toks) fun b o e => Heap.get?_push_of_some _ e, turn_tuple a _, ⟨_, Heap.get?_push_size _ rfl, rfl, rfl⟩, fun b hb => ?_, q⟩
  have e : b = s1.heap.objs.size := by simpa using hb
  subst e
  exact I1.fpOk (Nat.le_refl _) (I1.hok.fresh (Nat.le_refl _))
/-- a range object just made, walked -/
theorem range_it {pins : List (Addr × Obj)} {σ : St} {H : Hp} {s : Shared} {R : It → Hp → Prop} {E : Value → Shared → Prop} {lo hi : Int} {t u v : Tok} {tk : Nat} (I : Inv X pins σ H s) (h1 : -(2 ^ 62) ≤ lo) (h2 : lo < 2 ^ 62) (h3 : -(2 ^ 62) ≤ hi) (h4 : hi < 2 ^ 62)
    (q : R (Itr lo (hi - lo).toNat) H) : wpAny (model X.prog X.w) X.A (pyIter (.ref s.heap.objs.size)) (PIE X pins σ tg R) E { s with heap := s.heap.push { cls := .type "range", data := .fields #[.int lo t, .int hi u, .int 1 v] }, toks := tk } := by
  refine wpAny_pyIter_range (IsRange.new ..) (small_one h1 h2 h3 h4) ?_
  have I1 : Inv X pins σ H { s with heap := s.heap.push { cls := .type "range", data := .fields #[.int lo t, .int hi u, .int 1 v] }, toks := tk } := I.kept fun b o e => Heap.get?_push_of_some _ e
  refine ⟨(s.heap.push { cls := .type "range", data := .fields #[.int lo t, .int hi u, .int 1 v] }).objs.size, [(s.heap.push { cls := .type "range", data := .fields #[.int lo t, .int hi u, .int 1 v] }).objs.size], _, _, H, rfl,
    I1.kept (t' := tk) fun b o e => Heap.get?_push_of_some _ e, turn_range _ lo (hi - lo).toNat, ?_, fun b hb => ?_, q⟩
  · have e1 : lo + ((0 : Nat) : Int) * 1 = lo := by simp
    have e2 : (((hi - lo).toNat : Nat) : Int) - ((0 : Nat) : Int) = Builtin.Range.rangeSize lo hi 1 := by rw [rangeSize_one]; split <;> omega
    show IsRangeIter _ _ (lo + ((0 : Nat) : Int) * 1) ((((hi - lo).toNat : Nat) : Int) - ((0 : Nat) : Int)) 1
    rw [e1, e2]
    exact Heap.get?_push_size _ rfl
  · have e : b = (s.heap.push { cls := .type "range", data := .fields #[.int lo t, .int hi u, .int 1 v] }).objs.size := by simpa using hb
    subst e
    exact I1.fpOk (Nat.le_refl _) (I1.hok.fresh (Nat.le_refl _))
def iRng1 (ta : TA) : TI := fun σ H R => ta σ H fun vs H1 => ∃ j : Int, vs = [.int j] ∧ -(2 ^ 62) ≤ j ∧ j < 2 ^ 62 ∧ R (Itr 0 j.toNat) H1
def iRng2 (ta : TA) : TI := fun σ H R => ta σ H fun vs H1 => ∃ i j : Int, vs = [.int i, .int j] ∧ (-(2 ^ 62) ≤ i ∧ i < 2 ^ 62 ∧ -(2 ^ 62) ≤ j ∧ j < 2 ^ 62) ∧ R (Itr i (j - i).toNat) H1
theorem pi_range1 {a : Expr} {ta : TA} {p pos : Pos} (hg : Gl X "range") (hm : X.mg "range" = none) (ha : PA X [a] ta) (hs : starEach [a] X.env = [(false, eval a X.env)] := by rfl) : PI X tg (.Call (.Name "range" p) [a] [] pos) (iRng1 ta) := by
  intro pins s σ H R I h
  refine Call_ (ld_blt I hg hm boot_range (PyProof.Rows.callWith_type1 (thn (ha pos pins s σ H _ I h) fun us s1 ⟨vs, H1, I1, r1, q1⟩ => ?_) hs rfl))
  obtain ⟨j, e, q1, q2, q⟩ := q1
  subst e
  cases r1 with
  | cons r rr =>
    cases rr
    obtain ⟨t, rfl⟩ := r
    exact call_range_1 (range_it I1 (by omega) (by omega) q1 q2 (by simpa using q))
theorem pi_range2 {a b : Expr} {ta : TA} {p pos : Pos} (hg : Gl X "range") (hm : X.mg "range" = none) (ha : PA X [a, b] ta) (hs : starEach [a, b] X.env = [(false, eval a X.env), (false, eval b X.env)] := by rfl) (hs2 : starEach [b] X.env = [(false, eval b X.env)] := by rfl) :
    PI X tg (.Call (.Name "range" p) [a, b] [] pos) (iRng2 ta) := by
  intro pins s σ H R I h
  refine Call_ (ld_blt I hg hm boot_range (PyProof.Rows.callWith_type1 (thn (ha pos pins s σ H _ I h) fun us s1 ⟨vs, H1, I1, r1, q1⟩ => ?_) (by rw [hs, hs2]) (by rw [hs2]; rfl)))
  obtain ⟨i, j, e, ⟨q1, q2, q3, q4⟩, q⟩ := q1
  subst e
  cases r1 with
  | cons r rr =>
    cases rr with
    | cons r' rr =>
      cases rr
      obtain ⟨t, rfl⟩ := r
      obtain ⟨t', rfl⟩ := r'
      exact call_range_2 (range_it I1 q1 q2 q3 q4 q)

/-! ### for -/
/-- W: the invariant by the turn and a measure; N: what the body is to reach -/
def tFor (wi : TI) (g : TG) (tb : TS) : TS := fun D σ H => wi σ H fun J H1 => ∃ W : Nat → Nat → St → Hp → Prop, (∃ m, W 0 m σ H1) ∧ ∀ i m σ H, W i m σ H →
  (J.stop i H ∧ D.nx σ H) ∨ (J.go i H ∧ ∃ N : St → Hp → Prop, (∀ σ' H', N σ' H' → ∃ m', m' < m ∧ W (i + 1) m' σ' H') ∧ ∀ x H', J.yld i H x H' → g x σ H' fun σ2 H2 => tb { D with nx := N, ct := N, bk := D.nx } σ2 H2)
/-- the records at fp as they stand -/
def pinsAt (fp : List Addr) (h : Heap) : List (Addr × Obj) := fp.filterMap fun b => (h.get? b).map fun o => (b, o)
theorem mem_pinsAt {fp : List Addr} {h : Heap} {b : Addr} {o : Obj} (hb : b ∈ fp) (e : h.get? b = some o) : (b, o) ∈ pinsAt fp h := List.mem_filterMap.mpr ⟨b, hb, by rw [e]; rfl⟩
theorem of_pinsAt {fp : List Addr} {h : Heap} {p : Addr × Obj} (hp : p ∈ pinsAt fp h) : p.1 ∈ fp ∧ h.get? p.1 = some p.2 := by
  obtain ⟨b, hb, e⟩ := List.mem_filterMap.mp hp
  cases q : h.get? b with
  | none => rw [q] at e; cases e
  | some o =>
    rw [q] at e
    have e' : (b, o) = p := Option.some.inj e
    subst e'
    exact ⟨hb, q⟩
theorem Inv.pinned {pins : List (Addr × Obj)} {σ : St} {H : Hp} {s : Shared} {fp : List Addr} (I : Inv X pins σ H s) (hf : ∀ b ∈ fp, FpOk X pins H b) (ho : ∀ b ∈ fp, ∃ o, s.heap.get? b = some o ∧ ∀ v, o.data ≠ .cell v) : Inv X (pins ++ pinsAt fp s.heap) σ H s :=
  I.pins_of fun p hp => (List.mem_append.mp hp).elim (fun z => I.pin p (List.mem_append_right _ z)) fun z => by
    obtain ⟨hb, e⟩ := of_pinsAt z
    obtain ⟨f0, f1, f2, _⟩ := hf p.1 hb
    obtain ⟨o, e', d⟩ := ho p.1 hb
    rw [e] at e'; cases e'
    exact ⟨e, f0, f1, f2, d⟩
theorem Inv.unpinned {pins pl : List (Addr × Obj)} {σ : St} {H : Hp} {s : Shared} (I : Inv X (pins ++ pl) σ H s) : Inv X pins σ H s := I.pins_of fun p hp => I.pin p (List.mem_append_right _ (List.mem_append_left _ hp))
theorem ps_for {iter : Expr} {body : List Stmt} {wi : TI} {g : TG} {tb : TS} {pos : Pos} (hp : PassesOwn (model X.prog X.w) X.A X.env X.xe) (hc : X.calm = true) (hi : PI X tg iter wi) (hg : PG X tg g) (hb : PSs X body tb)
    (hs : ∀ x, foldedSetIterable iter X.env x = pure x := by intro _; rfl) : PS X (.For tg iter body [] pos) (tFor wi g tb) := by
  intro pins s σ H D I h
  refine wpAny_For (thn (hi pins s σ H _ I h) fun v s1 h1 => thn h1 fun itv s2 h2 => ?_) hs
  obtain ⟨it, fp, tn, J, H2, e, I2, T, st2, f2, W, ⟨m0, w0⟩, turn⟩ := h2
  subst e
  -- what stays true of the iterator's objects through the loop
  have stat : ∀ {H' : Hp}, (∀ b ∈ fp, H' b = none) → ∀ b ∈ fp, FpOk X pins H' b := fun hn b hb => ⟨hn b hb, (f2 b hb).2⟩
  refine codeAny_forLoop_any (fun n s' => ∃ i σ' H', Inv X pins σ' H' s' ∧ tn i s'.heap ∧ (∀ b ∈ fp, H' b = none) ∧ W i n σ' H') ?_ m0 ⟨0, σ, H2, I2, st2, fun b hb => (f2 b hb).1, w0⟩
  rintro n s3 ⟨i, σ3, H3, I3, st3, fr3, w3⟩
  rcases turn i n σ3 H3 w3 with ⟨stop, qn⟩ | ⟨go, N, hN, step⟩
  · refine wpAny_passesOwn hp (thn (T.done X rfl rfl rfl hc i pins s3 σ3 H3 X.xe I3 (stat fr3) st3 stop) fun r s4 ⟨hr, I4⟩ => ?_)
    subst hr
    exact wpAny_execs_nil ⟨σ3, H3, I4, qn⟩
  · refine wpAny_passesOwn hp (thn (T.item X rfl rfl rfl hc i pins s3 σ3 H3 X.xe I3 (stat fr3) st3 go) fun r s4 ⟨u, hr, h4⟩ => ?_)
    subst hr
    refine wpAny_passesOwn hp (thn h4 fun _ s5 ⟨x, H5, I5, r5, y5, st5, fr5⟩ => ?_)
    have I5' := I5.pinned (stat fr5) (T.obj _ _ st5)
    refine wpAny_passesOwn hp (thn (hg _ s5 σ3 H5 x u _ I5' r5 (step x H5 y5)) fun _ s6 ⟨σ6, H6, I6, q6⟩ => ?_)
    refine wpAny_passesOwn hp (thn (hb _ s6 σ6 H6 _ I6 q6) fun f s7 q7 => ?_)
    have again : ∀ {σ7 : St} {H7 : Hp}, Inv X (pins ++ pinsAt fp s5.heap) σ7 H7 s7 → N σ7 H7 → ∃ m, m < n ∧ ∃ i σ' H', Inv X pins σ' H' s7 ∧ tn i s7.heap ∧ (∀ b ∈ fp, H' b = none) ∧ W i m σ' H' := fun {σ7 H7} I7 n7 => by
      obtain ⟨m', hm, w7⟩ := hN σ7 H7 n7
      refine ⟨m', hm, i + 1, σ7, H7, I7.unpinned, T.keep _ _ _ st5 fun b hb o e => (I7.pin (b, o) (List.mem_append_right _ (List.mem_append_right _ (mem_pinsAt hb e)))).1, fun b hb => ?_, w7⟩
      obtain ⟨o, e, d⟩ := T.obj _ _ st5 b hb
      exact (I7.pin (b, o) (List.mem_append_right _ (List.mem_append_right _ (mem_pinsAt hb e)))).2.1
    cases f with
    | next => obtain ⟨σ7, H7, I7, n7⟩ := q7; exact again I7 n7
    | cont => obtain ⟨σ7, H7, I7, n7⟩ := q7; exact again I7 n7
    | brk => obtain ⟨σ7, H7, I7, q7⟩ := q7; exact ⟨σ7, H7, I7.unpinned, q7⟩
    | ret v => obtain ⟨x7, σ7, H7, I7, r7, q7⟩ := q7; exact ⟨x7, σ7, H7, I7.unpinned, r7, q7⟩
end

/-! ### the forms one uses -/
/-- over a list that the body leaves as it is -/
theorem for_list {K : PySem.W.Frag} {a : Addr} {xs : List V} {g : TG} {tb : TS} {D : Ends} {σ : St} {H : Hp} (Pv : Nat → St → Hp → Prop) (h0 : Pv 0 σ H) (hl : ∀ i σ H, i ≤ xs.length → Pv i σ H → SqL K H a xs)
    (hs : ∀ i x σ H, xs[i]? = some x → Pv i σ H → g x σ H fun σ2 H2 => tb { D with nx := Pv (i + 1), ct := Pv (i + 1), bk := D.nx } σ2 H2) (hd : ∀ σ H, Pv xs.length σ H → D.nx σ H) :
    ∃ W : Nat → Nat → St → Hp → Prop, (∃ m, W 0 m σ H) ∧ ∀ i m σ H, W i m σ H →
      ((Itl K a).stop i H ∧ D.nx σ H) ∨ ((Itl K a).go i H ∧ ∃ N : St → Hp → Prop, (∀ σ' H', N σ' H' → ∃ m', m' < m ∧ W (i + 1) m' σ' H') ∧ ∀ x H', (Itl K a).yld i H x H' → g x σ H' fun σ2 H2 => tb { D with nx := N, ct := N, bk := D.nx } σ2 H2) := by
  refine ⟨fun i m σ H => m = xs.length - i ∧ i ≤ xs.length ∧ Pv i σ H, ⟨xs.length, by simp, Nat.zero_le _, h0⟩, ?_⟩
  rintro i m σ H ⟨rfl, hi, p⟩
  have q := hl i σ H hi p
  by_cases hlt : i < xs.length
  · refine .inr ⟨⟨xs, xs[i], q, by simp [hlt]⟩, Pv (i + 1), fun σ' H' p' => ⟨xs.length - (i + 1), by omega, rfl, hlt, p'⟩, fun x H' y => ?_⟩
    obtain ⟨e, y⟩ := y
    subst e
    exact hs i x σ _ (y xs q) p
  · have e : i = xs.length := by omega
    subst e
    exact .inl ⟨⟨xs, q, Nat.le_refl _⟩, hd σ H p⟩
theorem for_tup {K : PySem.W.Frag} {a : Addr} {xs : List V} {g : TG} {tb : TS} {D : Ends} {σ : St} {H : Hp} (Pv : Nat → St → Hp → Prop) (h0 : Pv 0 σ H) (hl : ∀ i σ H, i ≤ xs.length → Pv i σ H → SqT K H a xs)
    (hs : ∀ i x σ H, xs[i]? = some x → Pv i σ H → g x σ H fun σ2 H2 => tb { D with nx := Pv (i + 1), ct := Pv (i + 1), bk := D.nx } σ2 H2) (hd : ∀ σ H, Pv xs.length σ H → D.nx σ H) :
    ∃ W : Nat → Nat → St → Hp → Prop, (∃ m, W 0 m σ H) ∧ ∀ i m σ H, W i m σ H →
      ((Itt K a).stop i H ∧ D.nx σ H) ∨ ((Itt K a).go i H ∧ ∃ N : St → Hp → Prop, (∀ σ' H', N σ' H' → ∃ m', m' < m ∧ W (i + 1) m' σ' H') ∧ ∀ x H', (Itt K a).yld i H x H' → g x σ H' fun σ2 H2 => tb { D with nx := N, ct := N, bk := D.nx } σ2 H2) := by
  refine ⟨fun i m σ H => m = xs.length - i ∧ i ≤ xs.length ∧ Pv i σ H, ⟨xs.length, by simp, Nat.zero_le _, h0⟩, ?_⟩
  rintro i m σ H ⟨rfl, hi, p⟩
  have q := hl i σ H hi p
  by_cases hlt : i < xs.length
  · refine .inr ⟨⟨xs, xs[i], q, by simp [hlt]⟩, Pv (i + 1), fun σ' H' p' => ⟨xs.length - (i + 1), by omega, rfl, hlt, p'⟩, fun x H' y => ?_⟩
    obtain ⟨e, y⟩ := y
    subst e
    exact hs i x σ _ (y xs q) p
  · have e : i = xs.length := by omega
    subst e
    exact .inl ⟨⟨xs, q, Nat.le_refl _⟩, hd σ H p⟩
theorem for_range {lo : Int} {n : Nat} {g : TG} {tb : TS} {D : Ends} {σ : St} {H : Hp} (Pv : Nat → St → Hp → Prop) (h0 : Pv 0 σ H)
    (hs : ∀ i σ H, i < n → Pv i σ H → g (.int (lo + i)) σ H fun σ2 H2 => tb { D with nx := Pv (i + 1), ct := Pv (i + 1), bk := D.nx } σ2 H2) (hd : ∀ σ H, Pv n σ H → D.nx σ H) :
    ∃ W : Nat → Nat → St → Hp → Prop, (∃ m, W 0 m σ H) ∧ ∀ i m σ H, W i m σ H →
      ((Itr lo n).stop i H ∧ D.nx σ H) ∨ ((Itr lo n).go i H ∧ ∃ N : St → Hp → Prop, (∀ σ' H', N σ' H' → ∃ m', m' < m ∧ W (i + 1) m' σ' H') ∧ ∀ x H', (Itr lo n).yld i H x H' → g x σ H' fun σ2 H2 => tb { D with nx := N, ct := N, bk := D.nx } σ2 H2) := by
  refine ⟨fun i m σ H => m = n - i ∧ i ≤ n ∧ Pv i σ H, ⟨n, by simp, Nat.zero_le _, h0⟩, ?_⟩
  rintro i m σ H ⟨rfl, hi, p⟩
  by_cases hlt : i < n
  · refine .inr ⟨hlt, Pv (i + 1), fun σ' H' p' => ⟨n - (i + 1), by omega, rfl, hlt, p'⟩, fun x H' y => ?_⟩
    obtain ⟨e, y⟩ := y
    subst e y
    exact hs i σ _ hlt p
  · have e : i = n := by omega
    subst e
    exact .inl ⟨Nat.le_refl _, hd σ H p⟩
/-- while, by a word and a measure of the state -/
theorem while_by {c : TT} {tb : TS} {D : Ends} {σ : St} {H : Hp} (Pv : St → Hp → Prop) (μ : St → Hp → Nat) (h0 : Pv σ H)
    (hs : ∀ σ H, Pv σ H → c σ H fun b H1 => if b = true then tb { D with nx := fun σ' H' => Pv σ' H' ∧ μ σ' H' < μ σ H, ct := fun σ' H' => Pv σ' H' ∧ μ σ' H' < μ σ H, bk := D.nx } σ H1 else D.nx σ H1)
    (mono : ∀ σ H Q Q', (∀ b H1, Q b H1 → Q' b H1) → c σ H Q → c σ H Q') : tWhile c tb D σ H := by
  refine ⟨fun m σ H => m = μ σ H ∧ Pv σ H, ⟨_, rfl, h0⟩, ?_⟩
  rintro m σ H ⟨rfl, p⟩
  refine mono σ H _ _ (fun b H1 q => ?_) (hs σ H p)
  cases b with
  | true => exact ⟨_, fun σ' H' ⟨p', l⟩ => ⟨_, l, rfl, p'⟩, q⟩
  | false => exact q
end L2

namespace L2
open PySem PySem.Spec PyProof.Rows

abbrev R2 := V → V → Hp → VK → Prop
/-- a two-place operation on values: f is binaryOp op, inplaceOp op or compareOp op -/
def OpR (X : Cx) (f : Value → Value → Sem Value) (r : R2) : Prop :=
  ∀ (pins : List (Addr × Obj)) (s : Shared) (σ : St) (H : Hp) (x y : V) (v u : Value) (Q : VK), Inv X pins σ H s → RelV x v → RelV y u → r x y H Q →
    wpAny (model X.prog X.w) X.A (f v u) (EP X pins σ Q) X.xe s
/-- a one-place operation -/
def UnR (X : Cx) (f : Value → Sem Value) (r : V → Hp → VK → Prop) : Prop :=
  ∀ (pins : List (Addr × Obj)) (s : Shared) (σ : St) (H : Hp) (x : V) (v : Value) (Q : VK), Inv X pins σ H s → RelV x v → r x H Q →
    wpAny (model X.prog X.w) X.A (f v) (EP X pins σ Q) X.xe s
/-- a call of a value that is known (a builtin, a type) with values -/
def CallR (X : Cx) (f : Value) (r : List V → Hp → VK → Prop) : Prop :=
  ∀ (pins : List (Addr × Obj)) (s : Shared) (σ : St) (H : Hp) (xs : List V) (us : List Value) (Q : VK), Inv X pins σ H s → Vals xs us → r xs H Q →
    wpAny (model X.prog X.w) X.A (call f us) (EP X pins σ Q) X.xe s
/-- a value's truth -/
def TruR (X : Cx) (r : V → Hp → (Bool → Hp → Prop) → Prop) : Prop :=
  ∀ (pins : List (Addr × Obj)) (s : Shared) (σ : St) (H : Hp) (x : V) (v : Value) (Q : Bool → Hp → Prop), Inv X pins σ H s → RelV x v → r x H Q →
    wpAny (model X.prog X.w) X.A (truthy v) (TP X pins σ Q) X.xe s

def tOp (r : R2) (ta tb : TE) : TE := fun σ H Q => ta σ H fun x H1 => tb σ H1 fun y H2 => r x y H2 Q
def tUn (r : V → Hp → VK → Prop) (ta : TE) : TE := fun σ H Q => ta σ H fun x H1 => r x H1 Q
/-- ints in, under C, and a value out -/
def rI (C : Int → Int → Prop) (g : Int → Int → V) : R2 := fun x y H Q => ∃ i j, x = .int i ∧ y = .int j ∧ C i j ∧ Q (g i j) H
def rI0 (g : Int → Int → V) : R2 := fun x y H Q => ∃ i j, x = .int i ∧ y = .int j ∧ Q (g i j) H
def rU (g : Int → V) : V → Hp → VK → Prop := fun x H Q => ∃ i, x = .int i ∧ Q (g i) H

section
variable {X : Cx} {a b c : Expr} {ta tb tc : TE} {pos : Pos}

theorem binT (ha : PE X a ta) (hb : PE X b tb) {pins : List (Addr × Obj)} {s : Shared} {σ : St} {H : Hp} {R : V → V → Hp → Prop} (I : Inv X pins σ H s)
    (h : ta σ H fun x H1 => tb σ H1 fun y H2 => R x y H2) {Q : Value → Shared → Prop} {f : Value → Value → Sem Value}
    (hf : ∀ v u s2 x y H2, Inv X pins σ H2 s2 → RelV x v → RelV y u → R x y H2 → wpAny (model X.prog X.w) X.A (f v u) Q X.xe s2) :
    wpAny (model X.prog X.w) X.A (eval a X.env) (fun v s₁ => wpAny (model X.prog X.w) X.A (eval b X.env) (fun u s₂ => wpAny (model X.prog X.w) X.A (f v u) Q X.xe s₂) X.xe s₁) X.xe s := by
  refine thn (ha pins s σ H _ I h) fun v s1 ⟨x, H1, I1, r1, q1⟩ => ?_
  refine thn (hb pins s1 σ H1 _ I1 q1) fun u s2 ⟨y, H2, I2, r2, q2⟩ => ?_
  exact hf v u s2 x y H2 I2 r1 r2 q2

theorem pe_op {op : Operator} {r : R2} (ho : OpR X (binaryOp op) r) (ha : PE X a ta) (hb : PE X b tb) : PE X (.BinOp a op b pos) (tOp r ta tb) := by
  intro pins s σ H Q I h
  exact wpAny_BinOp (binT ha hb I h fun v u s2 x y H2 I2 rx ry q => ho pins s2 σ H2 x y v u Q I2 rx ry q)
theorem pe_un {op : UnaryOp} {r : V → Hp → VK → Prop} (ho : UnR X (unaryOp op) r) (ha : PE X a ta) : PE X (.UnaryOp op a pos) (tUn r ta) := by
  intro pins s σ H Q I h
  exact UnaryOp_ (thn (ha pins s σ H _ I h) fun v s1 ⟨x, H1, I1, r1, q1⟩ => ho pins s1 σ H1 x v Q I1 r1 q1)
/-- a op= e at a name: the name's slot i -/
theorem augR {op : Operator} {r : R2} (ho : OpR X (inplaceOp op) r) {pins : List (Addr × Obj)} {s : Shared} {σ : St} {H : Hp} {x y : V} {v u : Value} {Q : VK} (I : Inv X pins σ H s)
    (rx : RelV x v) (ry : RelV y u) (q : r x y H Q) : wpAny (model X.prog X.w) X.A (inplaceOp op v u) (EP X pins σ Q) X.xe s := ho pins s σ H x y v u Q I rx ry q

/-! ### ints -/
theorem opI {f : Value → Value → Sem Value} {C : Int → Int → Prop} {g : Int → Int → Int}
    (rule : ∀ (i j : Int) (t u : Tok) (s : Shared) (Q : Value → Shared → Prop) (E : Value → Shared → Prop), C i j → Q (.int (g i j) s.toks) { s with toks := s.toks + 1 } → wpAny (model X.prog X.w) X.A (f (.int i t) (.int j u)) Q E s) :
    OpR X f (rI C fun i j => .int (g i j)) := by
  intro pins s σ H x y v u Q I rx ry h
  obtain ⟨i, j, rfl, rfl, hc, q⟩ := h
  obtain ⟨t, rfl⟩ := rx
  obtain ⟨t', rfl⟩ := ry
  exact rule i j t t' s _ _ hc ⟨.int (g i j), H, I.tok _, ⟨_, rfl⟩, q⟩
theorem opI0 {f : Value → Value → Sem Value} {g : Int → Int → Int}
    (rule : ∀ (i j : Int) (t u : Tok) (s : Shared) (Q : Value → Shared → Prop) (E : Value → Shared → Prop), Q (.int (g i j) s.toks) { s with toks := s.toks + 1 } → wpAny (model X.prog X.w) X.A (f (.int i t) (.int j u)) Q E s) :
    OpR X f (rI0 fun i j => .int (g i j)) := by
  intro pins s σ H x y v u Q I rx ry h
  obtain ⟨i, j, rfl, rfl, q⟩ := h
  obtain ⟨t, rfl⟩ := rx
  obtain ⟨t', rfl⟩ := ry
  exact rule i j t t' s _ _ ⟨.int (g i j), H, I.tok _, ⟨_, rfl⟩, q⟩
theorem opB0 {f : Value → Value → Sem Value} {g : Int → Int → Bool}
    (rule : ∀ (i j : Int) (t u : Tok) (s : Shared) (Q : Value → Shared → Prop) (E : Value → Shared → Prop), Q (.bool (g i j)) s → wpAny (model X.prog X.w) X.A (f (.int i t) (.int j u)) Q E s) :
    OpR X f (rI0 fun i j => .bl (g i j)) := by
  intro pins s σ H x y v u Q I rx ry h
  obtain ⟨i, j, rfl, rfl, q⟩ := h
  obtain ⟨t, rfl⟩ := rx
  obtain ⟨t', rfl⟩ := ry
  exact rule i j t t' s _ _ ⟨.bl (g i j), H, I, rfl, q⟩

def CDiv (i j : Int) : Prop := 0 < j ∧ j < 1073741824
def CDivN (i j : Int) : Prop := j ≠ 0 ∧ j.natAbs < 1073741824
def CPow (i j : Int) : Prop := 0 ≤ j ∧ j ≤ 1000000 ∧ i.natAbs < 2 ^ 64
def CMul (i j : Int) : Prop := (-(2 ^ 64) < i ∧ i < 2 ^ 64) ∨ (-(2 ^ 64) < j ∧ j < 2 ^ 64)
theorem CMul.ok {i j : Int} (h : CMul i j) : IntMulOk i j := by
  rcases h with ⟨h1, h2⟩ | ⟨h1, h2⟩
  · exact .of_left (intBits_le_64 h1 h2)
  · exact .of_right (intBits_le_64 h1 h2)
theorem two_pow_nn (k : Nat) : (0 : Int) ≤ 2 ^ k := by
  rw [two_pow_cast]
  exact Int.natCast_nonneg _

theorem op_add : OpR X (binaryOp .Add) (rI0 fun i j => .int (i + j)) := opI0 fun _ _ _ _ _ _ _ q => add_int q
theorem op_sub : OpR X (binaryOp .Sub) (rI0 fun i j => .int (i - j)) := opI0 fun _ _ _ _ _ _ _ q => sub_int q
theorem op_mul : OpR X (binaryOp .Mult) (rI CMul fun i j => .int (i * j)) := opI fun _ _ _ _ _ _ _ hc q => mul_int q hc.ok
/-- // by a positive divisor -/
theorem op_fdiv : OpR X (binaryOp .FloorDiv) (rI CDiv fun i j => .int (i / j)) := opI fun i j _ _ _ _ _ hc q => by
  have h1 : (0 : Int) < j := hc.1
  have h2 : j < 1073741824 := hc.2
  exact floordiv_int (by omega) (by rw [Int.fdiv_eq_ediv_of_nonneg i (by omega)]; exact q) (.inl (PyProof.noPylong_small (by omega)))
theorem op_fdivN : OpR X (binaryOp .FloorDiv) (rI CDivN fun i j => .int (i.fdiv j)) := opI fun _ _ _ _ _ _ _ hc q => floordiv_int hc.1 q (.inl (PyProof.noPylong_small hc.2))
/-- % by a positive divisor of any size -/
theorem op_mod : OpR X (binaryOp .Mod) (rI (fun _ j => 0 < j) fun i j => .int (i % j)) := opI fun i j _ _ _ _ _ hc q => by
  have h1 : (0 : Int) < j := hc
  exact mod_int' (by omega) (by rw [Int.fmod_eq_emod_of_nonneg i (by omega)]; exact q)
theorem op_modN : OpR X (binaryOp .Mod) (rI (fun _ j => j ≠ 0) fun i j => .int (i.fmod j)) := opI fun _ _ _ _ _ _ _ hc q => mod_int' hc q
theorem op_pow : OpR X (binaryOp .Pow) (rI CPow fun i j => .int (i ^ j.toNat)) := opI fun _ _ _ _ _ _ _ hc q => pow_int_small hc.1 hc.2.1 hc.2.2 q
theorem op_shl : OpR X (binaryOp .LShift) (rI CPow fun i j => .int (i * 2 ^ j.toNat)) := opI fun _ _ _ _ _ _ _ hc q => lshift_int_small hc.1 hc.2.1 hc.2.2 q
theorem op_shr : OpR X (binaryOp .RShift) (rI (fun _ j => 0 ≤ j) fun i j => .int (i / 2 ^ j.toNat)) := opI fun i j _ _ _ _ _ hc q =>
  rshift_int hc (by rw [Int.fdiv_eq_ediv_of_nonneg i (two_pow_nn _)]; exact q)
theorem op_and : OpR X (binaryOp .BitAnd) (rI0 fun i j => .int (Builtin.bitAnd i j)) := opI0 fun _ _ _ _ _ _ _ q => and_int q
theorem op_or : OpR X (binaryOp .BitOr) (rI0 fun i j => .int (Builtin.bitOr i j)) := opI0 fun _ _ _ _ _ _ _ q => or_int q
theorem op_xor : OpR X (binaryOp .BitXor) (rI0 fun i j => .int (Builtin.bitXor i j)) := opI0 fun _ _ _ _ _ _ _ q => xor_int q

theorem iop_add : OpR X (inplaceOp .Add) (rI0 fun i j => .int (i + j)) := opI0 fun _ _ _ _ _ _ _ q => iadd_int q
theorem iop_sub : OpR X (inplaceOp .Sub) (rI0 fun i j => .int (i - j)) := opI0 fun _ _ _ _ _ _ _ q => isub_int q
theorem iop_mul : OpR X (inplaceOp .Mult) (rI CMul fun i j => .int (i * j)) := opI fun _ _ _ _ _ _ _ hc q => imul_int q hc.ok
theorem iop_fdiv : OpR X (inplaceOp .FloorDiv) (rI CDiv fun i j => .int (i / j)) := opI fun i j _ _ _ _ _ hc q => by
  have h1 : (0 : Int) < j := hc.1
  have h2 : j < 1073741824 := hc.2
  exact ifloordiv_int (by omega) (by rw [Int.fdiv_eq_ediv_of_nonneg i (by omega)]; exact q) (.inl (PyProof.noPylong_small (by omega)))
theorem iop_mod : OpR X (inplaceOp .Mod) (rI (fun _ j => 0 < j) fun i j => .int (i % j)) := opI fun i j _ _ _ _ _ hc q => by
  have h1 : (0 : Int) < j := hc
  exact imod_int (by omega) (by rw [Int.fmod_eq_emod_of_nonneg i (by omega)]; exact q)
theorem iop_shl : OpR X (inplaceOp .LShift) (rI CPow fun i j => .int (i * 2 ^ j.toNat)) := opI fun _ _ _ _ _ _ _ hc q => ilshift_int_small hc.1 hc.2.1 hc.2.2 q
theorem iop_shr : OpR X (inplaceOp .RShift) (rI (fun _ j => 0 ≤ j) fun i j => .int (i / 2 ^ j.toNat)) := opI fun i j _ _ _ _ _ hc q =>
  irshift_int hc (by rw [Int.fdiv_eq_ediv_of_nonneg i (two_pow_nn _)]; exact q)
theorem iop_and : OpR X (inplaceOp .BitAnd) (rI0 fun i j => .int (Builtin.bitAnd i j)) := opI0 fun _ _ _ _ _ _ _ q => iand_int q
theorem iop_or : OpR X (inplaceOp .BitOr) (rI0 fun i j => .int (Builtin.bitOr i j)) := opI0 fun _ _ _ _ _ _ _ q => ior_int q
theorem iop_xor : OpR X (inplaceOp .BitXor) (rI0 fun i j => .int (Builtin.bitXor i j)) := opI0 fun _ _ _ _ _ _ _ q => ixor_int q

theorem unI {f : Value → Sem Value} {g : Int → Int}
    (rule : ∀ (i : Int) (t : Tok) (s : Shared) (Q : Value → Shared → Prop) (E : Value → Shared → Prop), Q (.int (g i) s.toks) { s with toks := s.toks + 1 } → wpAny (model X.prog X.w) X.A (f (.int i t)) Q E s) :
    UnR X f (rU fun i => .int (g i)) := by
  intro pins s σ H x v Q I rx h
  obtain ⟨i, rfl, q⟩ := h
  obtain ⟨t, rfl⟩ := rx
  exact rule i t s _ _ ⟨.int (g i), H, I.tok _, ⟨_, rfl⟩, q⟩
theorem un_neg : UnR X (unaryOp .USub) (rU fun i => .int (-i)) := unI fun _ _ _ _ _ q => neg_int q
theorem un_inv : UnR X (unaryOp .Invert) (rU fun i => .int (Builtin.bitNot i)) := unI fun _ _ _ _ _ q => invert_int q

/-! ### bools among ints: n += (a < b) -/
theorem op_add_ib : OpR X (binaryOp .Add) (fun x y H Q => ∃ i k, x = .int i ∧ y = .bl k ∧ Q (.int (i + b2i k)) H) := by
  intro pins s σ H x y v u Q I rx ry h
  obtain ⟨i, k, rfl, rfl, q⟩ := h
  obtain ⟨t, rfl⟩ := rx
  cases ry
  exact add_int_bool ⟨.int (i + b2i k), H, I.tok _, ⟨_, rfl⟩, q⟩
end

/-! ### comparisons -/
/-- the scalars that == tells apart as data does -/
def scal : V → V → Bool
  | .non, .non => true | .non, .int _ => true | .int _, .non => true | .non, .bl _ => true | .bl _, .non => true | .non, .str _ => true | .str _, .non => true
  | .int _, .int _ => true | .bl _, .bl _ => true | .str _, .str _ => true | .byt _, .byt _ => true
  | .int _, .str _ => true | .str _, .int _ => true | .bl _, .str _ => true | .str _, .bl _ => true
  | _, _ => false
def rEq : R2 := fun x y H Q => scal x y = true ∧ Q (.bl (decide (x = y))) H
def rNe : R2 := fun x y H Q => scal x y = true ∧ Q (.bl (!decide (x = y))) H

theorem dec_int {i j : Int} : decide (V.int i = V.int j) = (i == j) := by
  rw [Bool.eq_iff_iff]
  simp
theorem dec_bl {i j : Bool} : decide (V.bl i = V.bl j) = (i == j) := by
  rw [Bool.eq_iff_iff]
  simp
theorem dec_str {i j : Str} : decide (V.str i = V.str j) = (i == j) := by
  rw [Bool.eq_iff_iff]
  simp
theorem dec_byt {i j : Array UInt8} : decide (V.byt i = V.byt j) = (i.toList == j.toList) := by
  rw [Bool.eq_iff_iff]
  cases i
  cases j
  simp

section
variable {X : Cx} {a b c : Expr} {ta tb tc : TE} {pos : Pos}
theorem fin_bl {pins : List (Addr × Obj)} {σ : St} {H : Hp} {s : Shared} {Q : VK} {k k' : Bool} (I : Inv X pins σ H s) (q : Q (.bl k) H) (e : k = k') : EP X pins σ Q (.bool k') s := by
  subst e
  exact ⟨.bl k, H, I, rfl, q⟩
theorem op_eq : OpR X (compareOp .Eq) rEq := by
  intro pins s σ H x y v u Q I rx ry h
  obtain ⟨hs, q⟩ := h
  cases x with
  | non =>
    cases rx
    cases y with
    | non => cases ry; exact PySem.EqNone.eq_none_none (fin_bl I q (by simp))
    | bl j => cases ry; exact PySem.EqNone.eq_none_bool (fin_bl I q (by simp))
    | int j => obtain ⟨t', rfl⟩ := ry; exact PySem.EqNone.eq_none_int (fin_bl I q (by simp))
    | str j => obtain ⟨t', rfl⟩ := ry; exact PySem.EqNone.eq_none_str (fin_bl I q (by simp))
    | _ => exact absurd (show false = true from hs) Bool.false_ne_true
  | bl i =>
    cases rx
    cases y with
    | non => cases ry; exact PySem.EqNone.eq_bool_none (fin_bl I q (by simp))
    | bl j => cases ry; exact eq_bool (fin_bl I q dec_bl)
    | str j => obtain ⟨t', rfl⟩ := ry; exact PySem.EqMixed.eq_bool_str (fin_bl I q (by simp))
    | _ => exact absurd (show false = true from hs) Bool.false_ne_true
  | int i =>
    obtain ⟨t, rfl⟩ := rx
    cases y with
    | non => cases ry; exact PySem.EqNone.eq_int_none (fin_bl I q (by simp))
    | int j => obtain ⟨t', rfl⟩ := ry; exact eq_int (fin_bl I q dec_int)
    | str j => obtain ⟨t', rfl⟩ := ry; exact PySem.EqMixed.eq_int_str (fin_bl I q (by simp))
    | _ => exact absurd (show false = true from hs) Bool.false_ne_true
  | str i =>
    obtain ⟨t, rfl⟩ := rx
    cases y with
    | non => cases ry; exact PySem.EqNone.eq_str_none (fin_bl I q (by simp))
    | bl j => cases ry; exact PySem.EqMixed.eq_str_bool (fin_bl I q (by simp))
    | int j => obtain ⟨t', rfl⟩ := ry; exact PySem.EqMixed.eq_str_int (fin_bl I q (by simp))
    | str j => obtain ⟨t', rfl⟩ := ry; exact eq_str (fin_bl I q dec_str)
    | _ => exact absurd (show false = true from hs) Bool.false_ne_true
  | byt i =>
    obtain ⟨t, rfl⟩ := rx
    cases y with
    | byt j => obtain ⟨t', rfl⟩ := ry; exact PySem.W.eq_bytes (fin_bl I q dec_byt)
    | _ => exact absurd (show false = true from hs) Bool.false_ne_true
  | _ => cases y <;> exact absurd (show false = true from hs) Bool.false_ne_true
theorem op_ne : OpR X (compareOp .NotEq) rNe := by
  intro pins s σ H x y v u Q I rx ry h
  obtain ⟨hs, q⟩ := h
  cases x with
  | non =>
    cases rx
    cases y with
    | non => cases ry; exact PySem.EqNone.ne_none_none (fin_bl I q (by simp))
    | bl j => cases ry; exact PySem.EqNone.ne_none_bool (fin_bl I q (by simp))
    | int j => obtain ⟨t', rfl⟩ := ry; exact PySem.EqNone.ne_none_int (fin_bl I q (by simp))
    | str j => obtain ⟨t', rfl⟩ := ry; exact PySem.EqNone.ne_none_str (fin_bl I q (by simp))
    | _ => exact absurd (show false = true from hs) Bool.false_ne_true
  | bl i =>
    cases rx
    cases y with
    | non => cases ry; exact PySem.EqNone.ne_bool_none (fin_bl I q (by simp))
    | bl j => cases ry; exact ne_bool (fin_bl I q (congrArg not dec_bl))
    | str j => obtain ⟨t', rfl⟩ := ry; exact PySem.EqMixed.ne_bool_str (fin_bl I q (by simp))
    | _ => exact absurd (show false = true from hs) Bool.false_ne_true
  | int i =>
    obtain ⟨t, rfl⟩ := rx
    cases y with
    | non => cases ry; exact PySem.EqNone.ne_int_none (fin_bl I q (by simp))
    | int j => obtain ⟨t', rfl⟩ := ry; exact ne_int (fin_bl I q (congrArg not dec_int))
    | str j => obtain ⟨t', rfl⟩ := ry; exact PySem.EqMixed.ne_int_str (fin_bl I q (by simp))
    | _ => exact absurd (show false = true from hs) Bool.false_ne_true
  | str i =>
    obtain ⟨t, rfl⟩ := rx
    cases y with
    | non => cases ry; exact PySem.EqNone.ne_str_none (fin_bl I q (by simp))
    | bl j => cases ry; exact PySem.EqMixed.ne_str_bool (fin_bl I q (by simp))
    | int j => obtain ⟨t', rfl⟩ := ry; exact PySem.EqMixed.ne_str_int (fin_bl I q (by simp))
    | str j => obtain ⟨t', rfl⟩ := ry; exact ne_str (fin_bl I q (congrArg not dec_str))
    | _ => exact absurd (show false = true from hs) Bool.false_ne_true
  | byt i =>
    obtain ⟨t, rfl⟩ := rx
    cases y with
    | byt j => obtain ⟨t', rfl⟩ := ry; exact PySem.W.ne_bytes (fin_bl I q (congrArg not dec_byt))
    | _ => exact absurd (show false = true from hs) Bool.false_ne_true
  | _ => cases y <;> exact absurd (show false = true from hs) Bool.false_ne_true

theorem op_lt : OpR X (compareOp .Lt) (rI0 fun i j => .bl (decide (i < j))) := opB0 fun _ _ _ _ _ _ _ q => lt_int q
theorem op_le : OpR X (compareOp .LtE) (rI0 fun i j => .bl (decide (i ≤ j))) := opB0 fun _ _ _ _ _ _ _ q => le_int q
theorem op_gt : OpR X (compareOp .Gt) (rI0 fun i j => .bl (decide (j < i))) := opB0 fun _ _ _ _ _ _ _ q => gt_int q
theorem op_ge : OpR X (compareOp .GtE) (rI0 fun i j => .bl (decide (j ≤ i))) := opB0 fun _ _ _ _ _ _ _ q => ge_int q
theorem op_lt_str : OpR X (compareOp .Lt) (fun x y H Q => ∃ i j, x = .str i ∧ y = .str j ∧ Q (.bl (decide (i.cps.toList < j.cps.toList))) H) := by
  intro pins s σ H x y v u Q I rx ry h
  obtain ⟨i, j, rfl, rfl, q⟩ := h
  obtain ⟨t, rfl⟩ := rx
  obtain ⟨t', rfl⟩ := ry
  exact lt_str (fin_bl I q rfl)
/-- the one string within the other -/
theorem op_in_str : OpR X (compareOp .In) (fun x y H Q => ∃ i j, x = .str i ∧ y = .str j ∧ Q (.bl (!(Builtin.Str.occurrences j i 0 j.length 1).isEmpty)) H) := by
  intro pins s σ H x y v u Q I rx ry h
  obtain ⟨i, j, rfl, rfl, q⟩ := h
  obtain ⟨t, rfl⟩ := rx
  obtain ⟨t', rfl⟩ := ry
  exact in_str (fin_bl I q rfl)

/-- is None, is not None: the right side a value none -/
theorem op_isN : OpR X (compareOp .Is) (fun x y H Q => y = .non ∧ Q (.bl (decide (x = .non))) H) := by
  intro pins s σ H x y v u Q I rx ry h
  obtain ⟨rfl, q⟩ := h
  cases ry
  refine is_none_gen (fin_bl I q ?_)
  cases x <;> first
    | (cases rx; rfl)
    | (obtain ⟨t, rfl⟩ := rx; rfl)
theorem op_notN : OpR X (compareOp .IsNot) (fun x y H Q => y = .non ∧ Q (.bl (!decide (x = .non))) H) := by
  intro pins s σ H x y v u Q I rx ry h
  obtain ⟨rfl, q⟩ := h
  cases ry
  refine isnot_none_gen (fin_bl I q ?_)
  cases x <;> first
    | (cases rx; rfl)
    | (obtain ⟨t, rfl⟩ := rx; rfl)

theorem op_notin_str : OpR X (compareOp .NotIn) (fun x y H Q => ∃ i j, x = .str i ∧ y = .str j ∧ Q (.bl (!(!(Builtin.Str.occurrences j i 0 j.length 1).isEmpty))) H) := by
  intro pins s σ H x y v u Q I rx ry h
  obtain ⟨i, j, rfl, rfl, q⟩ := h
  obtain ⟨t, rfl⟩ := rx
  obtain ⟨t', rfl⟩ := ry
  exact notIn_str (fin_bl I q rfl)
/-- is, is not of two objects that are tracked lists or instances -/
def isObj : HO → Bool
  | .lst _ => true
  | .ins _ _ _ => true
  | _ => false
theorem obj_there {pins : List (Addr × Obj)} {s : Shared} {σ : St} {H : Hp} {a : Addr} {o : HO} (I : Inv X pins σ H s) (h : H a = some o) (p : isObj o = true) : ∃ ob, s.heap.get? a = some ob ∧ ob.cls ≠ .type "tuple" := by
  cases o with
  | lst xs =>
    obtain ⟨_, its, n, _, e⟩ : xs.length ≤ sizeLine ∧ ∃ (its : List Value) (n : Nat), Vals xs its ∧ s.heap.get? a = some { cls := .type "list", data := .seq its.toArray n } := I.hok a _ h
    exact ⟨_, e, (by show Value.type "list" ≠ .type "tuple"; decide +kernel)⟩
  | ins C dx fs =>
    have x := I.hok a _ h
    obtain ⟨_, _, _, e, _⟩ := x
    exact ⟨_, e, (by show Value.ref C ≠ .type "tuple"; exact fun z => by cases z)⟩
  | _ => exact absurd (show false = true from p) Bool.false_ne_true
theorem op_is_ref : OpR X (compareOp .Is) (fun x y H Q => ∃ a b oa ob, x = .ref a ∧ y = .ref b ∧ H a = some oa ∧ isObj oa = true ∧ H b = some ob ∧ isObj ob = true ∧ Q (.bl (decide (a = b))) H) := by
  intro pins s σ H x y v u Q I rx ry h
  obtain ⟨a, b, oa, ob, rfl, rfl, ha, pa, hb, pb, q⟩ := h
  cases rx
  cases ry
  obtain ⟨o1, e1, n1⟩ := obj_there I ha pa
  obtain ⟨o2, e2, _⟩ := obj_there I hb pb
  by_cases z : a = b
  · subst z
    exact wpAny_is_ref_self (fin_bl I q (by simp))
  · exact wpAny_is_ref_other z e1 e2 n1 (fin_bl I q (by simp [z]))
theorem op_isnot_ref : OpR X (compareOp .IsNot) (fun x y H Q => ∃ a b oa ob, x = .ref a ∧ y = .ref b ∧ H a = some oa ∧ isObj oa = true ∧ H b = some ob ∧ isObj ob = true ∧ Q (.bl (!decide (a = b))) H) := by
  intro pins s σ H x y v u Q I rx ry h
  obtain ⟨a, b, oa, ob, rfl, rfl, ha, pa, hb, pb, q⟩ := h
  cases rx
  cases ry
  obtain ⟨o1, e1, n1⟩ := obj_there I ha pa
  obtain ⟨o2, e2, _⟩ := obj_there I hb pb
  by_cases z : a = b
  · subst z
    exact wpAny_isNot_ref_self (fin_bl I q (by simp))
  · exact wpAny_isNot_ref_other z e1 e2 n1 (fin_bl I q (by simp [z]))

/-- two rules for one operation: by cases -/
theorem OpR.or {f : Value → Value → Sem Value} {r r' : R2} (h : OpR X f r) (h' : OpR X f r') : OpR X f (fun x y H Q => r x y H Q ∨ r' x y H Q) := by
  intro pins s σ H x y v u Q I rx ry q
  rcases q with q | q
  · exact h pins s σ H x y v u Q I rx ry q
  · exact h' pins s σ H x y v u Q I rx ry q

theorem nomark (b : Expr) {op : CmpOp} (h : op ≠ .In := by decide) (h2 : op ≠ .NotIn := by decide) : behindInMarks op b = false := by
  have e1 : (op == CmpOp.In) = false := by cases op <;> first | rfl | exact absurd rfl h
  have e2 : (op == CmpOp.NotIn) = false := by cases op <;> first | rfl | exact absurd rfl h2
  cases b <;> simp [behindInMarks, e1, e2]
/-- a comparison as a value; hm: nomark b, or (for in, not in) by with_unfolding_all rfl -/
theorem pe_cmpR {op : CmpOp} {r : R2} (ho : OpR X (compareOp op) r) (ha : PE X a ta) (hb : PE X b tb) (hm : behindInMarks op b = false) : PE X (.Compare a [op] [b] pos) (tOp r ta tb) := by
  intro pins s σ H Q I h
  exact wpAny_Compare1 (binT ha hb I h fun v u s2 x y H2 I2 rx ry q => ho pins s2 σ H2 x y v u Q I2 rx ry q) hm
/-- a reading of a value as a test -/
def tTest (t : TE) : TT := fun σ H Q => t σ H fun x H' => ∃ k, x = .bl k ∧ Q k H'
theorem pt_cmpR {op : CmpOp} {r : R2} (ho : OpR X (compareOp op) r) (ha : PE X a ta) (hb : PE X b tb) (hm : behindInMarks op b = false) : PT X (.Compare a [op] [b] pos) (tTest (tOp r ta tb)) := by
  intro pins s σ H Q I h
  refine wpAny_isTrue_Compare1 (thn (ha pins s σ H _ I h) fun v s1 ⟨x, H1, I1, r1, q1⟩ => thn (hb pins s1 σ H1 _ I1 q1) fun u s2 ⟨y, H2, I2, r2, q2⟩ =>
    thn (ho pins s2 σ H2 x y v u _ I2 r1 r2 q2) fun c s3 ⟨z, H3, I3, r3, k, e, q3⟩ => ?_) hm
  subst e
  cases r3
  exact wpAny_truthy_bool ⟨H3, I3, q3⟩
/-- a op1 b op2 c -/
def tChain (r r' : R2) (ta tb tc : TE) : TE := fun σ H Q => ta σ H fun x H1 => tb σ H1 fun y H2 => r x y H2 fun z H3 => ∃ k, z = .bl k ∧
  (if k = true then tc σ H3 fun w' H4 => r' y w' H4 Q else Q (.bl false) H3)
theorem pe_chain {op op' : CmpOp} {r r' : R2} (ho : OpR X (compareOp op) r) (ho' : OpR X (compareOp op') r') (ha : PE X a ta) (hb : PE X b tb) (hc : PE X c tc)
    (hm : lastMarks [op, op'] [b, c] = false := by with_unfolding_all rfl) : PE X (.Compare a [op, op'] [b, c] pos) (tChain r r' ta tb tc) := by
  intro pins s σ H Q I h
  refine Compare_chain (thn (ha pins s σ H _ I h) fun v s1 ⟨x, H1, I1, r1, q1⟩ => chain_link (thn (hb pins s1 σ H1 _ I1 q1) fun u s2 ⟨y, H2, I2, r2, q2⟩ =>
    thn (ho pins s2 σ H2 x y v u _ I2 r1 r2 q2) fun d s3 ⟨z, H3, I3, r3, k, e, q3⟩ => ?_)) hm
  subst e
  cases r3
  refine wpAny_truthy_bool ?_
  cases k with
  | false => exact ite_ff ⟨.bl false, H3, I3, rfl, q3⟩
  | true => exact ite_tt (chain_last (thn (hc pins s3 σ H3 _ I3 q3) fun w' s4 ⟨z', H4, I4, r4, q4⟩ => ho' pins s4 σ H4 y z' u w' Q I4 r2 r4 q4))
theorem pt_chain {op op' : CmpOp} {r r' : R2} (ho : OpR X (compareOp op) r) (ho' : OpR X (compareOp op') r') (ha : PE X a ta) (hb : PE X b tb) (hc : PE X c tc)
    (hm : lastMarks [op, op'] [b, c] = false := by with_unfolding_all rfl) : PT X (.Compare a [op, op'] [b, c] pos) (tTest (tChain r r' ta tb tc)) := by
  intro pins s σ H Q I h
  refine isTrue_chain (thn (ha pins s σ H _ I h) fun v s1 ⟨x, H1, I1, r1, q1⟩ => test_link (thn (hb pins s1 σ H1 _ I1 q1) fun u s2 ⟨y, H2, I2, r2, q2⟩ =>
    thn (ho pins s2 σ H2 x y v u _ I2 r1 r2 q2) fun d s3 ⟨z, H3, I3, r3, k, e, q3⟩ => ?_)) hm
  subst e
  cases r3
  refine wpAny_truthy_bool ?_
  cases k with
  | false =>
    obtain ⟨k', e', q'⟩ := q3
    cases e'
    exact ite_ff ⟨H3, I3, q'⟩
  | true =>
    refine ite_tt (test_last (thn (hc pins s3 σ H3 _ I3 q3) fun w' s4 ⟨z', H4, I4, r4, q4⟩ => thn (ho' pins s4 σ H4 y z' u w' _ I4 r2 r4 q4) fun d' s5 ⟨z2, H5, I5, r5, k2, e2, q5⟩ => ?_))
    subst e2
    cases r5
    exact wpAny_truthy_bool ⟨H5, I5, q5⟩

/-! ### truth -/
/-- a value's truth by the abstract heap -/
def TruV (K : PySem.W.Frag) (x : V) (H : Hp) (k : Bool) : Prop :=
  match x with
  | .non => k = false
  | .bl b => k = b
  | .int i => k = (i != 0)
  | .str y => y.length ≤ sizeLine ∧ k = ((y.length : Int) != 0)
  | .byt y => y.size ≤ sizeLine ∧ k = ((y.size : Int) != 0)
  | .ref p => (∃ xs, SqL K H p xs ∧ k = !xs.isEmpty) ∨ (∃ xs, SqT K H p xs ∧ k = !xs.isEmpty) ∨ ∃ kvs, H p = some (.dK kvs) ∧ k = !kvs.isEmpty
  | _ => False
theorem isEmpty_kv {κ : Type} {kvs : List (κ × V)} {vs : List (κ × Value)} (r : KV kvs vs) : (!vs.isEmpty) = !kvs.isEmpty := by
  cases r <;> rfl
theorem isEmpty_of {xs : List V} {its : List Value} (r : Vals xs its) : (!its.toArray.isEmpty) = !xs.isEmpty := by
  cases r <;> simp
theorem line63 : (sizeLine : Nat) < 2 ^ 63 := by rw [sizeLine_eq]; decide
theorem tru_ok : TruR X (fun x H Q => ∃ k, TruV X.K x H k ∧ Q k H) := by
  intro pins s σ H x v Q I rx h
  obtain ⟨k, e, q⟩ := h
  have hl := line63
  have hs : sizeLine = 16777216 := sizeLine_eq
  cases x with
  | non =>
    cases rx
    have e' : k = false := e
    subst e'
    exact truthy_none ⟨H, I, q⟩
  | bl b =>
    cases rx
    have e' : k = b := e
    subst e'
    exact wpAny_truthy_bool ⟨H, I, q⟩
  | int i =>
    obtain ⟨t, rfl⟩ := rx
    have e' : k = (i != 0) := e
    subst e'
    exact PySem.P.truthy_int ⟨H, I, q⟩
  | str y =>
    obtain ⟨t, rfl⟩ := rx
    obtain ⟨hy, e'⟩ : y.length ≤ sizeLine ∧ k = ((y.length : Int) != 0) := e
    subst e'
    exact PySem.P.truthy_str (by omega) ⟨H, I.tok _, q⟩
  | byt y =>
    obtain ⟨t, rfl⟩ := rx
    obtain ⟨hy, e'⟩ : y.size ≤ sizeLine ∧ k = ((y.size : Int) != 0) := e
    subst e'
    exact PySem.W.truthy_bytes (by omega) ⟨H, I.tok _, q⟩
  | ref p =>
    cases rx
    have e' : (∃ xs, SqL X.K H p xs ∧ k = !xs.isEmpty) ∨ (∃ xs, SqT X.K H p xs ∧ k = !xs.isEmpty) ∨ ∃ kvs, H p = some (.dK kvs) ∧ k = !kvs.isEmpty := e
    rcases e' with ⟨xs, hx, e'⟩ | ⟨xs, hx, e'⟩ | ⟨kvs, hx, e'⟩
    · subst e'
      obtain ⟨its, r, pl, hz⟩ := I.list hx
      have hlen := r.length
      exact wpAny_truthy_list pl.isList (by simp only [List.size_toArray]; omega) ⟨H, I.tok _, by rw [isEmpty_of r]; exact q⟩
    · subst e'
      obtain ⟨its, r, pl, hz⟩ := I.tuple hx
      have hlen := r.length
      exact truthy_tuple pl (by simp only [List.size_toArray]; omega) ⟨H, I.tok _, by rw [isEmpty_of r]; exact q⟩
    · subst e'
      obtain ⟨hz, hS, vs, r, m⟩ : kvs.length ≤ sizeLine ∧ (p == sysModules) = false ∧ ∃ vs, KV kvs vs ∧ s.heap.DictOf (mixKind X.prog X.w) p vs := I.hok p _ hx
      have hlen : kvs.length = vs.length := Paired.length r
      exact wpAny_truthy_dict hS m (by omega) ⟨H, I.tok _, by rw [isEmpty_kv r]; exact q⟩
  | _ => exact (show False from e).elim
/-- any expression whose test is its value's truth (a name, a call, a subscript, a field ..: he by fun _ => rfl) -/
theorem pt_truth (ha : PE X a ta) (he : ∀ whole, isTrue a X.env whole = (do let v ← whole; standAt a.pos; holding [v] (truthy v))) :
    PT X a (fun σ H Q => ta σ H fun x H' => ∃ k, TruV X.K x H' k ∧ Q k H') := by
  intro pins s σ H Q I h
  exact isTrue_plain (thn (ha pins s σ H _ I h) fun v s1 ⟨x, H1, I1, r1, q1⟩ => tru_ok pins s1 σ H1 x v Q I1 r1 q1) (he _)

/-! ### strs and bytes -/
theorem pe_byt {x : List UInt8} {k : Nat} : PE X (.Constant (.bytes x) k pos) (fun _ H Q => Q (.byt x.toArray) H) := fun _ _ _ H _ I h => PySem.W.Constant_bytes ⟨.byt x.toArray, H, I.tok _, ⟨_, rfl⟩, h⟩
theorem op_add_str : OpR X (binaryOp .Add) (fun x y H Q => ∃ i j, x = .str i ∧ y = .str j ∧ i.length + j.length ≤ sizeLine ∧ Q (.str (i ++ j)) H) := by
  intro pins s σ H x y v u Q I rx ry h
  obtain ⟨i, j, rfl, rfl, hz, q⟩ := h
  obtain ⟨t, rfl⟩ := rx
  obtain ⟨t', rfl⟩ := ry
  exact add_str (fun t' tk => ⟨.str (i ++ j), H, I.tok _, ⟨_, rfl⟩, q⟩) hz
theorem iop_add_str : OpR X (inplaceOp .Add) (fun x y H Q => ∃ i j, x = .str i ∧ y = .str j ∧ i.length + j.length ≤ sizeLine ∧ Q (.str (i ++ j)) H) := by
  intro pins s σ H x y v u Q I rx ry h
  obtain ⟨i, j, rfl, rfl, hz, q⟩ := h
  obtain ⟨t, rfl⟩ := rx
  obtain ⟨t', rfl⟩ := ry
  exact iadd_str (fun t' tk => ⟨.str (i ++ j), H, I.tok _, ⟨_, rfl⟩, q⟩) hz
theorem op_add_byt : OpR X (binaryOp .Add) (fun x y H Q => ∃ i j, x = .byt i ∧ y = .byt j ∧ i.size + j.size ≤ 16777216 ∧ Q (.byt (i ++ j)) H) := by
  intro pins s σ H x y v u Q I rx ry h
  obtain ⟨i, j, rfl, rfl, hz, q⟩ := h
  obtain ⟨t, rfl⟩ := rx
  obtain ⟨t', rfl⟩ := ry
  exact PySem.W.KBy.add_bytes hz (fun t' tk => ⟨.byt (i ++ j), H, I.tok _, ⟨_, rfl⟩, q⟩)

def PlainIxT (b : Expr) : Prop := ∀ o i, subscripted b false o i = operate [o, i] (getItem o i)
/-- s[i], 0 ≤ i < len -/
theorem pe_item_str (ha : PE X a ta) (hb : PE X b tb) (hs : PlainIxT b) :
    PE X (.Subscript a b pos) (tOp (fun x y H Q => ∃ z i c, x = .str z ∧ y = .int i ∧ 0 ≤ i ∧ i < 2 ^ 63 ∧ i < z.length ∧ z.cps[i.toNat]? = some c ∧ Q (.str ⟨#[c]⟩) H) ta tb) := by
  intro pins s σ H Q I h
  refine Subscript_ (binT ha hb I h fun v u s2 x y H2 I2 rx ry q => ?_)
  obtain ⟨z, i, c, rfl, rfl, h0, h63, h1, hc, q⟩ := q
  obtain ⟨t, rfl⟩ := rx
  obtain ⟨t', rfl⟩ := ry
  have e : seqIndex? i z.length = some i.toNat := PySem.StrLaws.seqIndex_nonneg h0 h1
  exact tail_any (typeIs_str s2 z t) slot_str_getitem.lookup (getItem_str (c := c) (by
    have e1 : decide (i < -(2 ^ 63 : Int)) = false := decide_eq_false (by omega)
    have e2 : decide (i ≥ 2 ^ 63) = false := decide_eq_false (by omega)
    rw [e1, e2] <;> rfl) (by rw [e]; exact hc) ⟨.str ⟨#[c]⟩, H2, I2.tok _, ⟨_, rfl⟩, q⟩) (hs _ _)
/-- b[i], 0 ≤ i < len -/
theorem pe_item_byt (ha : PE X a ta) (hb : PE X b tb) (hs : PlainIxT b) :
    PE X (.Subscript a b pos) (tOp (fun x y H Q => ∃ (z : List UInt8) (i : Int), x = .byt z.toArray ∧ y = .int i ∧ z.length ≤ sizeLine ∧ 0 ≤ i ∧ i < z.length ∧ Q (.int ((z.getD i.toNat 0).toNat : Nat)) H) ta tb) := by
  intro pins s σ H Q I h
  refine Subscript_ (binT ha hb I h fun v u s2 x y H2 I2 rx ry q => ?_)
  obtain ⟨z, i, rfl, rfl, hz, h0, h1, q⟩ := q
  obtain ⟨t, rfl⟩ := rx
  obtain ⟨t', rfl⟩ := ry
  have hl : sizeLine = 16777216 := sizeLine_eq
  exact tail_any (PySem.W.typeIs_bytes s2 z.toArray t) PySem.W.FB.slot_bytes_getitem.lookup (PySem.W.getItem_bytes (by omega) h0 h1 ⟨.int ((z.getD i.toNat 0).toNat : Nat), H2, I2.tok _, ⟨_, rfl⟩, q⟩) (hs _ _)

/-! ### scalar builtins, by CallR -/
theorem vals1 {x : V} {us : List Value} (r : Vals [x] us) : ∃ u, us = [u] ∧ RelV x u := by
  cases r with
  | cons r1 r2 => cases r2; exact ⟨_, rfl, r1⟩
theorem vals2 {x y : V} {us : List Value} (r : Vals [x, y] us) : ∃ u w', us = [u, w'] ∧ RelV x u ∧ RelV y w' := by
  cases r with
  | cons r1 r2 =>
    cases r2 with
    | cons r3 r4 => cases r4; exact ⟨_, _, rfl, r1, r3⟩
theorem call_abs : CallR X (.builtin "abs") (fun xs H Q => ∃ i, xs = [.int i] ∧ Q (.int (if i < 0 then -i else i)) H) := by
  intro pins s σ H xs us Q I r h
  obtain ⟨i, rfl, q⟩ := h
  obtain ⟨u, rfl, t, rfl⟩ := vals1 r
  exact call_abs_int fun u tk => ⟨.int (if i < 0 then -i else i), H, I.tok _, ⟨_, rfl⟩, q⟩
theorem call_max2 (hc : X.calm = true) : CallR X (.builtin "max") (fun xs H Q => ∃ i j, xs = [.int i, .int j] ∧ Q (.int (if j > i then j else i)) H) := by
  intro pins s σ H xs us Q I r h
  obtain ⟨i, j, rfl, q⟩ := h
  obtain ⟨u, w', rfl, ⟨t, rfl⟩, ⟨t', rfl⟩⟩ := vals2 r
  refine max_two_ints (I.ok.hd hc) fun h' tk k => ⟨_, H, I.kept k, ?_, q⟩
  by_cases hj : j > i
  · rw [if_pos hj, if_pos hj]; exact ⟨_, rfl⟩
  · rw [if_neg hj, if_neg hj]; exact ⟨_, rfl⟩
theorem call_min2 (hc : X.calm = true) : CallR X (.builtin "min") (fun xs H Q => ∃ i j, xs = [.int i, .int j] ∧ Q (.int (if j < i then j else i)) H) := by
  intro pins s σ H xs us Q I r h
  obtain ⟨i, j, rfl, q⟩ := h
  obtain ⟨u, w', rfl, ⟨t, rfl⟩, ⟨t', rfl⟩⟩ := vals2 r
  refine min_two_ints (I.ok.hd hc) fun h' tk k => ⟨_, H, I.kept k, ?_, q⟩
  by_cases hj : j < i
  · rw [if_pos hj, if_pos hj]; exact ⟨_, rfl⟩
  · rw [if_neg hj, if_neg hj]; exact ⟨_, rfl⟩
theorem call_int1 : CallR X (.type "int") (fun xs H Q => (∃ i, xs = [.int i] ∧ Q (.int i) H) ∨ ∃ k, xs = [.bl k] ∧ Q (.int (if k then 1 else 0)) H) := by
  intro pins s σ H xs us Q I r h
  rcases h with ⟨i, rfl, q⟩ | ⟨k, rfl, q⟩
  · obtain ⟨u, rfl, t, rfl⟩ := vals1 r
    exact call_int_int ⟨.int i, H, I, ⟨_, rfl⟩, q⟩
  · obtain ⟨u, rfl, r1⟩ := vals1 r
    cases r1
    exact call_int_bool ⟨.int (if k then 1 else 0), H, I.tok _, ⟨_, rfl⟩, q⟩
theorem call_bool1 : CallR X (.type "bool") (fun xs H Q => (∃ i, xs = [.int i] ∧ Q (.bl (i != 0)) H) ∨ ∃ k, xs = [.bl k] ∧ Q (.bl k) H) := by
  intro pins s σ H xs us Q I r h
  rcases h with ⟨i, rfl, q⟩ | ⟨k, rfl, q⟩
  · obtain ⟨u, rfl, t, rfl⟩ := vals1 r
    exact call_bool_int ⟨.bl (i != 0), H, I, rfl, q⟩
  · obtain ⟨u, rfl, r1⟩ := vals1 r
    cases r1
    exact call_bool_bool ⟨.bl k, H, I, rfl, q⟩
theorem call_str_int : CallR X (.type "str") (fun xs H Q => ∃ i, xs = [.int i] ∧ i.natAbs.log2 < 1920 ∧ Q (.str (toString i)) H) := by
  intro pins s σ H xs us Q I r h
  obtain ⟨i, rfl, hz, q⟩ := h
  obtain ⟨u, rfl, t, rfl⟩ := vals1 r
  exact PySem.P.str_of_int hz ⟨.str _, H, I.tok _, ⟨_, rfl⟩, q⟩
theorem call_ord : CallR X (.builtin "ord") (fun xs H Q => ∃ x, xs = [.str x] ∧ x.length = 1 ∧ Q (.int (x.cps.getD 0 0 : Nat)) H) := by
  intro pins s σ H xs us Q I r h
  obtain ⟨x, rfl, hz, q⟩ := h
  obtain ⟨u, rfl, t, rfl⟩ := vals1 r
  exact ord_of_one hz ⟨.int _, H, I.tok _, ⟨_, rfl⟩, q⟩
theorem call_chr : CallR X (.builtin "chr") (fun xs H Q => ∃ i, xs = [.int i] ∧ 0 ≤ i ∧ i ≤ 1114111 ∧ Q (.str ⟨#[i.toNat]⟩) H) := by
  intro pins s σ H xs us Q I r h
  obtain ⟨i, rfl, h0, h1, q⟩ := h
  obtain ⟨u, rfl, t, rfl⟩ := vals1 r
  exact chr_of_range h0 h1 ⟨.str _, H, I.tok _, ⟨_, rfl⟩, q⟩
/-- len of a str, a bytes, a list, a tuple -/
def LenV (K : PySem.W.Frag) (x : V) (H : Hp) (n : Nat) : Prop :=
  match x with
  | .str y => y.length ≤ sizeLine ∧ n = y.length
  | .byt y => y.size ≤ sizeLine ∧ n = y.size
  | .ref p => (∃ xs, SqL K H p xs ∧ n = xs.length) ∨ ∃ xs, SqT K H p xs ∧ n = xs.length
  | _ => False
theorem call_len : CallR X (.builtin "len") (fun xs H Q => ∃ x n, xs = [x] ∧ LenV X.K x H n ∧ Q (.int n) H) := by
  intro pins s σ H xs us Q I r h
  obtain ⟨x, n, rfl, e, q⟩ := h
  obtain ⟨u, rfl, rx⟩ := vals1 r
  have hl := line63
  have hs : sizeLine = 16777216 := sizeLine_eq
  cases x with
  | str y =>
    obtain ⟨t, rfl⟩ := rx
    obtain ⟨hy, e'⟩ : y.length ≤ sizeLine ∧ n = y.length := e
    subst e'
    exact len_str (by omega) ⟨.int _, H, I.tok _, ⟨_, rfl⟩, q⟩
  | byt y =>
    obtain ⟨t, rfl⟩ := rx
    obtain ⟨hy, e'⟩ : y.size ≤ sizeLine ∧ n = y.size := e
    subst e'
    exact PySem.W.len_bytes (by omega) ⟨.int _, H, I.tok _, ⟨_, rfl⟩, q⟩
  | ref p =>
    cases rx
    have e' : (∃ xs, SqL X.K H p xs ∧ n = xs.length) ∨ ∃ xs, SqT X.K H p xs ∧ n = xs.length := e
    rcases e' with ⟨xs, hx, e'⟩ | ⟨xs, hx, e'⟩
    · subst e'
      obtain ⟨its, r', pl, hz⟩ := I.list hx
      have hlen := r'.length
      exact Calls.call_len_list pl.isList (by simp only [List.size_toArray]; omega) ⟨.int xs.length, H, I.tok _, ⟨_, by simp only [List.size_toArray]; rw [hlen]⟩, q⟩
    · subst e'
      obtain ⟨its, r', pl, hz⟩ := I.tuple hx
      have hlen := r'.length
      exact len_tuple pl (by simp only [List.size_toArray]; omega) ⟨.int xs.length, H, I.tok _, ⟨_, by simp only [List.size_toArray]; rw [hlen]⟩, q⟩
  | _ => exact (show False from e).elim
/-- divmod: a new tuple -/
theorem call_divmod : CallR X (.builtin "divmod") (fun xs H Q => ∃ i j, xs = [.int i, .int j] ∧ CDiv i j ∧ ∀ p, H p = none → Q (.ref p) (upd H p (.tup [.int (i / j), .int (i % j)]))) := by
  intro pins s σ H xs us Q I r h
  obtain ⟨i, j, rfl, ⟨h1, h2⟩, q⟩ := h
  obtain ⟨u, w', rfl, ⟨t, rfl⟩, ⟨t', rfl⟩⟩ := vals2 r
  refine divmod_int (by omega) ?_ (.inl (PyProof.noPylong_small (by omega)))
  rw [Int.fdiv_eq_ediv_of_nonneg i (by omega), Int.fmod_eq_emod_of_nonneg i (by omega)]
  have hn : H s.heap.objs.size = none := I.hok.fresh (Nat.le_refl _)
  refine ⟨.ref s.heap.objs.size, _, ?_, rfl, q _ hn⟩
  refine I.laid (fun b o e => Heap.get?_push_of_some _ e) (Nat.le_refl _) ⟨by simp only [List.length_cons, List.length_nil]; rw [sizeLine_eq]; decide, [.int (i / j) s.toks, .int (i % j) (s.toks + 1)], .cons ⟨_, rfl⟩ (.cons ⟨_, rfl⟩ .nil), ?_⟩
  exact ⟨_, Heap.get?_push_size s.heap rfl, rfl, 0, rfl⟩
end
end L2

namespace L2
open PySem PySem.Spec PyProof.Rows

/-! ### an instance, its attributes a map -/
structure ObjM (h : Heap) (x dx C : Addr) (mA : Str → Option Value) : Prop where
  obj : h.get? x = some (PySem.W.instObj C dx)
  ns : h.Ns1 dx mA
  ne : dx ≠ x

theorem lookIn_ns {h : Heap} {dx : Addr} {mA : Str → Option Value} (n : h.Ns1 dx mA) : ∃ od, h.get? dx = some od ∧ ∀ name, PySem.W.lookIn name od = some (mA name) := by
  obtain ⟨o, es, ep, ho, hd, hk, _, hm⟩ := n
  refine ⟨o, ho, fun name => ?_⟩
  have e := hm name
  unfold nsFind findBy at e
  rw [← Array.find?_toList] at e
  unfold PySem.W.lookIn
  rw [hd]
  dsimp only
  split
  · rename_i y q
    rw [q] at e
    exact congrArg some e
  · rename_i q
    rw [q] at e
    have a : es.toList.any (·.refKey) = false := by
      rw [List.any_eq_false]
      intro y hy
      obtain ⟨z, t, hkey⟩ := hk y (Array.mem_toList_iff.mp hy)
      simp [DictEntry.refKey, hkey]
    have a' : ¬ es.toList.any (·.refKey) = true := by rw [a]; exact Bool.false_ne_true
    rw [if_neg a']
    exact congrArg some e

theorem ObjM.look {h : Heap} {x dx C : Addr} {mA : Str → Option Value} (I : ObjM h x dx C mA) : ∃ od, PySem.W.InstAt h x (PySem.W.instObj C dx) C (some od) ∧ ∀ name, PySem.W.lookIn name od = some (mA name) :=
  let ⟨od, ho, hl⟩ := lookIn_ns I.ns
  ⟨od, ⟨I.obj, rfl, rfl, ho⟩, hl⟩

section
variable {prog : Program} {w : World} {A : Around} {E : Value → Shared → Prop} {s : Shared} {K : PySem.W.Frag} {x dx C f : Addr} {mA : Str → Option Value} {name : Str} {v : Value}

theorem get_map {expr : Bool} {Q : Value → Shared → Prop} (X : K.In s.heap) (I : ObjM s.heap x dx C mA) (hg : PySem.W.plainGet K C name = true) (hh : PySem.W.hasDictIn K C = true)
    (ha : PySem.W.findIn K (.ref C) name = some none) (hv : mA name = some v) (hv' : PySem.W.handedIn v = true) (h : Q v { s with toks := s.toks + 1 }) :
    wpAny (model prog w) A (getAttr (.ref x) name expr) Q E s := by
  obtain ⟨od, J, hl⟩ := I.look
  exact PySem.W.get_value X J (PySem.W.plainGet_of hg).1 (PySem.W.findObj_own hh ha rfl (by rw [hl, hv])) hv' h

theorem get_const {expr : Bool} {a : Value} {Q : Value → Shared → Prop} (X : K.In s.heap) (I : ObjM s.heap x dx C mA) (hg : PySem.W.plainGet K C name = true) (hh : PySem.W.hasDictIn K C = true)
    (ha : PySem.W.findIn K (.ref C) name = some (some a)) (hn : PySem.W.specialIn K a "__get__" = some none) (hc : PySem.W.copiedNames.contains name = false) (hv : mA name = none) (hv' : PySem.W.handedIn a = true)
    (h : Q a { s with toks := s.toks + 1 }) : wpAny (model prog w) A (getAttr (.ref x) name expr) Q E s := by
  obtain ⟨od, J, hl⟩ := I.look
  exact PySem.W.get_value X J (PySem.W.plainGet_of hg).1 (PySem.W.findObj_cls hh ha hn hv' hc (by rw [hl, hv])) hv' h

theorem get_meth {pl : Sem Bool} {Q : Value × List Value → Shared → Prop} (X : K.In s.heap) (I : ObjM s.heap x dx C mA) (hg : PySem.W.plainGet K C name = true)
    (hf : PySem.W.findIn K (.ref C) name = some (some (.ref f))) (ht : PySem.W.isFn K (.ref f) = true) (hv : mA name = none) (h : Q (.ref f, [.ref x]) s) :
    wpAny (model prog w) A (getMethod (.ref x) name pl) Q E s := by
  obtain ⟨od, J, hl⟩ := I.look
  exact PySem.W.method_fn X J (PySem.W.plainGet_of hg).1 (PySem.W.plainGet_of hg).2 hf (beq_iff_eq.mp ht) (by show (PySem.W.lookIn name od).map (·.isSome) = some false; rw [hl, hv]; rfl) h

theorem set_map {ns : List Str} {Q : Unit → Shared → Prop} (X : K.In s.heap) (I : ObjM s.heap x dx C mA)
    (hs : PySem.W.findIn K (.ref C) "__setattr__" = some (some (.builtin "object.__setattr__"))) (hp : PySem.W.plainOver K C = true) (ht : PySem.W.takerIn K C name = some none) (hh : PySem.W.hasDictIn K C = true)
    (hw : PySem.Within mA ns) (hsz : ns.length ≤ sizeLine)
    (h : ∀ h', ObjM h' x dx C (fun y => if y = name then some v else mA y) → Heap.SameBut dx s.heap h' → Q () { s with heap := h', toks := s.toks + 2 }) :
    wpAny (model prog w) A (setAttr (.ref x) name v) Q E s := by
  obtain ⟨od, J, hl⟩ := I.look
  refine PySem.W.set_plain X J hs (PySem.W.osa_open (s := { s with toks := s.toks + 1 }) (r := none) X J hp ht fun b => ?_)
  obtain ⟨cd, hc, hd'⟩ := PySem.W.any_some hh
  have hx : s.heap.get? x = some ⟨.ref C, some dx, .plain, #[]⟩ := I.obj
  refine wpAny_bind (wpAny_pure (wpAny_bind (wpAny_bind (wpAny_loadPart hx (wpAny_bind (PySem.W.Looks.here (s := { s with toks := s.toks + 1 }) (PySem.W.looks_clsIn X hc) ?_))))))
  rw [hd']
  refine wpAny_pure (a := some dx) (wpAny_bind (wpAny_pure (wpAny_bind ?_)))
  refine wpAny_nsSet1 (s := { s with toks := s.toks + 1 }) I.ns fun h' hn2 hs2 => ?_
  obtain ⟨oD, esD, epD, hoD, hdD, hcD⟩ := hn2.count (PySem.Within.cons name v hw)
  refine wpAny_bind (wpAny_lookBehind hoD (by rw [hdD]; exact pastItsLine_dict (Nat.le_trans hcD (by rw [List.length_cons]; omega))) ?_)
  exact wpAny_pure (h _ ⟨(hs2.2 _ (Ne.symm I.ne)).trans I.obj, hn2, I.ne⟩ hs2)

/-- C(..): the dict at the heap's end, the instance behind it; then its __init__ -/
theorem make_map {R : Result → Shared → Prop} {vs : List Value} {kw : List (Str × Value)} (X : K.In s.heap) (hm : PySem.W.makesIn K C = true)
    (hi : PySem.W.findIn K (.ref C) "__init__" = some (some (.ref f))) (hf : PySem.W.typeIn K (.ref f) = some (.type "function"))
    (h : codeAny (model prog w) (A.under (.builtin "type.__call__" ⟨.ref C :: vs, kw⟩)) (.call (.ref f) ⟨.ref (s.heap.objs.size + 1) :: vs, kw⟩) (PySem.W.InitBack (s.heap.objs.size + 1) R)
      { s with heap := (s.heap.push PySem.W.emptyDict).push (PySem.W.instObj C s.heap.objs.size) }) :
    codeAny (model prog w) A (.call (.ref C) ⟨vs, kw⟩) R s := by
  obtain ⟨hh, g, d, t, os⟩ := s
  exact PySem.W.make_core (PySem.W.makes_of X hm) (PySem.W.looks_findIn X hi) (fun self => PySem.W.bind_fn X self hf) (.inl rfl) h
/-- C() where there is no __init__ but object's -/
theorem make_map0 {R : Result → Shared → Prop} (X : K.In s.heap) (hm : PySem.W.makesIn K C = true)
    (hi : PySem.W.findIn K (.ref C) "__init__" = some (some (.builtin "object.__init__")))
    (hb : ∀ self, PySem.W.Looks (model prog w) s.heap (bindSpecial (.builtin "object.__init__") self) (.builtin "object.__init__", [self]))
    (h : codeAny (model prog w) (A.under (.builtin "type.__call__" ⟨[.ref C], []⟩)) (.call (.builtin "object.__init__") ⟨[.ref (s.heap.objs.size + 1)], []⟩) (PySem.W.InitBack (s.heap.objs.size + 1) R)
      { s with heap := (s.heap.push PySem.W.emptyDict).push (PySem.W.instObj C s.heap.objs.size) }) :
    codeAny (model prog w) A (.call (.ref C) ⟨[], []⟩) R s := by
  obtain ⟨hh, g, d, t, os⟩ := s
  exact PySem.W.make_core (PySem.W.makes_of X hm) (PySem.W.looks_findIn X hi) hb (.inr ⟨rfl, rfl⟩) h
end

/-! ### the attributes as a list of pairs -/
def putF (f : Str) (v : V) : List (Str × V) → List (Str × V)
  | [] => [(f, v)]
  | (g, x) :: r => if g = f then (g, v) :: r else (g, x) :: putF f v r
theorem lookup_putF (f g : Str) (v : V) : ∀ fs : List (Str × V), (putF f v fs).lookup g = if g = f then some v else fs.lookup g
  | [] => by
    show List.lookup g [(f, v)] = _
    by_cases h : g = f
    · have hb : (g == f) = true := beq_iff_eq.mpr h
      simp only [List.lookup, hb, if_pos h]
    · have hb : (g == f) = false := beq_eq_false_iff_ne.mpr h
      simp only [List.lookup, hb, if_neg h]
  | (k, x) :: r => by
    have ih := lookup_putF f g v r
    rw [show putF f v ((k, x) :: r) = (if k = f then (k, v) :: r else (k, x) :: putF f v r) from rfl]
    by_cases hk : k = f
    · rw [if_pos hk]
      by_cases h : g = k
      · have hb : (g == k) = true := beq_iff_eq.mpr h
        simp only [List.lookup, hb, if_pos (h.trans hk)]
      · have hb : (g == k) = false := beq_eq_false_iff_ne.mpr h
        simp only [List.lookup, hb, if_neg (fun e : g = f => h (e.trans hk.symm))]
    · rw [if_neg hk]
      by_cases h : g = k
      · have hb : (g == k) = true := beq_iff_eq.mpr h
        simp only [List.lookup, hb, if_neg (fun e : g = f => hk (h.symm.trans e))]
      · have hb : (g == k) = false := beq_eq_false_iff_ne.mpr h
        simp only [List.lookup, hb]
        exact ih
theorem keys_putF (f : Str) (v : V) : ∀ fs : List (Str × V), f ∈ (putF f v fs).map (·.1) ∧ ∀ g, g ∈ fs.map (·.1) → g ∈ (putF f v fs).map (·.1)
  | [] => ⟨by simp [putF], fun g h => by simp at h⟩
  | (k, x) :: r => by
    obtain ⟨i1, i2⟩ := keys_putF f v r
    rw [show putF f v ((k, x) :: r) = (if k = f then (k, v) :: r else (k, x) :: putF f v r) from rfl]
    by_cases hk : k = f
    · rw [if_pos hk]
      subst hk
      exact ⟨by simp, fun g h => by simpa using h⟩
    · rw [if_neg hk]
      refine ⟨?_, fun g h => ?_⟩
      · rw [List.map_cons]
        exact List.mem_cons_of_mem _ i1
      · rw [List.map_cons] at h ⊢
        rcases List.mem_cons.mp h with e | e
        · exact List.mem_cons.mpr (.inl e)
        · exact List.mem_cons_of_mem _ (i2 g e)
theorem length_putF (f : Str) (v : V) : ∀ fs : List (Str × V), (putF f v fs).length ≤ fs.length + 1
  | [] => by simp [putF]
  | (k, x) :: r => by
    have ih := length_putF f v r
    rw [show putF f v ((k, x) :: r) = (if k = f then (k, v) :: r else (k, x) :: putF f v r) from rfl]
    by_cases hk : k = f
    · rw [if_pos hk, List.length_cons, List.length_cons]; omega
    · rw [if_neg hk, List.length_cons, List.length_cons]; omega

theorem RelO.some_of {v : V} {o : Option Value} (r : RelO (some v) o) : ∃ u, o = some u ∧ RelV v u := by
  cases o with
  | none => exact (show False from r).elim
  | some u => exact ⟨u, rfl, r⟩
theorem RelO.none_of {o : Option Value} (r : RelO none o) : o = none := by
  cases o with
  | none => rfl
  | some u => exact (show False from r).elim
theorem handed_of {v : V} {u : Value} (r : RelV v u) : PySem.W.handedIn u = true := by
  cases v with
  | non => cases (show u = Value.none from r); rfl
  | bl b => cases (show u = Value.bool b from r); rfl
  | int i => obtain ⟨t, e⟩ := (show ∃ t, u = Value.int i t from r); cases e; rfl
  | str x => obtain ⟨t, e⟩ := (show ∃ t, u = Value.str x t from r); cases e; rfl
  | byt b => obtain ⟨t, e⟩ := (show ∃ t, u = Value.bytes b t from r); cases e; rfl
  | flt b => obtain ⟨t, e⟩ := (show ∃ t, u = Value.float b t from r); cases e; rfl
  | ref a => cases (show u = Value.ref a from r); rfl
  | ty n => cases (show u = Value.type n from r); rfl

section
variable {P : Program} {w : World} {H H' : Hp} {h h' : Heap} {a C dx : Addr} {fs fs' : List (Str × V)}
theorem ins_get (hok : HOk P w H h) (e : H a = some (.ins C dx fs)) : ∃ mA, ObjM h a dx C mA ∧ (∀ f, RelO (fs.lookup f) (mA f)) ∧ PySem.Within mA (fs.map (·.1)) ∧ fs.length ≤ 1000 ∧ H dx = some (.own a) := by
  obtain ⟨d, z, ne, ob, mA, n, r, q⟩ := (show ObjOk P w H h a (.ins C dx fs) from hok a _ e)
  exact ⟨mA, ⟨ob, n, ne⟩, r, q, z, d⟩
end

/-! ### what of the text a class must have -/
structure Cls (K : PySem.W.Frag) (C : Addr) : Prop where
  pg : PySem.W.plainGet K C Str.empty = true
  hd : PySem.W.hasDictIn K C = true
  po : PySem.W.plainOver K C = true
  sa : PySem.W.findIn K (.ref C) "__setattr__" = some (some (.builtin "object.__setattr__"))
theorem Cls.get {K : PySem.W.Frag} {C : Addr} (c : Cls K C) (f : Str) : PySem.W.plainGet K C f = true := c.pg
/-- no class of it has the name -/
def NoAttr (K : PySem.W.Frag) (C : Addr) (f : Str) : Prop := PySem.W.findIn K (.ref C) f = some none
theorem NoAttr.taker {K : PySem.W.Frag} {C : Addr} {f : Str} (n : NoAttr K C f) : PySem.W.takerIn K C f = some none := by
  unfold PySem.W.takerIn
  rw [show PySem.W.findIn K (.ref C) f = some none from n]
  rfl
/-- a constant of the class -/
structure Con (K : PySem.W.Frag) (C : Addr) (f : Str) (v : V) (u : Value) : Prop where
  at_ : PySem.W.findIn K (.ref C) f = some (some u)
  rel : RelV v u
  get : PySem.W.specialIn K u "__get__" = some none
  cp : PySem.W.copiedNames.contains f = false
/-- a method: a plain def of the class or of one above it -/
structure Meth (K : PySem.W.Frag) (C : Addr) (m : Str) (f : Addr) : Prop where
  at_ : PySem.W.findIn K (.ref C) m = some (some (.ref f))
  fn : PySem.W.isFn K (.ref f) = true
  kp : PySem.W.keepIn K (.ref f) = true

section
variable {X : Cx} {pins : List (Addr × Obj)} {σ : St} {H : Hp} {s : Shared} {a C dx : Addr} {fs : List (Str × V)} {f : Str} {v : V} {A : Around} {E : Value → Shared → Prop}

theorem getattr_ok {b : Bool} {Q : Value → Shared → Prop} (I : Inv X pins σ H s) (e : H a = some (.ins C dx fs)) (c : Cls X.K C) (n : NoAttr X.K C f) (l : fs.lookup f = some v)
    (h : ∀ u s', Inv X pins σ H s' → RelV v u → Q u s') : wpAny (model X.prog X.w) A (getAttr (.ref a) f b) Q E s := by
  obtain ⟨mA, O, r, _, _, _⟩ := ins_get I.hok e
  obtain ⟨u, hu, ru⟩ := RelO.some_of (v := v) (o := mA f) (by rw [← l]; exact r f)
  exact get_map I.kIn O (c.get f) c.hd n hu (handed_of ru) (h u _ (I.tok _) ru)

theorem getcon_ok {b : Bool} {u : Value} {Q : Value → Shared → Prop} (I : Inv X pins σ H s) (e : H a = some (.ins C dx fs)) (c : Cls X.K C) (k : Con X.K C f v u) (l : fs.lookup f = none)
    (h : ∀ s', Inv X pins σ H s' → Q u s') : wpAny (model X.prog X.w) A (getAttr (.ref a) f b) Q E s := by
  obtain ⟨mA, O, r, _, _, _⟩ := ins_get I.hok e
  have hn : mA f = none := RelO.none_of (by rw [← l]; exact r f)
  exact get_const I.kIn O (c.get f) c.hd k.at_ k.get k.cp hn (handed_of k.rel) (h _ (I.tok _))

theorem getmeth_ok {m : Str} {g : Addr} {pl : Sem Bool} {Q : Value × List Value → Shared → Prop} (I : Inv X pins σ H s) (e : H a = some (.ins C dx fs)) (c : Cls X.K C) (k : Meth X.K C m g) (l : fs.lookup m = none)
    (h : Q (.ref g, [.ref a]) s) : wpAny (model X.prog X.w) A (getMethod (.ref a) m pl) Q E s := by
  obtain ⟨mA, O, r, _, _, _⟩ := ins_get I.hok e
  have hn : mA m = none := RelO.none_of (by rw [← l]; exact r m)
  exact get_meth I.kIn O (c.get m) k.at_ k.fn hn h

theorem setattr_ok {y : V} {u : Value} {Q : Unit → Shared → Prop} (I : Inv X pins σ H s) (e : H a = some (.ins C dx fs)) (c : Cls X.K C) (n : NoAttr X.K C f) (hl : fs.length < 1000) (ry : RelV y u)
    (h : ∀ s', Inv X pins σ (upd H a (.ins C dx (putF f y fs))) s' → Q () s') : wpAny (model X.prog X.w) A (setAttr (.ref a) f u) Q E s := by
  obtain ⟨mA, O, r, wi, _, ho⟩ := ins_get I.hok e
  have hz : (fs.map (·.1)).length ≤ sizeLine := by rw [List.length_map, sizeLine_eq]; omega
  refine set_map I.kIn O c.sa c.po n.taker c.hd wi hz fun h' O' sb => h _ ?_
  have hd : ∃ o, h'.get? dx = some o := let ⟨o, _, _, e', _⟩ := O'.ns; ⟨o, e'⟩
  refine I.write (x := a) (e := dx) (by rw [e]; exact True.intro) (.inr ho) (fun b q hb z => (sb.2 b hb).trans z) hd ?_
  refine ⟨by rw [upd_ne O.ne]; exact ho, ?_, O.ne, O'.obj, _, O'.ns, fun g => ?_, fun g hg => ?_⟩
  · have := length_putF f y fs; omega
  · show RelO ((putF f y fs).lookup g) (if g = f then some u else mA g)
    rw [lookup_putF]
    by_cases q : g = f
    · rw [if_pos q, if_pos q]; exact ry
    · rw [if_neg q, if_neg q]; exact r g
  · by_cases q : g = f
    · rw [q]; exact (keys_putF f y fs).1
    · refine (keys_putF f y fs).2 g (wi g fun z => hg ?_)
      show (if g = f then some u else mA g) = none
      rw [if_neg q]; exact z

/-- a new instance, tracked, without attributes -/
theorem Inv.made (I : Inv X pins σ H s) : Inv X pins σ (upd (upd H s.heap.objs.size (.own (s.heap.objs.size + 1))) (s.heap.objs.size + 1) (.ins C s.heap.objs.size []))
    { s with heap := (s.heap.push PySem.W.emptyDict).push (PySem.W.instObj C s.heap.objs.size) } := by
  have e1 : (s.heap.push PySem.W.emptyDict).get? s.heap.objs.size = some PySem.W.emptyDict := Heap.get?_push_size s.heap rfl
  have e2 : ((s.heap.push PySem.W.emptyDict).push (PySem.W.instObj C s.heap.objs.size)).get? (s.heap.objs.size + 1) = some (PySem.W.instObj C s.heap.objs.size) := by
    have := Heap.get?_push_size (s.heap.push PySem.W.emptyDict) (o := PySem.W.instObj C s.heap.objs.size) rfl
    rwa [Heap.size_push] at this
  have e3 : (s.heap.push PySem.W.emptyDict).Ns s.heap.objs.size (fun _ => none) := ⟨PySem.W.emptyDict, #[], _, e1, rfl, (fun e he => absurd he (by simp)), fun _ => rfl⟩
  have I1 := I.laid (a := s.heap.objs.size) (o := .own (s.heap.objs.size + 1)) (h' := s.heap.push PySem.W.emptyDict) (t' := s.toks) (fun b u q => Heap.get?_push_of_some _ q) (Nat.le_refl _) ⟨_, e1⟩
  refine I1.laid (a := s.heap.objs.size + 1) (o := .ins C s.heap.objs.size []) (t' := s.toks) (fun b u q => Heap.get?_push_of_some _ q) (Nat.le_of_eq (Heap.size_push _ _)) ?_
  have ne : s.heap.objs.size ≠ s.heap.objs.size + 1 := Nat.ne_of_lt (Nat.lt_succ_self _)
  refine ⟨by rw [upd_ne ne, upd_same], Nat.zero_le _, ne, e2, fun _ => none, (Heap.Ns1.of_empty e3).at fun o q => Heap.get?_push_of_some _ q, fun _ => True.intro, fun y hy => absurd rfl hy⟩

/-- e.f where nothing but the object is asked: through attributeBase (super) and the last hold -/
theorem attr_of {prog : Program} {w : World} {env : Env} {e : Expr} {f : Str} {pos : Pos} {s : Shared} {Q : Value → Shared → Prop} (hb : attributeBase e f env (eval e env) = eval e env)
    (h : wpAny (model prog w) A (eval e env) (fun o s₁ => wpAny (model prog w) A (getAttr o f true) Q E s₁) E s) : wpAny (model prog w) A (eval (.Attribute e f pos) env) Q E s :=
  Attribute_any_ h (by rw [arm_eval_Attribute, hb])
end

/-! ### readings and rules -/
/-- e.f, an attribute of the instance -/
def tFld (K : PySem.W.Frag) (ta : TE) (f : Str) : TE := fun σ H Q => ta σ H fun x H1 => ∃ a C dx fs v, x = .ref a ∧ H1 a = some (.ins C dx fs) ∧ Cls K C ∧ NoAttr K C f ∧ fs.lookup f = some v ∧ Q v H1
/-- e.f, a constant of the class -/
def tCon (K : PySem.W.Frag) (ta : TE) (f : Str) : TE := fun σ H Q => ta σ H fun x H1 => ∃ a C dx fs v u, x = .ref a ∧ H1 a = some (.ins C dx fs) ∧ Cls K C ∧ Con K C f v u ∧ fs.lookup f = none ∧ Q v H1
/-- e.f = value -/
def sFld (K : PySem.W.Frag) (ta tv : TE) (f : Str) : TS := fun D σ H => tv σ H fun y H1 => ta σ H1 fun x H2 => ∃ a C dx fs, x = .ref a ∧ H2 a = some (.ins C dx fs) ∧ Cls K C ∧ NoAttr K C f ∧ fs.length < 1000 ∧
  D.nx σ (upd H2 a (.ins C dx (putF f y fs)))
/-- an augmented operator on two values -/
def InOp (X : Cx) (op : Operator) (rd : V → V → Hp → VK → Prop) : Prop :=
  ∀ (pins : List (Addr × Obj)) (s : Shared) (σ : St) (H : Hp) (x y : V) (u v : Value) (Q : VK), Inv X pins σ H s → RelV x u → RelV y v → rd x y H Q → wpAny (model X.prog X.w) X.A (inplaceOp op u v) (EP X pins σ Q) X.xe s
/-- e.f op= value -/
def sFldAug (K : PySem.W.Frag) (ta tv : TE) (rd : V → V → Hp → VK → Prop) (f : Str) : TS := fun D σ H => ta σ H fun x H1 => ∃ a C dx fs v, x = .ref a ∧ H1 a = some (.ins C dx fs) ∧ Cls K C ∧ NoAttr K C f ∧ fs.lookup f = some v ∧
  tv σ H1 fun y H2 => rd v y H2 fun z H3 => ∃ dx' fs', H3 a = some (.ins C dx' fs') ∧ fs'.length < 1000 ∧ D.nx σ (upd H3 a (.ins C dx' (putF f z fs')))

section
variable {X : Cx} {o e value : Expr} {f : Str} {pos pos' tpos : Pos} {ta tv : TE}
theorem pe_fld (he : PE X e ta) (hb : attributeBase e f X.env (eval e X.env) = eval e X.env) : PE X (.Attribute e f pos) (tFld X.K ta f) := by
  intro pins s σ H Q I h
  refine attr_of hb (thn (he pins s σ H _ I h) fun u s1 ⟨x, H1, I1, rx, a, C, dx, fs, v, ex, ea, c, n, l, q⟩ => ?_)
  subst ex
  obtain rfl : u = Value.ref a := rx
  exact getattr_ok I1 ea c n l fun u' s2 I2 ru => ⟨v, H1, I2, ru, q⟩
theorem pe_con (he : PE X e ta) (hb : attributeBase e f X.env (eval e X.env) = eval e X.env) : PE X (.Attribute e f pos) (tCon X.K ta f) := by
  intro pins s σ H Q I h
  refine attr_of hb (thn (he pins s σ H _ I h) fun u s1 ⟨x, H1, I1, rx, a, C, dx, fs, v, u0, ex, ea, c, k, l, q⟩ => ?_)
  subst ex
  obtain rfl : u = Value.ref a := rx
  exact getcon_ok I1 ea c k l fun s2 I2 => ⟨v, H1, I2, k.rel, q⟩
theorem ps_fld (ha : PE X o ta) (hv : PE X value tv) (hs : swapsWith value (some (.Attribute o f pos')) pos.line X.env = pure false) : PS X (.Assign [.Attribute o f pos'] value pos) (sFld X.K ta tv f) := by
  intro pins s σ H D I h
  refine plainObj_wpAny_Assign_Attribute (thn (hv pins s σ H _ I h) fun u s1 ⟨y, H1, I1, ry, q⟩ => thn (ha pins s1 σ H1 _ I1 q) fun ov s2 ⟨x, H2, I2, rx, a, C, dx, fs, ex, ea, c, n, l, q2⟩ => ?_) hs
  subst ex
  obtain rfl : ov = Value.ref a := rx
  exact setattr_ok I2 ea c n l ry fun s3 I3 => ⟨σ, _, I3, q2⟩
theorem ps_fldaug {op : Operator} {rd : V → V → Hp → VK → Prop} (ha : PE X o ta) (hv : PE X value tv) (hop : InOp X op rd) : PS X (.AugAssign (.Attribute o f tpos) op value pos) (sFldAug X.K ta tv rd f) := by
  intro pins s σ H D I h
  refine wpAny_AugAssign_AttributeAny (thn (ha pins s σ H _ I h) fun ov s1 ⟨x, H1, I1, rx, a, C, dx, fs, v, ex, ea, c, n, l, q⟩ => ?_)
  subst ex
  obtain rfl : ov = Value.ref a := rx
  refine getattr_ok I1 ea c n l fun u s2 I2 ru => thn (hv pins s2 σ H1 _ I2 q) fun w3 s3 ⟨y, H2, I3, ry, q3⟩ => thn (hop pins s3 σ H2 v y u w3 _ I3 ru ry q3) fun w4 s4 ⟨z, H3, I4, rz, dx', fs', ea', l', q4⟩ => ?_
  exact setattr_ok I4 ea' c n l' rz fun s5 I5 => ⟨σ, _, I5, q4⟩
def rAdd : V → V → Hp → VK → Prop := fun x y H Q => ∃ i j, x = .int i ∧ y = .int j ∧ Q (.int (i + j)) H
def rSub : V → V → Hp → VK → Prop := fun x y H Q => ∃ i j, x = .int i ∧ y = .int j ∧ Q (.int (i - j)) H
theorem in_add : InOp X .Add rAdd := by
  rintro pins s σ H x y u v Q I rx ry ⟨i, j, rfl, rfl, q⟩
  obtain ⟨t, rfl⟩ := (show ∃ t, u = Value.int i t from rx)
  obtain ⟨t', rfl⟩ := (show ∃ t', v = Value.int j t' from ry)
  exact PyProof.Rows.iadd_int ⟨.int (i + j), H, I.tok _, ⟨_, rfl⟩, q⟩
theorem in_sub : InOp X .Sub rSub := by
  rintro pins s σ H x y u v Q I rx ry ⟨i, j, rfl, rfl, q⟩
  obtain ⟨t, rfl⟩ := (show ∃ t, u = Value.int i t from rx)
  obtain ⟨t', rfl⟩ := (show ∃ t', v = Value.int j t' from ry)
  exact PyProof.Rows.isub_int ⟨.int (i - j), H, I.tok _, ⟨_, rfl⟩, q⟩

/-- what is between an instance and its method: the tree of a method call -/
theorem methcall_of {pl : Sem Bool} {m : Str} {apos : Pos} {args : List Expr} {pins : List (Addr × Obj)} {s : Shared} {σ : St} {H : Hp} {Q : Value → Shared → Prop} {te : TE} (he : PE X e te) (I : Inv X pins σ H s)
    (h : te σ H fun x H1 => ∃ a C dx fs g, x = .ref a ∧ H1 a = some (.ins C dx fs) ∧ Cls X.K C ∧ Meth X.K C m g ∧ fs.lookup m = none ∧
      ∀ s1, Inv X pins σ H1 s1 → wpAny (model X.prog X.w) X.A (callWith pos (.ref g) [.ref a] (backTo pos (starEach args X.env)) (backToKw pos (keywordEach [] X.env))) Q X.xe s1)
    (ht : eval (.Call (.Attribute e m apos) args [] pos) X.env = (do
      let ov ← eval e X.env
      standAt apos.atName
      let (f, first) ← holding [ov] (getMethod ov m pl)
      callWith pos f first (backTo pos (starEach args X.env)) (backToKw pos (keywordEach [] X.env)))) :
    wpAny (model X.prog X.w) X.A (eval (.Call (.Attribute e m apos) args [] pos) X.env) Q X.xe s := by
  refine PySem.W.methodCall_KW (pl := pl) (thn (he pins s σ H _ I h) fun u s1 ⟨x, H1, I1, rx, a, C, dx, fs, g, ex, ea, c, k, l, q⟩ => ?_) ht
  subst ex
  obtain rfl : u = Value.ref a := rx
  exact getmeth_ok I1 ea c k l (q s1 I1)
end

/-! ### isinstance -/
section
variable {X : Cx} {pins : List (Addr × Obj)} {σ : St} {H : Hp} {s : Shared} {A : Around} {E : Value → Shared → Prop} {Q : Value → Shared → Prop} {c : Value} {b : Bool}
/-- the type of a value, as the fragment's deciders take it; for an instance its class -/
inductive TyOf (K : PySem.W.Frag) (H : Hp) : V → Value → Prop where
  | non : TyOf K H .non (.type "NoneType")
  | bl (x : Bool) : TyOf K H (.bl x) (.type "bool")
  | int (i : Int) : TyOf K H (.int i) (.type "int")
  | str (x : Str) : TyOf K H (.str x) (.type "str")
  | flt (x : UInt64) : TyOf K H (.flt x) (.type "float")
  | lst {a : Addr} {xs : List V} (e : H a = some (.lst xs)) : TyOf K H (.ref a) (.type "list")
  | frz {a : Addr} {o : Obj} {xs : List V} (e : H a = some (.frz o (.lst xs))) : TyOf K H (.ref a) (.type "list")
  | tup {a : Addr} {xs : List V} (e : H a = some (.tup xs)) : TyOf K H (.ref a) (.type "tuple")
  | dK {a : Addr} {kvs : List (Key × V)} (e : H a = some (.dK kvs)) : TyOf K H (.ref a) (.type "dict")
  | dT {a : Addr} {kvs : List (List Key × V)} (e : H a = some (.dT kvs)) : TyOf K H (.ref a) (.type "dict")
  | ins {a C dx : Addr} {fs : List (Str × V)} (e : H a = some (.ins C dx fs)) (cl : Cls K C) (ha : PySem.W.findIn K (.ref C) "__class__" = some (some (.builtin "object.__class__")))
      (hn : PySem.W.specialIn K (.builtin "object.__class__") "__get__" = some (some (.builtin "getset_descriptor.__get__"))) (htk : PySem.W.takesIn K (.builtin "object.__class__") = some true)
      (hm : PySem.W.mroIn K C (.type "object") = some true) : TyOf K H (.ref a) (.ref C)
/-- isinstance(x, c) for one class c, a built-in or an own one: kitOne's answer -/
theorem isinst_ok {x : V} {u t : Value} (I : Inv X pins σ H s) (rx : RelV x u) (ty : TyOf X.K H x t) (e : PySem.W.kitOne X.K t c = some b) (h : ∀ tk, Q (.bool b) { s with toks := tk }) :
    wpAny (model X.prog X.w) A (call (.builtin "isinstance") [u, c]) Q E s := by
  cases ty with
  | non => cases (show u = Value.none from rx); exact PySem.W.kia_one PySem.W.kitx_none I.kIn True.intro e (fun z => nomatch z) h
  | bl y => cases (show u = Value.bool y from rx); exact PySem.W.kia_one PySem.W.kitx_bool I.kIn True.intro e (fun z => nomatch z) h
  | int i => obtain ⟨t, q⟩ := (show ∃ t, u = Value.int i t from rx); cases q; exact PySem.W.kia_one PySem.W.kitx_int I.kIn True.intro e (fun z => nomatch z) h
  | str y => obtain ⟨t, q⟩ := (show ∃ t, u = Value.str y t from rx); cases q; exact PySem.W.kia_one PySem.W.kitx_str I.kIn True.intro e (fun z => nomatch z) h
  | flt y => obtain ⟨t, q⟩ := (show ∃ t, u = Value.float y t from rx); cases q; exact PySem.W.kia_one PySem.W.kitx_float I.kIn True.intro e (fun z => nomatch z) h
  | @lst a xs ea =>
    cases (show u = Value.ref a from rx)
    obtain ⟨_, _, n, _, h1⟩ := (show ObjOk X.prog X.w H s.heap a (.lst xs) from I.hok a _ ea)
    exact PySem.W.kia_one PySem.W.kitx_list I.kIn ⟨_, h1, rfl⟩ e (fun z => nomatch z) h
  | @frz a ob xs ea =>
    cases (show u = Value.ref a from rx)
    obtain ⟨_, _, _, n, _, h1⟩ := (show ObjOk X.prog X.w H s.heap a (.frz ob (.lst xs)) from I.hok a _ ea)
    exact PySem.W.kia_one PySem.W.kitx_list I.kIn ⟨_, h1, rfl⟩ e (fun z => nomatch z) h
  | @tup a xs ea =>
    cases (show u = Value.ref a from rx)
    obtain ⟨_, _, _, p⟩ := (show ObjOk X.prog X.w H s.heap a (.tup xs) from I.hok a _ ea)
    obtain ⟨o, h1, h2, _⟩ := p
    exact PySem.W.kia_one PySem.W.kitx_tuple I.kIn ⟨o, h1, h2⟩ e (fun z => nomatch z) h
  | @dK a kvs ea =>
    cases (show u = Value.ref a from rx)
    obtain ⟨_, _, vs, _, p⟩ := (show ObjOk X.prog X.w H s.heap a (.dK kvs) from I.hok a _ ea)
    obtain ⟨o, es, ep, h1, h2, _⟩ := p
    exact PySem.W.kia_one PySem.W.kitx_dict I.kIn ⟨o, h1, h2.1⟩ e (fun z => nomatch z) h
  | @dT a kvs ea =>
    cases (show u = Value.ref a from rx)
    obtain ⟨_, _, xs, _, o, es, ep, h1, h2, _⟩ := (show ObjOk X.prog X.w H s.heap a (.dT kvs) from I.hok a _ ea)
    exact PySem.W.kia_one PySem.W.kitx_dict I.kIn ⟨o, h1, h2.1⟩ e (fun z => nomatch z) h
  | @ins a C dx fs ea cl ha hn htk hm =>
    cases (show u = Value.ref a from rx)
    obtain ⟨mA, O, _⟩ := ins_get I.hok ea
    obtain ⟨od, J, _⟩ := O.look
    exact PySem.W.kia_one (PySem.W.kitx_own (cl.get _) cl.hd ha hn htk hm) I.kIn J e (fun z => nomatch z) h
end
end L2

namespace L2
open PySem PySem.Spec PyProof.Rows

/-! ### room -/
structure Room (k : Nat) (A : Around) : Prop where
  hd : A.handled = none
  dp : A.depth + 3 * k + 5 < recursionLimit
  un : A.units + 16 * k + 200 < cLine
theorem Room.mono {j k : Nat} {A : Around} (r : Room k A) (h : j ≤ k) : Room j A := ⟨r.hd, by have := r.dp; omega, by have := r.un; omega⟩
theorem Room.deeper {k : Nat} {A : Around} (r : Room (k + 1) A) (env : Env) : Room k (A.deeper env) :=
  ⟨r.hd, by have := r.dp; show A.depth + 1 + 3 * k + 5 < _; omega, by have := r.un; show A.units + 3 + 16 * k + 200 < _; omega⟩
theorem Room.in1 {k : Nat} {A : Around} (r : Room (k + 1) A) : Room k A.in1 :=
  ⟨r.hd, by have := r.dp; show A.depth + 3 * k + 5 < _; omega, by have := r.un; show A.units + 1 + 16 * k + 200 < _; omega⟩
theorem make_depth {A : Around} {C : Addr} {us : List Value} {kw : List (Str × Value)} : (A.under (.builtin "type.__call__" ⟨.ref C :: us, kw⟩)).depth = A.depth + 1 := by
  first | rfl | simp [Around.under, Code.weight, Code.isCreation, Code.isGuard, Code.isCaller, Code.frames, Code.isFrame, guardIds]
theorem make_units {A : Around} {C : Addr} {us : List Value} {kw : List (Str × Value)} : (A.under (.builtin "type.__call__" ⟨.ref C :: us, kw⟩)).units = A.units + 1 := by
  first | rfl | simp [Around.under, Code.cUnits, Code.frames, Code.isFrame]
theorem Room.make {k : Nat} {A : Around} (r : Room (k + 1) A) (C : Addr) (us : List Value) (kw : List (Str × Value)) : Room k (A.under (.builtin "type.__call__" ⟨.ref C :: us, kw⟩)) :=
  ⟨r.hd, by have := r.dp; rw [make_depth]; omega, by have := r.un; rw [make_units]; omega⟩
theorem Room.depth {k : Nat} {A : Around} (r : Room k A) : A.depth < recursionLimit := by have := r.dp; omega
theorem Room.units {k : Nat} {A : Around} (r : Room k A) : A.units + 64 < cLine := by have := r.un; omega
theorem Room.units0 {k : Nat} {A : Around} (r : Room k A) : A.units < cLine := by have := r.un; omega

/-! ### argument lists and displays -/
def tNil : TA := fun _ H Q => Q [] H
def tCons (ta : TE) (tr : TA) : TA := fun σ H Q => ta σ H fun x H1 => tr σ H1 fun xs H2 => Q (x :: xs) H2
section
variable {X : Cx} {e : Expr} {es : List Expr} {te : TE} {t : TA} {pos : Pos}
theorem pa_nil : PA X [] tNil := fun _ _ _ _ H Q I h => Calls.spliced_nil ⟨[], H, I, .nil, h⟩
theorem pa_cons (ha : PE X e te) (hr : PA X es t) (hs : starEach (e :: es) X.env = (false, eval e X.env) :: starEach es X.env := by rfl) : PA X (e :: es) (tCons te t) := by
  intro pos pins s σ H Q I h
  rw [hs]
  show wpAny _ _ (spliced ((false, eval e X.env) :: backTo pos (starEach es X.env))) _ _ s
  refine Calls.spliced_cons (thn (ha pins s σ H _ I h) fun u s1 ⟨x, H1, I1, r1, q1⟩ => ?_)
  exact thn (hr pos pins s1 σ H1 _ I1 q1) fun us s2 ⟨xs, H2, I2, r2, q2⟩ => ⟨x :: xs, H2, I2, .cons r1 r2, q2⟩

/-- a tuple, a list of written items -/
def tTup (t : TA) : TE := fun σ H Q => t σ H fun xs H1 => xs.length ≤ sizeLine ∧ ∀ p, H1 p = none → Q (.ref p) (upd H1 p (.tup xs))
def tLst (t : TA) : TE := fun σ H Q => t σ H fun xs H1 => xs.length ≤ sizeLine ∧ ∀ p, H1 p = none → Q (.ref p) (upd H1 p (.lst xs))
theorem pe_tup {x1} (h : PA X es t) : PE X (.Tuple es x1 pos) (tTup t) := by
  intro pins s σ H Q I hq
  refine wpAny_Tuple_spliced (thn (h pos pins s σ H _ I hq) fun us s1 ⟨xs, H1, I1, r, z, q⟩ => ⟨by rw [← r.length]; exact z, ?_⟩)
  have hf : H1 s1.heap.objs.size = none := I1.hok.fresh (Nat.le_refl _)
  refine ⟨.ref s1.heap.objs.size, upd H1 s1.heap.objs.size (.tup xs), I1.laid (t' := s1.toks) (fun b u e => Heap.get?_push_of_some _ e) (Nat.le_refl _) ?_, rfl, q _ hf⟩
  exact ⟨z, us, r, ⟨_, Heap.get?_push_size _ rfl, rfl, _, rfl⟩⟩
theorem pe_lst (h : PA X es t) : PE X (.List es pos) (tLst t) := by
  intro pins s σ H Q I hq
  refine wpAny_List_spliced (thn (h pos pins s σ H _ I hq) fun us s1 ⟨xs, H1, I1, r, z, q⟩ => ⟨by rw [← r.length]; exact z, ?_⟩)
  have hf : H1 s1.heap.objs.size = none := I1.hok.fresh (Nat.le_refl _)
  refine ⟨.ref s1.heap.objs.size, upd H1 s1.heap.objs.size (.lst xs), I1.laid (t' := s1.toks) (fun b u e => Heap.get?_push_of_some _ e) (Nat.le_refl _) ?_, rfl, q _ hf⟩
  exact ⟨z, us, 0, r, Heap.get?_push_size _ rfl⟩
end

/-! ### what a def promises -/
/-- a def's promise: the bound arguments in the parameters' order, the heap, the wanted end, the wanted exception -/
abbrev Sp := List V → Hp → VK → XK → Prop
/-- how an exception lies behind a call (file 08 gives it): the callers' frames, abstract heap and state ahead of the call, the wish, the exception, the state -/
abbrev CXT := List Env → Hp → Shared → XK → Value → Shared → Prop

/-- the state at a call -/
structure Env0 (P : Program) (w : World) (K : PySem.W.Frag) (mg : Str → Option Value) (base : Heap) (A : Around) (outer : List Env) (s : Shared) (H : Hp) : Prop where
  frames : A.frames = some outer
  mod : Mod K mg base
  bs : ∀ b o, base.get? b = some o → s.heap.get? b = some o ∧ H b = none
  bsz : base.objs.size ≤ s.heap.objs.size
  funs : s.heap.FunFrames base outer
  frf : ∀ b ∈ frs outer, H b = none
  hok : HOk P w H s.heap
  bare : AllBare s.gens
/-- a call's end -/
def CE (outer : List Env) (P : Program) (w : World) (H : Hp) (s : Shared) (Q : VK) (u : Value) (s' : Shared) : Prop :=
  ∃ v H', s'.os = s.os ∧ AllBare s'.gens ∧ Un (frs outer) [] H H' s.heap s'.heap ∧ HOk P w H' s'.heap ∧ RelV v u ∧ Q v H'
def CR (CX : CXT) (outer : List Env) (P : Program) (w : World) (H : Hp) (s : Shared) (Q : VK) (E : XK) (r : Result) (s' : Shared) : Prop :=
  match r with
  | .ok (.ret u) => CE outer P w H s Q u s'
  | .ok _ => False
  | .error e => CX outer H s E e s'
structure FnOk (P : Program) (w : World) (K : PySem.W.Frag) (mg : Str → Option Value) (base : Heap) (CX : CXT) (k : Nat) (f : Addr) (fd : FuncData) (ps : List Str) (sp : Sp) : Prop where
  len : ∀ vs H Q E, sp vs H Q E → vs.length = ps.length
  run : ∀ (A : Around) (outer : List Env) (s : Shared) (H : Hp) (args : Args) (us : List Value) (vs : List V) (Q : VK) (E : XK), Room k A → Env0 P w K mg base A outer s H → BindsTo s fd args (ps.zip us) → Vals vs us → sp vs H Q E →
    codeAny (model P w) A (.call (.ref f) args) (CR CX outer P w H s Q E) s
theorem FnOk.mono {P : Program} {w : World} {K : PySem.W.Frag} {mg : Str → Option Value} {base : Heap} {CX : CXT} {j k : Nat} {f : Addr} {fd : FuncData} {ps : List Str} {sp : Sp} (F : FnOk P w K mg base CX j f fd ps sp) (h : j ≤ k) :
    FnOk P w K mg base CX k f fd ps sp := ⟨F.len, fun A outer s H args us vs Q E hr => F.run A outer s H args us vs Q E (hr.mono h)⟩
/-- a weaker promise -/
theorem FnOk.imp {P : Program} {w : World} {K : PySem.W.Frag} {mg : Str → Option Value} {base : Heap} {CX : CXT} {k : Nat} {f : Addr} {fd : FuncData} {ps : List Str} {sp sp' : Sp} (F : FnOk P w K mg base CX k f fd ps sp)
    (h : ∀ vs H Q E, sp' vs H Q E → sp vs H Q E) : FnOk P w K mg base CX k f fd ps sp' :=
  ⟨fun vs H Q E q => F.len vs H Q E (h _ _ _ _ q), fun A outer s H args us vs Q E hr he hb hv hs => F.run A outer s H args us vs Q E hr he hb hv (h _ _ _ _ hs)⟩

theorem Env0.make {P : Program} {w : World} {K : PySem.W.Frag} {mg : Str → Option Value} {base : Heap} {A : Around} {outer : List Env} {s : Shared} {H : Hp} (e : Env0 P w K mg base A outer s H) (C : Addr) (us : List Value) (kw : List (Str × Value)) :
    Env0 P w K mg base (A.under (.builtin "type.__call__" ⟨.ref C :: us, kw⟩)) outer s H := ⟨by first | exact e.frames | (simpa [Around.under, Code.envs, Code.isFrame, pushEnvs] using e.frames), e.mod, e.bs, e.bsz, e.funs, e.frf, e.hok, e.bare⟩
theorem Env0.in1 {P : Program} {w : World} {K : PySem.W.Frag} {mg : Str → Option Value} {base : Heap} {A : Around} {outer : List Env} {s : Shared} {H : Hp} (e : Env0 P w K mg base A outer s H) :
    Env0 P w K mg base A.in1 outer s H := ⟨e.frames, e.mod, e.bs, e.bsz, e.funs, e.frf, e.hok, e.bare⟩

section
variable {X : Cx} {pins : List (Addr × Obj)} {σ : St} {H : Hp} {s s' : Shared}
/-- from a body: what a callee wants -/
theorem Inv.env0 (I : Inv X pins σ H s) : Env0 X.prog X.w X.K X.mg X.base X.A X.stack s H :=
  ⟨I.ok.frames, I.ok.mod, I.bs, Nat.le_trans I.ok.bsz I.sz, I.stack, I.stkFree, I.hok, I.bare⟩
/-- behind a call -/
theorem Inv.after {Q : VK} {u : Value} (I : Inv X pins σ H s) (h : CE X.stack X.prog X.w H s Q u s') : EP X pins σ Q u s' := by
  obtain ⟨v, H', os, bare, un, hok, r, q⟩ := h
  obtain ⟨hh, g, d, t, os'⟩ := s'
  obtain rfl : os' = s.os := os
  exact ⟨v, H', I.call (h' := hh) (g' := g) (d' := d) (t' := t) (ch := []) un hok bare (fun b z => absurd z (by simp)), r, q⟩
end

/-! ### calls -/
/-- f(..): the written arguments, then the defaults dvs; E: what is wanted of an exception -/
def tCall (sp : Sp) (dvs : List V) (E : XK) (t : TA) : TE := fun σ H Q => t σ H fun vs H1 => sp (vs ++ dvs) H1 Q E
/-- o.m(..) of an instance of the class at C -/
def tMeth (C : Addr) (m : Str) (sp : Sp) (dvs : List V) (E : XK) (ta : TE) (t : TA) : TE := fun σ H Q => ta σ H fun x H1 => ∃ a dx fs, x = .ref a ∧ H1 a = some (.ins C dx fs) ∧ fs.lookup m = none ∧
  t σ H1 fun vs H2 => sp (x :: (vs ++ dvs)) H2 Q E
/-- C(..): a new instance and its dict, then __init__ -/
def tMake (C : Addr) (sp : Sp) (dvs : List V) (E : XK) (t : TA) : TE := fun σ H Q => t σ H fun vs H1 => ∀ x dx, H1 x = none → H1 dx = none → dx ≠ x →
  sp (.ref x :: (vs ++ dvs)) (upd (upd H1 dx (.own x)) x (.ins C dx [])) (fun v H2 => v = .non ∧ Q (.ref x) H2) E

/-- how the parameters are bound: us the positional arguments, kw the keywords' values by name, ds the defaults that fill up -/
def Binds (K : PySem.W.Frag) (fd : FuncData) (ps : List Str) (ds : List Value) : Prop :=
  ∀ (s : Shared) (us : List Value), K.In s.heap → (us ++ ds).length = ps.length → BindsTo s fd ⟨us, []⟩ (ps.zip (us ++ ds))
/-- every parameter is given -/
theorem Binds.all {K : PySem.W.Frag} {fd : FuncData} {ps : List Str} (h : ∀ us : List Value, us.length = ps.length → bindArgs fd ⟨us, []⟩ = pure (ps.zip us)) : Binds K fd ps [] := fun s us _ hl => by
  rw [List.append_nil] at hl ⊢
  exact .of_eq (h us hl)

/-- an exception of a callee reaches what this body wants of exceptions -/
def Passes (CX : CXT) (X : Cx) (E : XK) : Prop := ∀ (pins : List (Addr × Obj)) (σ : St) (H : Hp) (s : Shared) (e : Value) (s' : Shared), Inv X pins σ H s → CX X.stack H s E e s' → X.xe e s'

section
variable {X : Cx} {CX : CXT} {k : Nat} {f C : Addr} {fd : FuncData} {ps : List Str} {sp : Sp} {dvs : List V} {ds : List Value} {E : XK} {x m : Str} {p pos apos : Pos} {e o : Expr} {es : List Expr} {ta : TE} {t : TA}

/-- the callee runs -/
theorem run_fn {pins : List (Addr × Obj)} {σ : St} {H : Hp} {s : Shared} {Q : VK} {us : List Value} {vs : List V} (F : FnOk X.prog X.w X.K X.mg X.base CX k f fd ps sp) (hr : Room k X.A) (hb : Binds X.K fd ps ds) (hd : Vals dvs ds) (hx : Passes CX X E)
    (I : Inv X pins σ H s) (r : Vals vs us) (h : sp (vs ++ dvs) H Q E) : wpAny (model X.prog X.w) X.A (call (.ref f) us) (EP X pins σ Q) X.xe s := by
  have r2 : Vals (vs ++ dvs) (us ++ ds) := r.append hd
  have hl : (us ++ ds).length = ps.length := by rw [← r2.length]; exact F.len _ _ _ _ h
  refine wpAny_call (codeAny_mono (F.run X.A X.stack s H ⟨us, []⟩ (us ++ ds) (vs ++ dvs) Q E hr I.env0 (hb s us I.kIn hl) r2 h) fun r s' hq => ?_)
  cases r with
  | error e => exact hx pins σ H s e s' I hq
  | ok fl =>
    cases fl with
    | ret u => exact I.after hq
    | next => exact False.elim hq
    | brk => exact False.elim hq
    | cont => exact False.elim hq

theorem pe_call (F : FnOk X.prog X.w X.K X.mg X.base CX k f fd ps sp) (hr : Room k X.A) (hg : Gl X x) (hm : X.mg x = some (.ref f)) (hk : PySem.W.keepIn X.K (.ref f) = true) (hb : Binds X.K fd ps ds) (hd : Vals dvs ds) (hx : Passes CX X E)
    (ha : PA X (e :: es) t) (hdb : (x == ("__debug__" : Str)) = false := by decide) (he : starEach (e :: es) X.env = (false, eval e X.env) :: starEach es X.env := by rfl) (hpl : (backTo pos (starEach es X.env)).any (·.1) = false := by rfl) :
    PE X (.Call (.Name x p) (e :: es) [] pos) (tCall sp dvs E t) := by
  intro pins s σ H Q I h
  refine wpAny_Call_Name_kw (ld_glob I hg hm ?_ hdb)
  refine PySem.W.callWith_K (h₀ := X.base) I.ok.mod.kin hk (thn (ha pos pins s σ H _ I h) fun us s1 ⟨vs, H1, I1, r, q⟩ => ⟨I1.kIn, ?_⟩) he hpl
  exact run_fn F hr hb hd hx I1 r q
theorem pe_call0 (F : FnOk X.prog X.w X.K X.mg X.base CX k f fd ps sp) (hr : Room k X.A) (hg : Gl X x) (hm : X.mg x = some (.ref f)) (hk : PySem.W.keepIn X.K (.ref f) = true) (hb : Binds X.K fd ps ds) (hd : Vals dvs ds) (hx : Passes CX X E)
    (hdb : (x == ("__debug__" : Str)) = false := by decide) : PE X (.Call (.Name x p) [] [] pos) (tCall sp dvs E tNil) := by
  intro pins s σ H Q I h
  refine wpAny_Call_Name_kw (ld_glob I hg hm ?_ hdb)
  exact PySem.W.callWith_K0 I.kIn hk (run_fn (us := []) F hr hb hd hx I .nil h)

/-- o.m(e, ..) -/
theorem pe_meth {pl : Sem Bool} (he : PE X o ta) (c : Cls X.K C) (hm : Meth X.K C m f) (F : FnOk X.prog X.w X.K X.mg X.base CX k f fd ps sp) (hr : Room k X.A) (hb : Binds X.K fd ps ds) (hd : Vals dvs ds) (hx : Passes CX X E) (ha : PA X (e :: es) t)
    (hst : starEach (e :: es) X.env = (false, eval e X.env) :: starEach es X.env := by rfl) (hpl : (backTo pos (starEach es X.env)).any (·.1) = false := by rfl)
    (ht : eval (.Call (.Attribute o m apos) (e :: es) [] pos) X.env = (do
      let ov ← eval o X.env
      standAt apos.atName
      let (f, first) ← holding [ov] (getMethod ov m pl)
      callWith pos f first (backTo pos (starEach (e :: es) X.env)) (backToKw pos (keywordEach [] X.env))) := by rfl) :
    PE X (.Call (.Attribute o m apos) (e :: es) [] pos) (tMeth C m sp dvs E ta t) := by
  intro pins s σ H Q I h
  refine PySem.W.methodCall_KW (pl := pl) (thn (he pins s σ H _ I h) fun u s1 ⟨x, H1, I1, rx, a, dx, fs, ex, ea, l, q⟩ => ?_) ht
  subst ex
  obtain rfl : u = Value.ref a := rx
  refine getmeth_ok I1 ea c hm l ?_
  refine PySem.W.callWith_K (first := [.ref a]) (h₀ := X.base) I.ok.mod.kin hm.kp (thn (ha pos pins s1 σ H1 _ I1 q) fun us s2 ⟨vs, H2, I2, r, q2⟩ => ⟨I2.kIn, ?_⟩) hst hpl
  exact run_fn (us := .ref a :: us) (vs := .ref a :: vs) F hr hb hd hx I2 (.cons rfl r) q2
/-- o.m() -/
theorem pe_meth0 {pl : Sem Bool} (he : PE X o ta) (c : Cls X.K C) (hm : Meth X.K C m f) (F : FnOk X.prog X.w X.K X.mg X.base CX k f fd ps sp) (hr : Room k X.A) (hb : Binds X.K fd ps ds) (hd : Vals dvs ds) (hx : Passes CX X E)
    (ht : eval (.Call (.Attribute o m apos) [] [] pos) X.env = (do
      let ov ← eval o X.env
      standAt apos.atName
      let (f, first) ← holding [ov] (getMethod ov m pl)
      callWith pos f first (backTo pos (starEach [] X.env)) (backToKw pos (keywordEach [] X.env))) := by rfl) :
    PE X (.Call (.Attribute o m apos) [] [] pos) (tMeth C m sp dvs E ta tNil) := by
  intro pins s σ H Q I h
  refine PySem.W.methodCall_KW (pl := pl) (thn (he pins s σ H _ I h) fun u s1 ⟨x, H1, I1, rx, a, dx, fs, ex, ea, l, q⟩ => ?_) ht
  subst ex
  obtain rfl : u = Value.ref a := rx
  refine getmeth_ok I1 ea c hm l ?_
  exact PySem.W.callWith_K0 (first := [.ref a]) I1.kIn hm.kp (run_fn (us := [.ref a]) (vs := [.ref a]) F hr hb hd hx I1 (.cons rfl .nil) q)

/-- what a class must have to be made -/
structure Mk (K : PySem.W.Frag) (C f : Addr) : Prop where
  makes : PySem.W.makesIn K C = true
  init : PySem.W.findIn K (.ref C) "__init__" = some (some (.ref f))
  fn : PySem.W.isFn K (.ref f) = true
  kp : PySem.W.keepIn K (.ref C) = true

theorem run_make {pins : List (Addr × Obj)} {σ : St} {H : Hp} {s : Shared} {Q : VK} {us : List Value} {vs : List V} (M : Mk X.K C f) (F : FnOk X.prog X.w X.K X.mg X.base CX k f fd ps sp) (hr : Room (k + 1) X.A) (hb : Binds X.K fd ps ds) (hd : Vals dvs ds)
    (hx : Passes CX X E) (I : Inv X pins σ H s) (r : Vals vs us)
    (h : ∀ x dx, H x = none → H dx = none → dx ≠ x → sp (.ref x :: (vs ++ dvs)) (upd (upd H dx (.own x)) x (.ins C dx [])) (fun v H2 => v = .non ∧ Q (.ref x) H2) E) :
    wpAny (model X.prog X.w) X.A (call (.ref C) us) (EP X pins σ Q) X.xe s := by
  have hq := h (s.heap.objs.size + 1) s.heap.objs.size (I.hok.fresh (Nat.le_succ _)) (I.hok.fresh (Nat.le_refl _)) (Nat.ne_of_lt (Nat.lt_succ_self _))
  have I2 := Inv.made (C := C) I
  have r2 : Vals (V.ref (s.heap.objs.size + 1) :: (vs ++ dvs)) (Value.ref (s.heap.objs.size + 1) :: (us ++ ds)) := .cons rfl (r.append hd)
  have hl : (Value.ref (s.heap.objs.size + 1) :: us ++ ds).length = ps.length := by
    have e := r2.length
    rw [F.len _ _ _ _ hq] at e
    exact e.symm
  refine wpAny_call (make_map (f := f) I.kIn M.makes M.init (beq_iff_eq.mp M.fn) (codeAny_mono (F.run _ X.stack _ _ ⟨Value.ref (s.heap.objs.size + 1) :: us, []⟩ (Value.ref (s.heap.objs.size + 1) :: (us ++ ds)) _ _ E (hr.make C us [])
    (I2.env0.make C us []) (hb _ (Value.ref (s.heap.objs.size + 1) :: us) I2.kIn hl) r2 hq) fun r s' hq' => ?_))
  cases r with
  | error e => exact hx pins σ _ _ e s' I2 hq'
  | ok fl =>
    cases fl with
    | ret u =>
      obtain ⟨v, H', I3, rv, ev, q3⟩ := I2.after hq'
      subst ev
      exact ⟨rv, ⟨V.ref (s.heap.objs.size + 1), H', I3, rfl, q3⟩⟩
    | next => exact False.elim hq'
    | brk => exact False.elim hq'
    | cont => exact False.elim hq'
theorem pe_make (M : Mk X.K C f) (F : FnOk X.prog X.w X.K X.mg X.base CX k f fd ps sp) (hr : Room (k + 1) X.A) (hg : Gl X x) (hm : X.mg x = some (.ref C)) (hb : Binds X.K fd ps ds) (hd : Vals dvs ds) (hx : Passes CX X E)
    (ha : PA X (e :: es) t) (hdb : (x == ("__debug__" : Str)) = false := by decide) (he : starEach (e :: es) X.env = (false, eval e X.env) :: starEach es X.env := by rfl) (hpl : (backTo pos (starEach es X.env)).any (·.1) = false := by rfl) :
    PE X (.Call (.Name x p) (e :: es) [] pos) (tMake C sp dvs E t) := by
  intro pins s σ H Q I h
  refine wpAny_Call_Name_kw (ld_glob I hg hm ?_ hdb)
  refine PySem.W.callWith_K (h₀ := X.base) I.ok.mod.kin M.kp (thn (ha pos pins s σ H _ I h) fun us s1 ⟨vs, H1, I1, r, q⟩ => ⟨I1.kIn, ?_⟩) he hpl
  exact run_make M F hr hb hd hx I1 r q
theorem pe_make0 (M : Mk X.K C f) (F : FnOk X.prog X.w X.K X.mg X.base CX k f fd ps sp) (hr : Room (k + 1) X.A) (hg : Gl X x) (hm : X.mg x = some (.ref C)) (hb : Binds X.K fd ps ds) (hd : Vals dvs ds) (hx : Passes CX X E)
    (hdb : (x == ("__debug__" : Str)) = false := by decide) : PE X (.Call (.Name x p) [] [] pos) (tMake C sp dvs E tNil) := by
  intro pins s σ H Q I h
  refine wpAny_Call_Name_kw (ld_glob I hg hm ?_ hdb)
  exact PySem.W.callWith_K0 I.kIn M.kp (run_make (us := []) M F hr hb hd hx I .nil h)
end

/-! ### keywords -/
/-- the values of the keywords, from the left -/
def PK (X : Cx) (kws : List Keyword) (t : TA) : Prop :=
  ∀ (pos : Pos) (pins : List (Addr × Obj)) (s : Shared) (σ : St) (H : Hp) (Q : List V → Hp → Prop), Inv X pins σ H s → t σ H Q → wpAny (model X.prog X.w) X.A (evalAll ((backToKw pos (keywordEach kws X.env)).map (·.2))) (AP X pins σ Q) X.xe s
section
variable {X : Cx} {CX : CXT} {k : Nat} {f C : Addr} {fd : FuncData} {ps ks : List Str} {sp : Sp} {E : XK} {x m : Str} {p pos apos kpos : Pos} {e o : Expr} {es : List Expr} {kws : List Keyword} {te ta : TE} {t tk : TA} {nm : Option Str}
theorem pk_nil : PK X [] tNil := fun _ _ _ _ H Q I h => wpAny_evalAll_nil ⟨[], H, I, .nil, h⟩
theorem pk_cons (ha : PE X e te) (hr : PK X kws t) : PK X (⟨nm, e, kpos⟩ :: kws) (tCons te t) := by
  intro pos pins s σ H Q I h
  show wpAny _ _ (evalAll ((do let v ← eval e X.env; standAt pos; pure v) :: (backToKw pos (keywordEach kws X.env)).map (·.2))) _ _ s
  refine wpAny_evalAll_cons (wpAny_bind (thn (ha pins s σ H _ I h) fun u s1 ⟨x, H1, I1, r1, q1⟩ => wpAny_bind (wpAny_standAt (wpAny_pure ?_))))
  exact thn (hr pos pins s1 σ H1 _ I1 q1) fun us s2 ⟨xs, H2, I2, r2, q2⟩ => ⟨x :: xs, H2, I2, .cons r1 r2, q2⟩

/-- how a call with keywords binds: g puts the positional values us and the keywords' values ws (names ks) in the parameters' order, defaults among them -/
structure KBinds (K : PySem.W.Frag) (fd : FuncData) (ps ks : List Str) (g : List Value → List Value → List Value) (gV : List V → List V → List V) : Prop where
  to : ∀ (s : Shared) (us ws : List Value), K.In s.heap → (g us ws).length = ps.length → BindsTo s fd ⟨us, ks.zip ws⟩ (ps.zip (g us ws))
  rel : ∀ {vs : List V} {us : List Value} {zs : List V} {ws : List Value}, Vals vs us → Vals zs ws → Vals (gV vs zs) (g us ws)
def tCallK (sp : Sp) (gV : List V → List V → List V) (E : XK) (t tk : TA) : TE := fun σ H Q => t σ H fun vs H1 => tk σ H1 fun zs H2 => sp (gV vs zs) H2 Q E
variable {g : List Value → List Value → List Value} {gV : List V → List V → List V}
theorem run_fnk {pins : List (Addr × Obj)} {σ : St} {H : Hp} {s : Shared} {Q : VK} {us ws : List Value} {vs zs : List V} (F : FnOk X.prog X.w X.K X.mg X.base CX k f fd ps sp) (hr : Room k X.A) (hb : KBinds X.K fd ps ks g gV) (hx : Passes CX X E)
    (I : Inv X pins σ H s) (r : Vals vs us) (rz : Vals zs ws) (h : sp (gV vs zs) H Q E) : wpAny (model X.prog X.w) X.A (call (.ref f) us (ks.zip ws)) (EP X pins σ Q) X.xe s := by
  have r2 := hb.rel r rz
  have hl : (g us ws).length = ps.length := by rw [← r2.length]; exact F.len _ _ _ _ h
  refine wpAny_call (codeAny_mono (F.run X.A X.stack s H ⟨us, ks.zip ws⟩ (g us ws) (gV vs zs) Q E hr I.env0 (hb.to s us ws I.kIn hl) r2 h) fun r s' hq => ?_)
  cases r with
  | error e => exact hx pins σ H s e s' I hq
  | ok fl =>
    cases fl with
    | ret u => exact I.after hq
    | next => exact False.elim hq
    | brk => exact False.elim hq
    | cont => exact False.elim hq
/-- f(e, .., k = v, ..) -/
theorem pe_callK (F : FnOk X.prog X.w X.K X.mg X.base CX k f fd ps sp) (hr : Room k X.A) (hg : Gl X x) (hm : X.mg x = some (.ref f)) (hk : PySem.W.keepIn X.K (.ref f) = true) (hb : KBinds X.K fd ps ks g gV) (hx : Passes CX X E)
    (ha : PA X (e :: es) t) (hkw : PK X kws tk) (hall : (backToKw pos (keywordEach kws X.env)).all (·.1.isSome) = true := by rfl) (hks : (backToKw pos (keywordEach kws X.env)).filterMap (·.1) = ks := by rfl)
    (hdb : (x == ("__debug__" : Str)) = false := by decide) (he : starEach (e :: es) X.env = (false, eval e X.env) :: starEach es X.env := by rfl)
    (hpl : ((backTo pos (starEach (e :: es) X.env)).any (·.1) || (backToKw pos (keywordEach kws X.env)).any (·.1.isNone)) = false := by rfl) :
    PE X (.Call (.Name x p) (e :: es) kws pos) (tCallK sp gV E t tk) := by
  intro pins s σ H Q I h
  refine wpAny_Call_Name_kw (ld_glob I hg hm ?_ hdb)
  refine PySem.W.callWith_KW (h₀ := X.base) I.ok.mod.kin hk hall (thn (ha pos pins s σ H _ I h) fun us s1 ⟨vs, H1, I1, r, q⟩ => ?_) hpl he
  refine thn (hkw pos pins s1 σ H1 _ I1 q) fun ws s2 ⟨zs, H2, I2, rz, q2⟩ => ⟨I2.kIn, ?_⟩
  rw [hks]
  exact run_fnk F hr hb hx I2 r rz q2
end

/-! ### a def's body keeps its promise -/
/-- names: the parameters first -/
structure FnScope (N P : List Str) (sc : Scope) : Prop where
  kind : sc.kind = .function
  co : sc.isCoroutine = false
  gen : sc.isGenerator = false
  nd : N.Nodup
  pre : N.take P.length = P
  par : ∀ x ∈ P, sc.names.lookup x = some .local ∨ sc.names.lookup x = some .cell
  nofree : ∀ y ∈ sc.names, y.2 ≠ .free

theorem bindL_out {kindOf : Str → Option NameKind} {x : Str} : ∀ {binds : List (Str × Value)} {m : Str → Option Value}, (∀ v, (x, v) ∉ binds) → bindL kindOf binds m x = m x
  | [], _, _ => rfl
  | (n, v) :: r, m, h => by
    unfold bindL
    rw [bindL_out fun w hw => h w (List.mem_cons_of_mem _ hw)]
    split
    · have : x ≠ n := by rintro rfl; exact h v List.mem_cons_self
      simp [this]
    · rfl
theorem bindC_out {kindOf : Str → Option NameKind} {x : Str} : ∀ {binds : List (Str × Value)} {m : Str → Option Value}, (∀ v, (x, v) ∉ binds) → bindC kindOf binds m x = m x
  | [], _, _ => rfl
  | (n, v) :: r, m, h => by
    unfold bindC
    rw [bindC_out fun w hw => h w (List.mem_cons_of_mem _ hw)]
    split
    · rfl
    · have : x ≠ n := by rintro rfl; exact h v List.mem_cons_self
      simp [this]
theorem bindL_get {kindOf : Str → Option NameKind} {x : Str} {v : Value} : ∀ {P : List Str} {vs : List Value} {i : Nat} {m : Str → Option Value}, P.Nodup → P[i]? = some x → vs[i]? = some v → kindOf x = some .local →
    bindL kindOf (P.zip vs) m x = some v
  | [], _, _, _, _, h, _, _ => by simp at h
  | _ :: _, [], _, _, _, _, h, _ => by simp at h
  | p :: P, w :: vs, 0, m, nd, h1, h2, hk => by
    simp at h1 h2; subst h1; subst h2
    show bindL kindOf ((p, w) :: P.zip vs) m p = _
    unfold bindL
    rw [bindL_out fun v hv => (List.nodup_cons.mp nd).1 (List.of_mem_zip hv).1, if_pos hk]
    simp
  | p :: P, w :: vs, i + 1, m, nd, h1, h2, hk => by
    show bindL kindOf ((p, w) :: P.zip vs) m x = _
    unfold bindL
    exact bindL_get (i := i) (List.nodup_cons.mp nd).2 (by simpa using h1) (by simpa using h2) hk
theorem bindC_get {kindOf : Str → Option NameKind} {x : Str} {v : Value} : ∀ {P : List Str} {vs : List Value} {i : Nat} {m : Str → Option Value}, P.Nodup → P[i]? = some x → vs[i]? = some v → kindOf x ≠ some .local →
    bindC kindOf (P.zip vs) m x = some v
  | [], _, _, _, _, h, _, _ => by simp at h
  | _ :: _, [], _, _, _, _, h, _ => by simp at h
  | p :: P, w :: vs, 0, m, nd, h1, h2, hk => by
    simp at h1 h2; subst h1; subst h2
    show bindC kindOf ((p, w) :: P.zip vs) m p = _
    unfold bindC
    rw [bindC_out fun v hv => (List.nodup_cons.mp nd).1 (List.of_mem_zip hv).1, if_neg hk]
    simp
  | p :: P, w :: vs, i + 1, m, nd, h1, h2, hk => by
    show bindC kindOf ((p, w) :: P.zip vs) m x = _
    unfold bindC
    exact bindC_get (i := i) (List.nodup_cons.mp nd).2 (by simpa using h1) (by simpa using h2) hk

/-- the names' values at the entry -/
def start (N : List Str) (vs : List V) : St := vs.map some ++ List.replicate (N.length - vs.length) none

/-- the context of a def's body, at its entry; an exception leaves the frame, then lies as CX says -/
def cxOf (CX : CXT) (P : Program) (w : World) (K : PySem.W.Frag) (mg : Str → Option Value) (base : Heap) (N : List Str) (qual : Str) (scope : Scope) (f : Addr) (cd : Value) (A : Around) (outer : List Env) (s : Shared) (H : Hp) (E : XK) : Cx where
  prog := P
  w := w
  K := K
  mg := mg
  base := base
  A := A.deeper (envOfC qual scope s.heap.objs.size f cd)
  N := N
  s₀ := s
  H₀ := H
  env := envOfC qual scope s.heap.objs.size f cd
  outer := outer
  stack := envOfC qual scope s.heap.objs.size f cd :: outer
  ex := []
  calm := true
  fn := fun _ => true
  pn := []
  xe := fun e s' => wpAny (model P w) (A.deeper (envOfC qual scope s.heap.objs.size f cd)) (leaving (envOfC qual scope s.heap.objs.size f cd) e) (fun _ s'' => CX outer H s E e s'') (fun e' s'' => CX outer H s E e' s'') s'

theorem cell_has {sc : Scope} {n : Nat} {x : Str} (h : sc.names.lookup x = some .cell) : ∃ c, (cellsFrom n sc.names []).lookup x = some c := by
  have q := PySem.W.cellsFrom_some sc.names n [] (.inl h)
  exact Option.isSome_iff_exists.mp q

theorem inv_start {CX : CXT} {P : Program} {w : World} {K : PySem.W.Frag} {mg : Str → Option Value} {base : Heap} {N ps : List Str} {qual : Str} {scope : Scope} {f : Addr} {cd : Value} {A : Around} {outer : List Env} {s s1 : Shared} {H : Hp} {E : XK} {us : List Value} {vs : List V}
    (S : FnScope N ps scope) (hd : A.handled = none) (e0 : Env0 P w K mg base A outer s H) (hl : vs.length = ps.length) (r : Vals vs us)
    (x : InCallC s s.heap.objs.size (bindL (envOfC qual scope s.heap.objs.size f cd).kindOf (ps.zip us) fun _ => none) (cellsFrom (s.heap.objs.size + 1) scope.names []) (bindC (envOfC qual scope s.heap.objs.size f cd).kindOf (ps.zip us) fun _ => none) s1) :
    Inv (cxOf CX P w K mg base N qual scope f cd A outer s H E) [] (start N vs) H s1 := by
  have hpl : ps.length ≤ N.length := by have := congrArg List.length S.pre; rw [List.length_take] at this; omega
  obtain ⟨h1, tk, rfl, hk⟩ := x.done
  have noA : ∀ b : Addr, b ∉ (cxOf CX P w K mg base N qual scope f cd A outer s H E).ex := fun b z => absurd (show b ∈ ([] : List Addr) from z) (by simp)
  refine ⟨⟨e0.mod, S.kind, rfl, rfl, Nat.le_refl _, fun y z c h1 h2 => ?_, fun y hy => ?_, fun y c _ h => ?_, fun _ => hd, Around.frames_deeper e0.frames, .inr ⟨rfl, rfl⟩, fun b z => absurd z (noA b), e0.bs, e0.bsz, fun b _ _ => noA b, fun b z => absurd z (noA b), e0.funs, e0.frf⟩,
    rfl, e0.bare, Un.kept hk, ⟨_, x.toInCall.ns, fun i y v h1 h2 h3 => ?_⟩, fun y c h => ⟨_, x.cell y c h⟩, e0.hok.fresh (Nat.le_refl _), fun y c h => ?_, fun p hp => absurd (show p ∈ ([] : List (Addr × Obj)) from hp) (by simp), e0.hok.kept hk, ?_⟩
  · exact name_of_addr x.apart (PySem.mem_of_lookup h1) (PySem.mem_of_lookup h2)
  · have hy : scope.names.lookup y = some .cell ∨ scope.names.lookup y = some .free := hy
    rcases hy with hy | hy
    · exact cell_has hy
    · exact absurd rfl (S.nofree _ (PySem.mem_of_lookup hy))
  · exact Nat.le_of_lt (x.above y c (PySem.mem_of_lookup h))
  · have hi : i < vs.length := by
      unfold start at h2
      by_cases hi : i < vs.length
      · exact hi
      · rw [List.getElem?_append_right (by simpa using hi)] at h2
        rw [List.getElem?_replicate] at h2
        split at h2 <;> cases h2
    have ha : vs[i]? = some v := by
      unfold start at h2
      rw [List.getElem?_append_left (by simpa using hi), List.getElem?_map] at h2
      cases e : vs[i]? with
      | none => rw [e] at h2; cases h2
      | some a => rw [e] at h2; cases h2; rfl
    obtain ⟨u, hu, rv⟩ := r.get ha
    have hp : ps[i]? = some y := by
      rw [← S.pre, List.getElem?_take_of_lt (by omega)]; exact h1
    have ndP : ps.Nodup := by rw [← S.pre]; exact S.nd.sublist (List.take_sublist _ _)
    refine ⟨u, rv, ?_⟩
    rcases S.par y (List.mem_of_getElem? hp) with k | k
    · exact .inl ⟨k, bindL_get ndP hp hu k⟩
    · obtain ⟨c, e⟩ := cell_has (n := s.heap.objs.size + 1) k
      refine .inr ⟨.inl k, c, e, ?_⟩
      have q := x.cell y c e
      rw [bindC_get ndP hp hu (by show scope.names.lookup y ≠ _; rw [k]; decide)] at q
      exact q
  · exact e0.hok.fresh (Nat.le_of_lt (x.above y c (PySem.mem_of_lookup h)))
  · unfold start
    show _ = N.length
    rw [List.length_append, List.length_map, List.length_replicate]
    omega

/-- THE RULE: a def (or a method) of the text, by its body. The body's reading t is chosen for each entry; it is run at the parameters' values -/
theorem fn_of {CX : CXT} {P : Program} {w : World} {K : PySem.W.Frag} {mg : Str → Option Value} {base : Heap} {k : Nat} {f : Addr} {name qual : Str} {params : Arguments} {body : List Stmt} {scope : Scope} {dV kV doc pm cdv ct oc : Value} {an od : Option Addr}
    {osl : Array (Option Value)} {N ps : List Str} {sp : Sp} (lk : K.lookup f = some ⟨oc, od, .func (PySem.W.fnOf name qual params body scope dV kV doc pm an cdv ct), osl⟩) (hcd : PySem.W.codeIn K cdv qual = true) (S : FnScope N ps scope)
    (len : ∀ vs H Q E, sp vs H Q E → vs.length = ps.length)
    (hbody : ∀ (A : Around) (outer : List Env) (s : Shared) (H : Hp) (vs : List V) (Q : VK) (E : XK), Room k (A.deeper (envOfC qual scope s.heap.objs.size f cdv)) → sp vs H Q E →
      ∃ t, PSs (cxOf CX P w K mg base N qual scope f cdv A outer s H E) body t ∧ t { nx := fun _ H' => Q .non H', rt := Q } (start N vs) H) :
    FnOk P w K mg base CX (k + 1) f (PySem.W.fnOf name qual params body scope dV kV doc pm an cdv ct) ps sp := by
  refine ⟨len, fun A outer s H args us vs Q E hr e0 hb r hsp => ?_⟩
  have hl := len _ _ _ _ hsp
  have KX : K.In s.heap := e0.mod.kin.keeps fun b o e => (e0.bs b o e).1
  have lim : s.heap.NoLimit := e0.mod.nolimit.keeps fun b o e => (e0.bs b o e).1
  have hkind : ∀ y ∈ ps.zip us, scope.names.lookup y.1 = some .local ∨ (scope.names.lookup y.1 = some .cell ∧ ((cellsFrom (s.heap.objs.size + 1) scope.names []).lookup y.1).isSome = true) := fun ⟨n, v⟩ hy => by
    rcases S.par n (List.of_mem_zip hy).1 with q | q
    · exact .inl q
    · exact .inr ⟨q, PySem.W.cellsFrom_some _ _ _ (.inl q)⟩
  refine codeAny_call_function hr.depth (KX _ _ lk) rfl S.co S.gen rfl (PySem.W.codeRec_of KX hcd) (hb _ _ _ _ ?_)
  refine wpAny_newFunctionEnv_cells S.kind hkind fun env he s1 x => ?_
  subst he
  refine ⟨lim.keeps x.toInCall.keep, codeAny_func ?_⟩
  obtain ⟨t, ht, hq⟩ := hbody A outer s H vs Q E (hr.deeper _) hsp
  have I : Inv (cxOf CX P w K mg base N qual scope f cdv A outer s H E) [] (start N vs) H s1 := inv_start S hr.hd e0 hl r x
  refine wpAny_mono (ht [] s1 (start N vs) H _ I hq) (fun fl s' hs => ?_) fun e s' hs => hs
  have fin : ∀ {σ' : St} {H' : Hp} {v : V} {u : Value}, Inv (cxOf CX P w K mg base N qual scope f cdv A outer s H E) [] σ' H' s' → RelV v u → Q v H' → CE outer P w H s Q u s' :=
    fun {σ' H' v u} J rv q => ⟨v, H', J.os, J.bare, J.base, J.hok, rv, q⟩
  cases fl with
  | ret u =>
    obtain ⟨v, σ', H', J, rv, q⟩ := hs
    exact fin J rv q
  | next =>
    obtain ⟨σ', H', J, q⟩ := hs
    exact fin (v := V.non) (u := Value.none) J rfl q
  | brk =>
    obtain ⟨_, _, _, q⟩ := hs
    exact False.elim q
  | cont =>
    obtain ⟨_, _, _, q⟩ := hs
    exact False.elim q
end L2

namespace L2
open PySem PySem.Spec PyProof.Rows
section
variable {X : Cx} {x : Str} {p pos : Pos} {e : Expr} {es : List Expr} {t : TA} {id T : String} {r : List V → Hp → VK → Prop}

def tCB (r : List V → Hp → VK → Prop) (t : TA) : TE := fun σ H Q => t σ H fun vs H1 => r vs H1 Q
/-- f(e, ..), f a built-in function -/
theorem pe_callB (hc : CallR X (.builtin id) r) (hg : Gl X x) (hm : X.mg x = none) (hv : bootBuiltins x = some (.builtin id)) (ha : PA X (e :: es) t) (hn : x ≠ "__name__" := by decide) (hdb : (x == ("__debug__" : Str)) = false := by decide)
    (he : starEach (e :: es) X.env = (false, eval e X.env) :: starEach es X.env := by rfl) (hpl : (backTo pos (starEach es X.env)).any (·.1) = false := by rfl) : PE X (.Call (.Name x p) (e :: es) [] pos) (tCB r t) := by
  intro pins s σ H Q I h
  refine wpAny_Call_Name_kw (ld_blt I hg hm hv ?_ hn hdb)
  exact PyProof.Rows.callWith_builtin1 (thn (ha pos pins s σ H _ I h) fun us s1 ⟨vs, H1, I1, r1, q1⟩ => hc pins s1 σ H1 vs us Q I1 r1 q1) he hpl
/-- T(e, ..), T a built-in type -/
theorem pe_callTy (hc : CallR X (.type T) r) (hg : Gl X x) (hm : X.mg x = none) (hv : bootBuiltins x = some (.type T)) (ha : PA X (e :: es) t) (hn : x ≠ "__name__" := by decide) (hdb : (x == ("__debug__" : Str)) = false := by decide)
    (he : starEach (e :: es) X.env = (false, eval e X.env) :: starEach es X.env := by rfl) (hpl : (backTo pos (starEach es X.env)).any (·.1) = false := by rfl) : PE X (.Call (.Name x p) (e :: es) [] pos) (tCB r t) := by
  intro pins s σ H Q I h
  refine wpAny_Call_Name_kw (ld_blt I hg hm hv ?_ hn hdb)
  exact PyProof.Rows.callWith_type1 (thn (ha pos pins s σ H _ I h) fun us s1 ⟨vs, H1, I1, r1, q1⟩ => hc pins s1 σ H1 vs us Q I1 r1 q1) he hpl
/-- T() -/
theorem pe_callTy0 (hc : CallR X (.type T) r) (hg : Gl X x) (hm : X.mg x = none) (hv : bootBuiltins x = some (.type T)) (hn : x ≠ "__name__" := by decide) (hdb : (x == ("__debug__" : Str)) = false := by decide) :
    PE X (.Call (.Name x p) [] [] pos) (tCB r tNil) := by
  intro pins s σ H Q I h
  refine wpAny_Call_Name_kw (ld_blt I hg hm hv ?_ hn hdb)
  exact PyProof.Rows.callWith_type0 (hc pins s σ H [] [] Q I .nil h)
end
end L2

namespace HT
open PySem PyProof.Rows

/-- t < u of tuples of ints -/
def lexLt : List Int → List Int → Bool
  | [], [] => false
  | [], _ :: _ => true
  | _ :: _, [] => false
  | x :: xs, y :: ys => if x = y then lexLt xs ys else decide (x < y)
theorem lexLt_cons (x y : Int) (xs ys : List Int) : lexLt (x :: xs) (y :: ys) = if x = y then lexLt xs ys else decide (x < y) := rfl
theorem lexLt_nil_nil : lexLt [] [] = false := rfl
theorem lexLt_nil_cons (y : Int) (ys : List Int) : lexLt [] (y :: ys) = true := rfl
theorem lexLt_cons_nil (x : Int) (xs : List Int) : lexLt (x :: xs) [] = false := rfl

theorem eqAt_int (A : Around) (s : Shared) (a : Int) (t : Tok) (c : Int) (u : Tok) : ∃ e, SeqAt.EqAt A s (.int a t) (.int c u) e ∧ (e = true ↔ a = c) :=
  ⟨(a == c), SeqAt.EqAt.int_int a t c u, by simp⟩
theorem rcLt_int (A : Around) (s : Shared) (a : Int) (t : Tok) (c : Int) (u : Tok) (prog : Program) (w : World) (E : Value → Shared → Prop) (Q : Value → Shared → Prop) (h : Q (.bool (decide (a < c))) s) :
    wpAny (model prog w) A (richCompare .Lt (.int a t) (.int c u)) Q E s :=
  (PyProof.Rows.lt_int h : wpAny (model prog w) A (compareOp .Lt (.int a t) (.int c u)) Q E s)

section
open PySem.SeqAt
open PySem.AutoSeq1 (wpAny_loadPart')
open PySem.MeetsSeq PySem.MeetsSeq2 PySem.MeetsSeq3

theorem tuple_lt_ints (l b : Addr) (items items2 : Array Value) (n n2 : Nat) (dd dd2 : Option Addr) (sl sl2 : Array (Option Value)) (ns ms : List Int) (hi : IntsAre items.toList ns) (hj : IntsAre items2.toList ms) :
    Meets (Builtin.«tuple.__lt__» ⟨[.ref l, .ref b], []⟩)
      (fun _ R s => s.heap.get? l = some { cls := .type "tuple", dict := dd, data := .seq items n, slots := sl } ∧ s.heap.get? b = some { cls := .type "tuple", dict := dd2, data := .seq items2 n2, slots := sl2 } ∧
        R (.ok (.ret (.bool (lexLt ns ms)))) s) :=
  .of_wp fun prog w A R s h => by
    obtain ⟨hp, g, d, tk, os⟩ := s; obtain ⟨hl, hb, h⟩ := h
    have f2 := AutoSeq1.sub_tuple_tuple
    have z1 : items.size = ns.length := by rw [← hi.length]; simp
    have z2 : items2.size = ms.length := by rw [← hj.length]; simp
    wp_walk using wpAny_loadPart' hl, wpAny_loadPart' hb, wpAny_forIn_list _ (fun rest b s' => b.1 = none ∧ s' = ⟨hp, g, d, tk, os⟩ ∧ ∃ (vs ws : List Value) (ns' ms' : List Int), rest = vs.zip ws ∧
      IntsAre vs ns' ∧ IntsAre ws ms' ∧ ns'.length + items2.size = ms'.length + items.size ∧ R (.ok (.ret (.bool (lexLt ns' ms')))) ⟨hp, g, d, tk, os⟩) _
    case turn =>
      rintro ⟨y, x⟩ rest b s' ⟨hb', rfl, vs, ws, ns', ms', hz, hvi, hwi, hlen, hR⟩
      cases hvi with
      | nil => rw [List.zip_nil_left] at hz; cases hz
      | cons a t hvi' =>
        cases hwi with
        | nil => rw [List.zip_nil_right] at hz; cases hz
        | cons c u hwi' =>
          rw [List.zip_cons_cons] at hz
          injection hz with hyx hrest
          injection hyx with hy hx
          subst hy hx
          rw [lexLt_cons] at hR
          simp only [List.length_cons] at hlen
          obtain ⟨e, he, hiff⟩ := eqAt_int A.in1 ⟨hp, g, d, tk, os⟩ a t c u
          refine wpAny_bind (he prog w _ _ ?_)
          cases e with
          | true =>
            rw [if_pos (hiff.mp rfl)] at hR
            wp_walk
            exact ⟨rfl, rfl, _, _, _, _, hrest, hvi', hwi', by omega, hR⟩
          | false =>
            rw [if_neg (fun q => absurd (hiff.mpr q) Bool.false_ne_true)] at hR
            have hri := rcLt_int A.in1 ⟨hp, g, d, tk, os⟩ a t c u prog w
            wp_walk using hri
            exact ⟨_, rfl, by simpa using hR⟩
    case fin =>
      rintro ⟨b1, b2⟩ s' ⟨hb', rfl, vs, ws, ns', ms', hz, hvi, hwi, hlen, hR⟩
      simp only at hb'
      subst hb'
      have hv : lexLt ns' ms' = decide (items.size < items2.size) := by
        cases hvi with
        | nil =>
          cases hwi with
          | nil =>
            simp only [List.length_nil] at hlen
            rw [lexLt_nil_nil]
            exact (decide_eq_false (by omega)).symm
          | cons c u hw =>
            simp only [List.length_nil, List.length_cons] at hlen
            rw [lexLt_nil_cons]
            exact (decide_eq_true (by omega)).symm
        | cons a t hv =>
          cases hwi with
          | nil =>
            simp only [List.length_nil, List.length_cons] at hlen
            rw [lexLt_cons_nil]
            exact (decide_eq_false (by omega)).symm
          | cons c u hw =>
            rw [List.zip_cons_cons] at hz
            cases hz
      rw [hv] at hR
      wp_walk
      exact ⟨_, rfl, by simpa [Builtin.Tuple.tupleCompareSizes] using hR⟩
    case h =>
      exact ⟨rfl, rfl, items.toList, items2.toList, ns, ms, rfl, hi, hj, by omega, h⟩
end

section
variable {prog : Program} {w : World} {A : Around} {E : Value → Shared → Prop} {s : Shared}

theorem lt_tupInts {l b : Addr} {items items2 : Array Value} {ns ms : List Int} {Q : Value → Shared → Prop} (hl : IsTup s.heap l items) (hb : IsTup s.heap b items2) (hi : IntsAre items.toList ns) (hj : IntsAre items2.toList ms)
    (hu : A.units < cLine) (h : Q (.bool (lexLt ns ms)) s) : wpAny (model prog w) A (compareOp .Lt (.ref l) (.ref b)) Q E s := by
  obtain ⟨⟨cls, dd, data, sl⟩, ho, hc, n, hd⟩ := id hl
  obtain ⟨⟨cls2, dd2, data2, sl2⟩, ho2, hc2, n2, hd2⟩ := id hb
  simp only at hc hd hc2 hd2
  subst hc hd hc2 hd2
  exact richCompare_meets_room (op := .Lt) ⟨_, ho, rfl⟩ ⟨_, ho2, rfl⟩ PySem.F.slot_tuple_lt PySem.F.entry_tuple_lt (PySem.F.args_tuple_lt_2 _ _) (tuple_lt_ints l b items items2 n n2 dd dd2 sl sl2 ns ms hi hj)
    ⟨ho, ho2, show Value.bool (lexLt ns ms) ≠ Value.notImplemented ∧ Q (.bool (lexLt ns ms)) s from ⟨(fun x => nomatch x), h⟩⟩ hu

/-- t + u, t not empty -/
theorem cat_tup {t b : Addr} {vs ws : List Value} {Q : Value → Shared → Prop} (ht : IsTup s.heap t vs.toArray) (hb : IsTup s.heap b ws.toArray) (hv : vs ≠ [])
    (h1 : ws = [] → Q (.ref t) s) (h2 : ws ≠ [] → Q (.ref s.heap.objs.size) { s with heap := s.heap.push { cls := .type "tuple", data := .seq (vs ++ ws).toArray } })
    (hsz : vs.length + ws.length ≤ sizeLine) : wpAny (model prog w) A (binaryOp .Add (.ref t) (.ref b)) Q E s := by
  obtain ⟨⟨cls, dd, data, sl⟩, ho, hc, n, hd⟩ := id ht
  obtain ⟨⟨cls2, dd2, data2, sl2⟩, ho2, hc2, n2, hd2⟩ := id hb
  simp only at hc hd hc2 hd2
  subst hc hd hc2 hd2
  have e : vs.toArray ++ ws.toArray = (vs ++ ws).toArray := by simp
  by_cases hw : ws = []
  · exact concat_meets ⟨_, ho, rfl⟩ ⟨_, ho2, rfl⟩ noFill_tuple_add seq_tuple_add PySem.F.slot_tuple_add PySem.F.entry_tuple_add (PySem.F.args_tuple_add_2 _ _)
      (tuple_addW1 t b vs.toArray ws.toArray n n2 dd dd2 sl sl2 (by simpa using hv) (by simp [hw])) ⟨ho, ho2, h1 hw⟩
  · refine concat_meets ⟨_, ho, rfl⟩ ⟨_, ho2, rfl⟩ noFill_tuple_add seq_tuple_add PySem.F.slot_tuple_add PySem.F.entry_tuple_add (PySem.F.args_tuple_add_2 _ _)
      (tuple_addW2 t b vs.toArray ws.toArray n n2 dd dd2 sl sl2 (by simpa using hv) (by simpa using hw) (by rw [List.size_toArray, List.size_toArray]; exact hsz)) ⟨ho, ho2, ?_⟩
    rw [e]
    exact h2 hw

/-! ### t[a:b], not the whole -/
/-- a slice's bound as a place among n (d where it is left out) -/
def sIx (n d : Nat) : Option Int → Nat
  | none => d
  | some v => if v < 0 then (v + (n : Int)).toNat else min v.toNat n
theorem sIx_none (n d : Nat) : sIx n d none = d := rfl
theorem sIx_nat (n d k : Nat) : sIx n d (some (k : Int)) = min k n := by
  show (if (k : Int) < 0 then ((k : Int) + (n : Int)).toNat else min (k : Int).toNat n) = min k n
  rw [if_neg (by omega), Int.toNat_natCast]
theorem sIx_le (n d : Nat) (hd : d ≤ n) (o : Option Int) : sIx n d o ≤ n := by
  cases o with
  | none => exact hd
  | some v =>
    show (if v < 0 then (v + (n : Int)).toNat else min v.toNat n) ≤ n
    by_cases hv : v < 0
    · rw [if_pos hv]; omega
    · rw [if_neg hv]; exact Nat.min_le_right _ _
theorem clip_eq (v : Int) (n d : Nat) : (if v < 0 then max (v + (n : Int)) 0 else min v (n : Int)) = ((sIx n d (some v) : Nat) : Int) := by
  show (if v < 0 then max (v + (n : Int)) 0 else min v (n : Int)) = (((if v < 0 then (v + (n : Int)).toNat else min v.toNat n) : Nat) : Int)
  by_cases hv : v < 0
  · simp only [if_pos hv]; omega
  · simp only [if_neg hv]; omega
theorem adjust_gen (lo hi : Option Int) (n : Nat) : Builtin.Slice.sliceAdjust lo hi 1 (n : Int) = (((sIx n 0 lo : Nat) : Int), ((sIx n n hi : Nat) : Int)) := by
  have h1 : ¬ ((1 : Int) < 0) := by omega
  unfold Builtin.Slice.sliceAdjust
  simp only [h1, if_false]
  refine Prod.ext ?_ ?_
  · cases lo with
    | none => rfl
    | some v => exact clip_eq v n 0
  · cases hi with
    | none => rfl
    | some v => exact clip_eq v n n
theorem places_gen (i j : Nat) : Builtin.Slice.slicePlaces (i : Int) (j : Int) 1 = j - i := by
  unfold Builtin.Slice.slicePlaces
  have h1 : (1 : Int) > 0 := by omega
  simp only [h1, if_true, Int.ediv_one]
  split <;> omega
theorem slicePart_ {v : Value} {o : Option Int} {Q : Option Int → Shared → Prop} (p : IsPart v o) (h : Q o s) : wpAny (model prog w) A (Builtin.Slice.slicePartIndex v) Q E s := by
  cases p with
  | none => exact slicePart_none h
  | int i t => exact slicePart_int h
theorem sliceApplied_gen {sl : Addr} {vl vu : Value} {lo hi : Option Int} {n : Nat} {Q : Int × Int × Nat → Shared → Prop} (hs : s.heap.IsSliceOf sl vl vu .none) (pl : IsPart vl lo) (pu : IsPart vu hi)
    (h : Q (((sIx n 0 lo : Nat) : Int), 1, sIx n n hi - sIx n 0 lo) s) : wpAny (model prog w) A (Builtin.Slice.sliceApplied (.ref sl) (pure (n : Int))) Q E s := by
  obtain ⟨os, hos, hcs, hds⟩ := id hs
  unfold Builtin.Slice.sliceApplied Builtin.Slice.sliceFields
  refine wpAny_bind (wpAny_bind (wpAny_field hos hds (x := vl) rfl (wpAny_bind (wpAny_field hos hds (x := vu) rfl (wpAny_bind (wpAny_field hos hds (x := .none) rfl (wpAny_pure ?_)))))))
  refine wpAny_bind (slicePart_none ?_)
  show wpAny _ _ (if ((1 : Int) == 0) = true then _ else _) _ _ s
  rw [if_neg (by decide)]
  refine wpAny_bind (slicePart_ pl (wpAny_bind (slicePart_ pu (wpAny_bind (wpAny_pure ?_)))))
  show wpAny _ _ (match Builtin.Slice.sliceAdjust lo hi 1 (n : Int) with | (lo, hi) => pure (lo, (1 : Int), Builtin.Slice.slicePlaces lo hi 1)) _ _ s
  rw [adjust_gen lo hi n]
  show wpAny _ _ (pure (((sIx n 0 lo : Nat) : Int), (1 : Int), Builtin.Slice.slicePlaces ((sIx n 0 lo : Nat) : Int) ((sIx n n hi : Nat) : Int) 1)) _ _ s
  rw [places_gen]
  exact wpAny_pure h
theorem pick_gen (xs : Array Value) (i k : Nat) : ((List.range k).filterMap fun (m : Nat) => xs[((i : Int) + (m : Int) * 1).toNat]?).toArray = ((xs.toList.drop i).take k).toArray := by
  have e : (fun (m : Nat) => xs[((i : Int) + (m : Int) * 1).toNat]?) = fun m => xs[i + m]? := by
    funext m
    have : ((i : Int) + (m : Int) * 1).toNat = i + m := by omega
    rw [this]
  rw [e]
  have := pick_run xs i k
  rw [List.filterMap_map] at this
  have e2 : ((fun x => xs[x]?) ∘ fun x => i + x) = fun m => xs[i + m]? := rfl
  rw [e2] at this
  rw [this]

theorem getItem_tuple_cut {t sl : Addr} {items : Array Value} {vl vu : Value} {lo hi : Option Int} {Q : Value → Shared → Prop} (ht : IsTup s.heap t items) (hs : s.heap.IsSliceOf sl vl vu .none) (pl : IsPart vl lo) (pu : IsPart vu hi)
    (hw : ¬ (sIx items.size 0 lo = 0 ∧ sIx items.size items.size hi = items.size))
    (h : Q (.ref s.heap.objs.size) { s with heap := s.heap.push { cls := .type "tuple", data := .seq ((items.toList.drop (sIx items.size 0 lo)).take (sIx items.size items.size hi - sIx items.size 0 lo)).toArray } })
    (hsz : items.size ≤ sizeLine) : wpAny (model prog w) A (getItem (.ref t) (.ref sl)) Q E s := by
  have htake : sizeOk (.seq ((items.toList.drop (sIx items.size 0 lo)).take (sIx items.size items.size hi - sIx items.size 0 lo)).toArray) := by
    show ((items.toList.drop (sIx items.size 0 lo)).take (sIx items.size items.size hi - sIx items.size 0 lo)).toArray.size ≤ sizeLine
    rw [List.size_toArray, List.length_take, List.length_drop, Array.length_toList]
    omega
  have hj : sIx items.size items.size hi ≤ items.size := sIx_le _ _ (Nat.le_refl _) hi
  obtain ⟨os, hos, hcs, hds⟩ := id hs
  have hTs : s.TypeIs (.ref sl) "slice" := ⟨os, hos, hcs⟩
  unfold getItem
  try with_reducible refine wpAny_holding ?_
  first | refine wpAny_bind (wpAny_pure ?_) | skip
  refine wpAny_bind (wpAny_sequenceKey ht.typeIs (by decide) ?_)
  refine wpAny_bind (wpAny_callSpecial?_slot (name := Str.ofString "__getitem__") ht.typeIs PyProof.Rows.slot_tuple_getitem
    (wpAny_call_entry PyProof.Rows.slot_tuple_getitem ht.typeIs entry_tuple_getitem ?_ (args_tuple_getitem _ _)))
  show wpAny _ _ (Builtin.Tuple.tupleItemsOf (.ref t) >>= _) _ _ s
  refine wpAny_bind (tupleItemsOf_ ht ?_)
  refine wpAny_bind (wpAny_typeOf hTs ?_)
  rw [if_pos (by decide)]
  refine wpAny_bind (sliceApplied_gen hs pl pu ?_)
  have hno : ¬ ((((sIx items.size 0 lo : Nat) : Int) == 0 && (1 : Int) == 1 && (sIx items.size items.size hi - sIx items.size 0 lo) == items.size) = true) := by
    intro q
    rw [Bool.and_eq_true, Bool.and_eq_true] at q
    have q1 : ((sIx items.size 0 lo : Nat) : Int) = 0 := eq_of_beq q.1.1
    have q2 : sIx items.size items.size hi - sIx items.size 0 lo = items.size := eq_of_beq q.2
    exact hw ⟨by omega, by omega⟩
  show wpAny _ _ (if (((sIx items.size 0 lo : Nat) : Int) == 0 && (1 : Int) == 1 && (sIx items.size items.size hi - sIx items.size 0 lo) == items.size) = true then _ else _) _ _ s
  rw [if_neg hno, pick_gen]
  first
    | exact wpAny_bind (m := Builtin.Tuple.tupleExact _) (wpAny_newObj_type (wpAny_pure ⟨_, rfl, wpAny_pure h⟩) htake)
    | exact wpAny_bind (m := Builtin.Tuple.tupleExact _) (wpAny_newObj_type (wpAny_bind (wpAny_pure (wpAny_pure ⟨_, rfl, wpAny_pure h⟩))) htake)
    | exact wpAny_bind (wpAny_bind (m := Builtin.Tuple.tupleExact _) (wpAny_newObj_type (wpAny_pure (wpAny_pure ⟨_, rfl, wpAny_pure h⟩)) htake))
    | exact wpAny_bind (wpAny_bind (m := Builtin.Tuple.tupleExact _) (wpAny_newObj_type (wpAny_pure ⟨_, rfl, wpAny_pure h⟩) htake))
end
end HT

namespace L2
open PySem PySem.Spec PyProof.Rows

/-! ### the parts of a slice -/
abbrev TO := St → Hp → (Option Int → Hp → Prop) → Prop
/-- a slice's part (left out, or an int) -/
def PO (X : Cx) (e : Option Expr) (t : TO) : Prop :=
  ∀ (pins : List (Addr × Obj)) (s : Shared) (σ : St) (H : Hp) (Q : Option Int → Hp → Prop), Inv X pins σ H s → t σ H Q →
    wpAny (model X.prog X.w) X.A (evalPart e X.env) (fun u s' => ∃ o H', Inv X pins σ H' s' ∧ IsPart u o ∧ Q o H') X.xe s
def tNoPart : TO := fun _ H Q => Q none H
def tPart (t : TE) : TO := fun σ H Q => t σ H fun x H1 => ∃ i, x = .int i ∧ Q (some i) H1

theorem intsAre_of {ns : List Int} : ∀ {us : List Value}, Vals (ns.map V.int) us → IntsAre us ns := by
  induction ns with
  | nil => intro us r; rw [List.map_nil] at r; cases r; exact .nil
  | cons n ns ih =>
    intro us r
    rw [List.map_cons] at r
    cases r with
    | cons r1 r2 =>
      obtain ⟨t, e⟩ := r1
      subst e
      exact .cons n t (ih r2)

section
variable {X : Cx} {e : Expr} {te : TE} {lo hi : Option Expr} {tl th : TO} {pos p2 : Pos}

theorem po_none : PO X none tNoPart := by
  intro pins s σ H Q I h
  rw [evalPart_none]
  exact wpAny_pure ⟨none, H, I, .none, h⟩
theorem po_some (h : PE X e te) : PO X (some e) (tPart te) := by
  intro pins s σ H Q I hw
  rw [evalPart_some]
  refine thn (h pins s σ H _ I hw) fun u s1 ⟨x, H1, I1, r1, q1⟩ => ?_
  obtain ⟨i, rfl, q⟩ := q1
  obtain ⟨t, rfl⟩ := r1
  exact ⟨some i, H1, I1, .int i t, q⟩

/-- what a slice of a value is, by values: the slice object stands at sl -/
def SlR (X : Cx) (r : V → Option Int → Option Int → Hp → VK → Prop) : Prop :=
  ∀ (pins : List (Addr × Obj)) (s : Shared) (σ : St) (H : Hp) (x : V) (v vl vu : Value) (lo hi : Option Int) (sl : Addr) (Q : VK), Inv X pins σ H s → RelV x v → s.heap.IsSliceOf sl vl vu .none → IsPart vl lo → IsPart vu hi → r x lo hi H Q →
    ∃ T id, typeLookup (.type T) "__getitem__" = pure (some (.builtin id)) ∧ s.TypeIs v T ∧ wpAny (model X.prog X.w) X.A (getItem v (.ref sl)) (EP X pins σ Q) X.xe s
theorem SlR.or {r r' : V → Option Int → Option Int → Hp → VK → Prop} (h : SlR X r) (h' : SlR X r') : SlR X (fun x lo hi H Q => r x lo hi H Q ∨ r' x lo hi H Q) := by
  intro pins s σ H x v vl vu lo hi sl Q I rx hs pl pu q
  rcases q with q | q
  · exact h pins s σ H x v vl vu lo hi sl Q I rx hs pl pu q
  · exact h' pins s σ H x v vl vu lo hi sl Q I rx hs pl pu q
def tSl (r : V → Option Int → Option Int → Hp → VK → Prop) (te : TE) (tl th : TO) : TE := fun σ H Q => te σ H fun x H1 => tl σ H1 fun l H2 => th σ H2 fun u H3 => r x l u H3 Q
/-- a[lo:hi], any a -/
theorem pe_slice {r : V → Option Int → Option Int → Hp → VK → Prop} (hr : SlR X r) (he : PE X e te) (hl : PO X lo tl) (hu : PO X hi th) : PE X (.Subscript e (.Slice lo hi none p2) pos) (tSl r te tl th) := by
  intro pins s σ H Q I h
  refine Subscript_ (thn (he pins s σ H _ I h) fun v s1 ⟨x, H1, I1, r1, q1⟩ => ?_)
  refine wpAny_Slice (thn (hl pins s1 σ H1 _ I1 q1) fun vl s2 ⟨l, H2, I2, pl, q2⟩ => thn (hu pins s2 σ H2 _ I2 q2) fun vu s3 ⟨u, H3, I3, pu, q3⟩ => ?_)
  rw [evalPart_none]
  refine wpAny_pure ?_
  have I4 : Inv X pins σ H3 { s3 with heap := s3.heap.push { cls := .type "slice", data := .fields #[vl, vu, .none] } } := I3.kept (t' := s3.toks) fun b ob q => Heap.get?_push_of_some _ q
  obtain ⟨T, id, hT, ht, hg⟩ := hr pins { s3 with heap := s3.heap.push { cls := .type "slice", data := .fields #[vl, vu, .none] } } σ H3 x v vl vu l u s3.heap.objs.size Q I4 r1 (Heap.IsSliceOf.new ..) pl pu q3
  show wpAny (model X.prog X.w) X.A (subscriptTail e (.Slice lo hi none p2) v (.ref s3.heap.objs.size)) (EP X pins σ Q) X.xe { s3 with heap := s3.heap.push { cls := .type "slice", data := .fields #[vl, vu, .none] } }
  exact tail_any (ops := [.ref s3.heap.objs.size, v]) ht hT hg (by with_unfolding_all rfl)

/-- the items of xs[lo:hi] -/
def cutV (xs : List V) (lo hi : Option Int) : List V := (xs.drop (HT.sIx xs.length 0 lo)).take (HT.sIx xs.length xs.length hi - HT.sIx xs.length 0 lo)
theorem cutV_length (xs : List V) (lo hi : Option Int) : (cutV xs lo hi).length ≤ xs.length := by
  unfold cutV
  rw [List.length_take, List.length_drop]
  omega
/-- t[lo:hi], not the whole of it (the whole would be t itself) -/
def rSlT (K : PySem.W.Frag) : V → Option Int → Option Int → Hp → VK → Prop := fun x lo hi H Q => ∃ a xs, x = .ref a ∧ SqT K H a xs ∧
  ¬ (HT.sIx xs.length 0 lo = 0 ∧ HT.sIx xs.length xs.length hi = xs.length) ∧ ∀ p, H p = none → Q (.ref p) (upd H p (.tup (cutV xs lo hi)))
theorem sl_tup : SlR X (rSlT X.K) := by
  intro pins s σ H x v vl vu lo hi sl Q I rx hs pl pu h
  obtain ⟨a, xs, rfl, hx, hw, q⟩ := h
  cases rx
  obtain ⟨its, r, ht, hz⟩ := I.tuple hx
  have hlen : its.toArray.size = xs.length := by rw [List.size_toArray]; exact r.length.symm
  refine ⟨"tuple", _, PyProof.Rows.slot_tuple_getitem.lookup, ht.typeIs, ?_⟩
  refine HT.getItem_tuple_cut ht hs pl pu (by rw [hlen]; exact hw) ?_ (by rw [hlen]; exact hz)
  rw [hlen]
  refine ⟨.ref s.heap.objs.size, _, I.laid (t' := s.toks) (o := .tup (cutV xs lo hi)) (fun b ob q => Heap.get?_push_of_some _ q) (Nat.le_refl _) ?_, rfl, q _ (I.hok.fresh (Nat.le_refl _))⟩
  exact ⟨Nat.le_trans (cutV_length xs lo hi) hz, _, (r.drop (HT.sIx xs.length 0 lo)).take (HT.sIx xs.length xs.length hi - HT.sIx xs.length 0 lo), IsTup.new _ _⟩

/-! ### t < u, t + u -/
def rLtT (K : PySem.W.Frag) : R2 := fun x y H Q => ∃ a b ns ms, x = .ref a ∧ y = .ref b ∧ SqT K H a (ns.map V.int) ∧ SqT K H b (ms.map V.int) ∧ Q (.bl (HT.lexLt ns ms)) H
theorem op_ltT (hu : X.A.units < cLine) : OpR X (compareOp .Lt) (rLtT X.K) := by
  intro pins s σ H x y v u Q I rx ry h
  obtain ⟨a, b, ns, ms, rfl, rfl, ha, hb, q⟩ := h
  cases rx
  cases ry
  obtain ⟨its, r1, p1, _⟩ := I.tuple ha
  obtain ⟨its2, r2, p2, _⟩ := I.tuple hb
  have i1 : IntsAre its.toArray.toList ns := intsAre_of r1
  have i2 : IntsAre its2.toArray.toList ms := intsAre_of r2
  exact HT.lt_tupInts p1 p2 i1 i2 hu ⟨.bl (HT.lexLt ns ms), H, I, rfl, q⟩
/-- t + u, t not empty: u empty gives t itself -/
def rCatT (K : PySem.W.Frag) : R2 := fun x y H Q => ∃ a b xs ys, x = .ref a ∧ y = .ref b ∧ SqT K H a xs ∧ SqT K H b ys ∧ xs ≠ [] ∧ xs.length + ys.length ≤ sizeLine ∧
  (ys = [] → Q (.ref a) H) ∧ (ys ≠ [] → ∀ p, H p = none → Q (.ref p) (upd H p (.tup (xs ++ ys))))
theorem Vals.nil_iff {xs : List V} {us : List Value} (r : Vals xs us) : us = [] ↔ xs = [] := by
  cases r with
  | nil => simp
  | cons _ _ => simp
theorem op_catT : OpR X (binaryOp .Add) (rCatT X.K) := by
  intro pins s σ H x y v u Q I rx ry h
  obtain ⟨a, b, xs, ys, rfl, rfl, ha, hb, hx, hz, q1, q2⟩ := h
  cases rx
  cases ry
  obtain ⟨its, r1, p1, _⟩ := I.tuple ha
  obtain ⟨its2, r2, p2, _⟩ := I.tuple hb
  refine HT.cat_tup p1 p2 (fun z => hx (r1.nil_iff.mp z)) (fun z => ⟨.ref a, H, I, rfl, q1 (r2.nil_iff.mp z)⟩) (fun z => ?_) (by rw [← r1.length, ← r2.length]; exact hz)
  refine ⟨.ref s.heap.objs.size, _, I.laid (t' := s.toks) (o := .tup (xs ++ ys)) (fun b ob q => Heap.get?_push_of_some _ q) (Nat.le_refl _) ?_, rfl, q2 (fun w => z (r2.nil_iff.mpr w)) _ (I.hok.fresh (Nat.le_refl _))⟩
  exact ⟨by rw [List.length_append]; exact hz, _, r1.append r2, IsTup.new _ _⟩
/-- tuple(t) -/
theorem call_tupleT : CallR X (.type "tuple") (fun xs H Q => ∃ a ys, xs = [.ref a] ∧ SqT X.K H a ys ∧ Q (.ref a) H) := by
  intro pins s σ H xs us Q I r h
  obtain ⟨a, ys, rfl, ha, q⟩ := h
  obtain ⟨u, rfl, ru⟩ := vals1 r
  cases ru
  obtain ⟨its, _, p1, _⟩ := I.tuple ha
  exact call_tuple_same (items := its.toArray) p1 ⟨.ref a, H, I, rfl, q⟩
end
end L2

namespace L2
open PySem PySem.Spec PyProof.Rows

/-! ### places -/
/-- the place that an index of any sign means -/
def ixN (n : Nat) (i : Int) : Option Nat := if 0 ≤ i then (if i < n then some i.toNat else none) else if -(n : Int) ≤ i then some (i + n).toNat else none
def atI {α : Type} (xs : List α) (i : Int) : Option α := (ixN xs.length i).bind fun j => xs[j]?
theorem ixN_seq {n : Nat} {i : Int} {j : Nat} (h : ixN n i = some j) : seqIndex? i n = some j ∧ j < n ∧ -(n : Int) ≤ i ∧ i < n := by
  unfold ixN at h
  by_cases h0 : 0 ≤ i
  · rw [if_pos h0] at h
    by_cases h1 : i < n
    · rw [if_pos h1] at h
      have e : i.toNat = j := Option.some.inj h
      exact ⟨by rw [seqIndex_of h0 h1, e], by omega, by omega, h1⟩
    · rw [if_neg h1] at h; cases h
  · rw [if_neg h0] at h
    by_cases h1 : -(n : Int) ≤ i
    · rw [if_pos h1] at h
      have e : (i + n).toNat = j := Option.some.inj h
      exact ⟨by rw [seqIndex_neg (by omega) h1, e], by omega, h1, by omega⟩
    · rw [if_neg h1] at h; cases h
theorem atI_get {α : Type} {xs : List α} {i : Int} {v : α} (h : atI xs i = some v) : ∃ j, seqIndex? i xs.length = some j ∧ xs[j]? = some v ∧ j < xs.length ∧ -(xs.length : Int) ≤ i ∧ i < xs.length := by
  unfold atI at h
  cases e : ixN xs.length i with
  | none => rw [e] at h; cases h
  | some j =>
    rw [e] at h
    obtain ⟨h1, h2, h3, h4⟩ := ixN_seq e
    exact ⟨j, h1, h, h2, h3, h4⟩
theorem atI_nat {α : Type} {xs : List α} {j : Nat} {v : α} (h : xs[j]? = some v) : atI xs (j : Int) = some v := by
  have hj : j < xs.length := (List.getElem?_eq_some_iff.mp h).1
  have e : ixN xs.length (j : Int) = some j := by
    unfold ixN
    rw [if_pos (by omega), if_pos (by omega)]; simp
  unfold atI; rw [e]; exact h
theorem atI_last {α : Type} (xs : List α) (v : α) : atI (xs ++ [v]) (-1) = some v := by
  have hl : (xs ++ [v]).length = xs.length + 1 := by simp
  have e : ixN (xs ++ [v]).length (-1) = some xs.length := by
    unfold ixN
    rw [hl, if_neg (by decide), if_pos (by omega)]
    congr 1
    omega
  unfold atI
  rw [e]
  show (xs ++ [v])[xs.length]? = some v
  simp

/-! ### what may be subscripted -/
/-- what stands as an index of a plain subscript -/
def PlainIx (b : Expr) : Prop := ∀ o i, subscripted b false o i = operate [o, i] (getItem o i)
/-- a subscript by values -/
def IxR (X : Cx) (r : R2) : Prop :=
  ∀ (value slice : Expr) (pins : List (Addr × Obj)) (s : Shared) (σ : St) (H : Hp) (x y : V) (v u : Value) (Q : VK), Inv X pins σ H s → RelV x v → RelV y u → r x y H Q →
    subscripted slice false v u = operate [v, u] (getItem v u) → wpAny (model X.prog X.w) X.A (subscriptTail value slice v u) (EP X pins σ Q) X.xe s
/-- a call of a builtin's method by values: the receiver, the arguments -/
def MtR (X : Cx) (id : String) (r : V → List V → Hp → VK → Prop) : Prop :=
  ∀ (pins : List (Addr × Obj)) (s : Shared) (σ : St) (H : Hp) (x : V) (xs : List V) (v : Value) (us : List Value) (Q : VK), Inv X pins σ H s → RelV x v → Vals xs us → r x xs H Q →
    wpAny (model X.prog X.w) X.A (call (.builtin id) (v :: us)) (EP X pins σ Q) X.xe s
section
variable {X : Cx} {a b : Expr} {ta tb : TE} {pos : Pos}
theorem IxR.or {r r' : R2} (h : IxR X r) (h' : IxR X r') : IxR X (fun x y H Q => r x y H Q ∨ r' x y H Q) := by
  intro value slice pins s σ H x y v u Q I rx ry q hs
  rcases q with q | q
  · exact h value slice pins s σ H x y v u Q I rx ry q hs
  · exact h' value slice pins s σ H x y v u Q I rx ry q hs
theorem MtR.or {id : String} {r r' : V → List V → Hp → VK → Prop} (h : MtR X id r) (h' : MtR X id r') : MtR X id (fun x xs H Q => r x xs H Q ∨ r' x xs H Q) := by
  intro pins s σ H x xs v us Q I rx rs q
  rcases q with q | q
  · exact h pins s σ H x xs v us Q I rx rs q
  · exact h' pins s σ H x xs v us Q I rx rs q
/-- a[b] -/
theorem pe_ix {r : R2} (hr : IxR X r) (ha : PE X a ta) (hb : PE X b tb) (hs : PlainIx b) : PE X (.Subscript a b pos) (tOp r ta tb) := by
  intro pins s σ H Q I h
  exact Subscript_ (binT ha hb I h fun v u s2 x y H2 I2 rx ry q => hr a b pins s2 σ H2 x y v u Q I2 rx ry q (hs _ _))

def rIxL (K : PySem.W.Frag) : R2 := fun x y H Q => ∃ p xs i v, x = .ref p ∧ y = .int i ∧ SqL K H p xs ∧ atI xs i = some v ∧ Q v H
def rIxT (K : PySem.W.Frag) : R2 := fun x y H Q => ∃ p xs i v, x = .ref p ∧ y = .int i ∧ SqT K H p xs ∧ atI xs i = some v ∧ Q v H
def rIxS : R2 := fun x y H Q => ∃ z i c, x = .str z ∧ y = .int i ∧ z.length ≤ sizeLine ∧ atI z.cps.toList i = some c ∧ Q (.str ⟨#[c]⟩) H
theorem ix_list : IxR X (rIxL X.K) := by
  intro value slice pins s σ H x y v u Q I rx ry h hs
  obtain ⟨p, xs, i, z, rfl, rfl, hq, he, q⟩ := h
  cases rx
  obtain ⟨t, rfl⟩ := ry
  obtain ⟨its, r, pl, hz⟩ := I.list hq
  obtain ⟨j, h1, h2, h3, h4, h5⟩ := atI_get he
  obtain ⟨w, ew, rw'⟩ := r.get h2
  have hl := r.length
  have hn := line63
  have fin : EP X pins σ Q w s := ⟨z, H, I, rw', q⟩
  by_cases h0 : 0 ≤ i
  · have hj : i.toNat = j := by
      rw [seqIndex_of h0 h5] at h1
      exact Option.some.inj h1
    exact item_listR pl.isList h0 (by omega) (by rw [hj]; simpa using ew) fin hs
  · have hj : (i + (its.toArray.size : Int)).toNat = j := by
      rw [seqIndex_neg (by omega) h4] at h1
      rw [List.size_toArray, ← hl]
      exact Option.some.inj h1
    exact subscriptTail_builtinR (x := w) pl.isList.typeIs slot_list_getitem.lookup
      (wpAny_getItem_list_neg (Q := fun r s' => r = w ∧ EP X pins σ Q r s') pl.isList (by omega) (by rw [List.size_toArray] <;> omega) (by omega) (by rw [hj]; simpa using ew) ⟨rfl, fin⟩) hs
theorem ix_tup : IxR X (rIxT X.K) := by
  intro value slice pins s σ H x y v u Q I rx ry h hs
  obtain ⟨p, xs, i, z, rfl, rfl, hq, he, q⟩ := h
  cases rx
  obtain ⟨t, rfl⟩ := ry
  obtain ⟨its, r, pl, hz⟩ := I.tuple hq
  obtain ⟨j, h1, h2, h3, h4, h5⟩ := atI_get he
  obtain ⟨w, ew, rw'⟩ := r.get h2
  have hl := r.length
  have hn := line63
  have fin : EP X pins σ Q w s := ⟨z, H, I, rw', q⟩
  exact subscriptTail_builtinR (x := w) pl.typeIs slot_tuple_getitem.lookup
    (getItem_tuple (j := j) (Q := fun r s' => r = w ∧ EP X pins σ Q r s') pl (by omega) (by omega) (by rw [List.size_toArray, ← hl]; exact h1) (by simpa using ew) ⟨rfl, fin⟩) hs
theorem ix_str : IxR X rIxS := by
  intro value slice pins s σ H x y v u Q I rx ry h hs
  obtain ⟨z, i, c, rfl, rfl, hz, he, q⟩ := h
  obtain ⟨t, rfl⟩ := rx
  obtain ⟨t', rfl⟩ := ry
  obtain ⟨j, h1, h2, h3, h4, h5⟩ := atI_get he
  have hl : z.cps.toList.length = z.length := by simp [Str.length]
  rw [hl] at h1 h4 h5
  have hn := line63
  exact tail_any (typeIs_str s z t) slot_str_getitem.lookup (getItem_str (c := c) (by
    have e1 : decide (i < -(2 ^ 63 : Int)) = false := decide_eq_false (by omega)
    have e2 : decide (i ≥ 2 ^ 63) = false := decide_eq_false (by omega)
    rw [e1, e2, Bool.or_false]) (by rw [h1]; simpa using h2) ⟨.str ⟨#[c]⟩, H, I.tok _, ⟨_, rfl⟩, q⟩) hs
/-- list, tuple or str -/
def rIx (K : PySem.W.Frag) : R2 := fun x y H Q => rIxL K x y H Q ∨ rIxT K x y H Q ∨ rIxS x y H Q
theorem ix_seq : IxR X (rIx X.K) := ix_list.or (ix_tup.or ix_str)

/-! ### xs[i] = v, any sign -/
/-- the list's object behind a store -/
theorem mapSeq_set (its : List Value) (n j : Nat) (u : Value) : Obj.mapSeq (·.setIfInBounds j u) { cls := .type "list", data := .seq its.toArray n } = { cls := .type "list", data := .seq (its.set j u).toArray n } := by
  simp [Obj.mapSeq]
theorem Inv.lst {pins : List (Addr × Obj)} {σ : St} {H : Hp} {s : Shared} {p : Addr} {xs : List V} (I : Inv X pins σ H s) (h : H p = some (.lst xs)) :
    ∃ (its : List Value) (n : Nat), Vals xs its ∧ s.heap.get? p = some { cls := .type "list", data := .seq its.toArray n } ∧ xs.length ≤ sizeLine := by
  obtain ⟨z, its, n, r, e⟩ := I.hok p _ h
  exact ⟨its, n, r, e, z⟩
/-- the list at p is written by an update of its object -/
theorem Inv.lstUpd {pins : List (Addr × Obj)} {σ : St} {H : Hp} {s : Shared} {p : Addr} {xs ys : List V} {its its' : List Value} {n n' : Nat} {f : Obj → Obj} (I : Inv X pins σ H s) (h : H p = some (.lst xs))
    (ho : s.heap.get? p = some { cls := .type "list", data := .seq its.toArray n }) (hf : f { cls := .type "list", data := .seq its.toArray n } = { cls := .type "list", data := .seq its'.toArray n' }) (r : Vals ys its') (hz : ys.length ≤ sizeLine) (t : Nat) :
    Inv X pins σ (upd H p (.lst ys)) { s with heap := s.heap.update p f, toks := t } := by
  have e : (s.heap.update p f).get? p = some { cls := .type "list", data := .seq its'.toArray n' } := by
    rw [Heap.get?_update_self f ho (by rw [hf] <;> rfl), hf]
  refine I.write (x := p) (e := p) (by rw [h]; trivial) (.inl rfl) (fun b u hb q => (Heap.get?_update_other _ _ (Ne.symm hb)).trans q) ⟨_, e⟩ ?_
  exact ⟨hz, its', n', r, e⟩
def rSetL : V → V → V → Hp → (Hp → Prop) → Prop := fun o i v H Q => ∃ p xs k j, o = .ref p ∧ i = .int k ∧ H p = some (.lst xs) ∧ ixN xs.length k = some j ∧ Q (upd H p (.lst (xs.set j v)))
theorem set_list : PSet X rSetL := by
  intro pins s σ H o i v ov iv u Q I ro ri rv h
  obtain ⟨p, xs, k, j, rfl, rfl, hp, hj, q⟩ := h
  cases ro
  obtain ⟨t, rfl⟩ := ri
  obtain ⟨its, n, r, ho, hz⟩ := I.lst hp
  obtain ⟨h1, h2, h3, h4⟩ := ixN_seq hj
  have hl := r.length
  have hn := line63
  have I' : Inv X pins σ (upd H p (.lst (xs.set j v))) { s with heap := s.heap.update p (Obj.mapSeq (·.setIfInBounds j u)) } :=
    I.lstUpd hp ho (mapSeq_set its n j u) (r.set rv j) (by rw [List.length_set]; exact hz) s.toks
  by_cases h0 : 0 ≤ k
  · have hk : k.toNat = j := by
      rw [seqIndex_of h0 h4] at h1
      exact Option.some.inj h1
    exact PySem.W.ki_setAt ho h0 (by omega) (by rw [List.size_toArray, ← hl]; exact h4) (by rw [hk]; exact ⟨_, I', q⟩)
  · have hk : (k + (its.toArray.size : Int)).toNat = j := by
      rw [seqIndex_neg (by omega) h3] at h1
      rw [List.size_toArray, ← hl]
      exact Option.some.inj h1
    exact PySem.W.ki_setBack ho (by omega) (by rw [List.size_toArray, ← hl]; exact h3) (by omega) (by rw [hk]; exact ⟨_, I', q⟩)

/-! ### slices -/
theorem slice_bounds (lo hi : Option Int) (n : Nat) : (sliceBounds lo hi none n).1 = ((HT.sIx n 0 lo : Nat) : Int) ∧ (sliceBounds lo hi none n).2.1 = ((HT.sIx n n hi : Nat) : Int) ∧ (sliceBounds lo hi none n).2.2 = 1 := by
  refine ⟨?_, ?_, rfl⟩
  · cases lo with
    | none => simp [sliceBounds, HT.sIx]
    | some i =>
      simp only [sliceBounds, HT.sIx, Option.getD_none, show (1 : Int) > 0 by decide, if_true]
      by_cases h : i < 0
      · simp only [h, if_true] <;> omega
      · simp only [h, if_false] <;> omega
  · cases hi with
    | none => simp [sliceBounds, HT.sIx]
    | some i =>
      simp only [sliceBounds, HT.sIx, Option.getD_none, show (1 : Int) > 0 by decide, if_true]
      by_cases h : i < 0
      · simp only [h, if_true] <;> omega
      · simp only [h, if_false] <;> omega
theorem slicePick_cut (its : List Value) (lo hi : Option Int) : slicePick its.toArray lo hi none = ((its.drop (HT.sIx its.length 0 lo)).take (HT.sIx its.length its.length hi - HT.sIx its.length 0 lo)).toArray := by
  obtain ⟨h1, h2, h3⟩ := slice_bounds lo hi its.toArray.size
  unfold slicePick
  rw [h1, h2, h3]
  simp only [sliceRange_one, pick_run, List.size_toArray] <;> rfl
/-- xs[lo:hi] of a list: a new list -/
def rSlL (K : PySem.W.Frag) : V → Option Int → Option Int → Hp → VK → Prop := fun x lo hi H Q => ∃ a xs, x = .ref a ∧ SqL K H a xs ∧ ∀ p, H p = none → Q (.ref p) (upd H p (.lst (cutV xs lo hi)))
theorem sl_list : SlR X (rSlL X.K) := by
  intro pins s σ H x v vl vu lo hi sl Q I rx hs pl pu h
  obtain ⟨a, xs, rfl, hx, q⟩ := h
  cases rx
  obtain ⟨its, r, ht, hz⟩ := I.list hx
  have hlen := r.length
  refine ⟨"list", _, slot_list_getitem.lookup, ht.isList.typeIs, ?_⟩
  refine wpAny_getItem_list_slice ht.isList hs pl pu .none (by simp) ?_ (by rw [List.size_toArray] <;> omega)
  rw [slicePick_cut, ← hlen]
  refine ⟨.ref s.heap.objs.size, _, I.laid (t' := s.toks) (o := .lst (cutV xs lo hi)) (fun b ob q => Heap.get?_push_of_some _ q) (Nat.le_refl _) ?_, rfl, q _ (I.hok.fresh (Nat.le_refl _))⟩
  exact ⟨Nat.le_trans (cutV_length xs lo hi) hz, _, 0, (r.drop (HT.sIx xs.length 0 lo)).take (HT.sIx xs.length xs.length hi - HT.sIx xs.length 0 lo), Heap.get?_push_size _ rfl⟩

/-! ### in, not in: flat items -/
def flatV : V → Bool
  | .non => true
  | .bl _ => true
  | .int _ => true
  | .str _ => true
  | _ => false
/-- == of flat values -/
def eqV : V → V → Bool
  | .non, .non => true
  | .bl a, .bl b => a == b
  | .bl a, .int b => (if a then 1 else 0) == b
  | .int a, .bl b => a == (if b then 1 else 0)
  | .int a, .int b => a == b
  | .str a, .str b => a == b
  | _, _ => false
theorem eqAt_V {A : Around} {s : Shared} {y x : V} {u v : Value} (ry : RelV y u) (rx : RelV x v) (fy : flatV y = true) (fx : flatV x = true) : SeqAt.EqAt A s u v (eqV y x) := by
  cases y with
  | non =>
    cases ry
    cases x with
    | non => cases rx; exact SeqAt.EqAt.same _
    | bl b => cases rx; exact SeqAt.EqAt.none_bool b
    | int b => obtain ⟨t, rfl⟩ := rx; exact SeqAt.EqAt.none_int b t
    | str b => obtain ⟨t, rfl⟩ := rx; exact SeqAt.EqAt.none_str b t
    | _ => exact absurd (show false = true from fx) Bool.false_ne_true
  | bl a =>
    cases ry
    cases x with
    | non => cases rx; exact SeqAt.EqAt.bool_none a
    | bl b => cases rx; exact SeqAt.EqAt.bool_bool a b
    | int b => obtain ⟨t, rfl⟩ := rx; exact SeqAt.EqAt.bool_int a b t
    | str b => obtain ⟨t, rfl⟩ := rx; exact SeqAt.EqAt.bool_str a b t
    | _ => exact absurd (show false = true from fx) Bool.false_ne_true
  | int a =>
    obtain ⟨t', rfl⟩ := ry
    cases x with
    | non => cases rx; exact SeqAt.EqAt.int_none a t'
    | bl b => cases rx; exact SeqAt.EqAt.int_bool a t' b
    | int b => obtain ⟨t, rfl⟩ := rx; exact SeqAt.EqAt.int_int a t' b t
    | str b => obtain ⟨t, rfl⟩ := rx; exact SeqAt.EqAt.int_str a t' b t
    | _ => exact absurd (show false = true from fx) Bool.false_ne_true
  | str a =>
    obtain ⟨t', rfl⟩ := ry
    cases x with
    | non => cases rx; exact SeqAt.EqAt.str_none a t'
    | bl b => cases rx; exact SeqAt.EqAt.str_bool a t' b
    | int b => obtain ⟨t, rfl⟩ := rx; exact SeqAt.EqAt.str_int a t' b t
    | str b => obtain ⟨t, rfl⟩ := rx; exact SeqAt.EqAt.str_str a t' b t
    | _ => exact absurd (show false = true from fx) Bool.false_ne_true
  | _ => exact absurd (show false = true from fy) Bool.false_ne_true
/-- the items' answers, read off the values (a value's own answer does not lean on its token) -/
def eqU (x : V) (u : Value) : Bool := match u with
  | .none => eqV .non x
  | .bool b => eqV (.bl b) x
  | .int i _ => eqV (.int i) x
  | .str z _ => eqV (.str z) x
  | _ => false
theorem eqU_of {x y : V} {u : Value} (r : RelV y u) (f : flatV y = true) : eqU x u = eqV y x := by
  cases y with
  | non => cases r; rfl
  | bl b => cases r; rfl
  | int i => obtain ⟨t, rfl⟩ := r; rfl
  | str z => obtain ⟨t, rfl⟩ := r; rfl
  | _ => exact absurd (show false = true from f) Bool.false_ne_true
theorem any_eqU {x : V} : ∀ {xs : List V} {us : List Value}, Vals xs us → xs.all flatV = true → us.any (eqU x) = xs.any fun y => eqV y x
  | _, _, .nil, _ => rfl
  | y :: xs, u :: us, .cons r t, f => by
    rw [List.all_cons, Bool.and_eq_true] at f
    rw [List.any_cons, List.any_cons, eqU_of r f.1, any_eqU t f.2]
theorem mem_eqAt {A : Around} {s : Shared} {x : V} {v : Value} (rx : RelV x v) (fx : flatV x = true) : ∀ {xs : List V} {us : List Value}, Vals xs us → xs.all flatV = true → ∀ u ∈ us, SeqAt.EqAt A s u v (eqU x u)
  | _, _, .nil, _ => fun u hu => by cases hu
  | y :: xs, u :: us, .cons r t, f => fun u' hu => by
    rw [List.all_cons, Bool.and_eq_true] at f
    rcases List.mem_cons.mp hu with rfl | hu
    · rw [eqU_of r f.1]; exact eqAt_V r rx f.1 fx
    · exact mem_eqAt rx fx t f.2 u' hu
def inV (x : V) (xs : List V) : Bool := xs.any fun y => eqV y x
/-- x in a list or tuple of flat items -/
def rIn (K : PySem.W.Frag) (neg : Bool) : R2 := fun x y H Q => ∃ p xs, y = .ref p ∧ (SqL K H p xs ∨ SqT K H p xs) ∧ flatV x = true ∧ xs.all flatV = true ∧ Q (.bl (if neg then !inV x xs else inV x xs)) H
theorem op_in_seq : OpR X (compareOp .In) (rIn X.K false) := by
  intro pins s σ H x y v u Q I rx ry h
  obtain ⟨p, xs, rfl, hq, fx, fs, q⟩ := h
  cases ry
  rcases hq with hq | hq
  · obtain ⟨its, r, pl, hz⟩ := I.list hq
    refine SeqAt.in_listAt (eqU x) pl.isList (fun w hw => mem_eqAt rx fx r fs w (by simpa using hw)) ⟨.bl _, H, I, rfl, ?_⟩
    rw [show its.toArray.any (eqU x) = its.any (eqU x) by simp, any_eqU r fs]
    exact q
  · obtain ⟨its, r, pl, hz⟩ := I.tuple hq
    refine SeqAt.in_tupleAt (eqU x) pl (fun w hw => mem_eqAt rx fx r fs w (by simpa using hw)) ⟨.bl _, H, I, rfl, ?_⟩
    rw [show its.toArray.any (eqU x) = its.any (eqU x) by simp, any_eqU r fs]
    exact q
theorem op_notIn_seq : OpR X (compareOp .NotIn) (rIn X.K true) := by
  intro pins s σ H x y v u Q I rx ry h
  obtain ⟨p, xs, rfl, hq, fx, fs, q⟩ := h
  cases ry
  rcases hq with hq | hq
  · obtain ⟨its, r, pl, hz⟩ := I.list hq
    refine SeqAt.notIn_listAt (eqU x) pl.isList (fun w hw => mem_eqAt rx fx r fs w (by simpa using hw)) ⟨.bl _, H, I, rfl, ?_⟩
    rw [show its.toArray.any (eqU x) = its.any (eqU x) by simp, any_eqU r fs]
    exact q
  · obtain ⟨its, r, pl, hz⟩ := I.tuple hq
    refine SeqAt.notIn_tupleAt (eqU x) pl (fun w hw => mem_eqAt rx fx r fs w (by simpa using hw)) ⟨.bl _, H, I, rfl, ?_⟩
    rw [show its.toArray.any (eqU x) = its.any (eqU x) by simp, any_eqU r fs]
    exact q
theorem op_notIn_str : OpR X (compareOp .NotIn) (fun x y H Q => ∃ i j, x = .str i ∧ y = .str j ∧ Q (.bl (!(!(Builtin.Str.occurrences j i 0 j.length 1).isEmpty))) H) := by
  intro pins s σ H x y v u Q I rx ry h
  obtain ⟨i, j, rfl, rfl, q⟩ := h
  obtain ⟨t, rfl⟩ := rx
  obtain ⟨t', rfl⟩ := ry
  exact notIn_str ⟨.bl _, H, I, rfl, q⟩

/-! ### len, list(x), tuple(x) of any list or tuple that is read -/
theorem call_len_seq : CallR X (.builtin "len") (fun xs H Q => ∃ p ys, xs = [.ref p] ∧ (SqL X.K H p ys ∨ SqT X.K H p ys) ∧ Q (.int ys.length) H) := by
  intro pins s σ H xs us Q I r h
  obtain ⟨p, ys, rfl, hq, q⟩ := h
  obtain ⟨u, rfl, rx⟩ := vals1 r
  cases rx
  have hn := line63
  rcases hq with hq | hq
  · obtain ⟨its, r', pl, hz⟩ := I.list hq
    have hlen := r'.length
    exact Calls.call_len_list pl.isList (by simp only [List.size_toArray] <;> omega) ⟨.int ys.length, H, I.tok _, ⟨s.toks + 1, by rw [List.size_toArray, hlen]⟩, q⟩
  · obtain ⟨its, r', pl, hz⟩ := I.tuple hq
    have hlen := r'.length
    exact len_tuple pl (by simp only [List.size_toArray] <;> omega) ⟨.int ys.length, H, I.tok _, ⟨s.toks + 1, by rw [List.size_toArray, hlen]⟩, q⟩
theorem call_len_str : CallR X (.builtin "len") (fun xs H Q => ∃ z, xs = [.str z] ∧ z.length ≤ sizeLine ∧ Q (.int z.length) H) := by
  intro pins s σ H xs us Q I r h
  obtain ⟨z, rfl, hz, q⟩ := h
  obtain ⟨u, rfl, t, rfl⟩ := vals1 r
  have hn := line63
  exact len_str (by omega) ⟨.int z.length, H, I.tok _, ⟨_, rfl⟩, q⟩
theorem CallR.or {f : Value} {r r' : List V → Hp → VK → Prop} (h : CallR X f r) (h' : CallR X f r') : CallR X f (fun xs H Q => r xs H Q ∨ r' xs H Q) := by
  intro pins s σ H xs us Q I rs q
  rcases q with q | q
  · exact h pins s σ H xs us Q I rs q
  · exact h' pins s σ H xs us Q I rs q
theorem call_list_of : CallR X (.type "list") (fun xs H Q => ∃ p ys, xs = [.ref p] ∧ (SqL X.K H p ys ∨ SqT X.K H p ys) ∧ ∀ l, H l = none → Q (.ref l) (upd H l (.lst ys))) := by
  intro pins s σ H xs us Q I r h
  obtain ⟨p, ys, rfl, hq, q⟩ := h
  obtain ⟨u, rfl, rx⟩ := vals1 r
  cases rx
  have fin : ∀ (its : List Value), Vals ys its → ys.length ≤ sizeLine → ∀ (h' : Heap) (c' : Nat), (∀ b o', s.heap.get? b = some o' → h'.get? b = some o') →
      h'.get? s.heap.objs.size = some { cls := .type "list", dict := none, data := .seq its.toArray c', slots := #[] } → EP X pins σ Q (.ref s.heap.objs.size) { s with heap := h' } := fun its r' hz h' c' kp e =>
    ⟨.ref s.heap.objs.size, _, I.laid (t' := s.toks) kp (Nat.le_refl _) (show ObjOk X.prog X.w _ h' _ (.lst ys) from ⟨hz, its, c', r', e⟩), rfl, q _ (I.hok.fresh (Nat.le_refl _))⟩
  rcases hq with hq | hq
  · obtain ⟨its, r', pl, hz⟩ := I.list hq
    have hlen := r'.length
    obtain ⟨o, ho, hc, n, hd⟩ := pl.isList
    exact call_list_seq p (.inl rfl) ho hc hd (fun h' c' kp e => fin its r' hz h' c' kp e) (by simp only [List.size_toArray] <;> omega)
  · obtain ⟨its, r', pl, hz⟩ := I.tuple hq
    have hlen := r'.length
    obtain ⟨o, ho, hc, n, hd⟩ := pl
    exact call_list_seq p (.inr rfl) ho hc hd (fun h' c' kp e => fin its r' hz h' c' kp e) (by simp only [List.size_toArray] <;> omega)
theorem call_tuple_of : CallR X (.type "tuple") (fun xs H Q => ∃ p ys, xs = [.ref p] ∧ ((SqL X.K H p ys ∧ ∀ l, H l = none → Q (.ref l) (upd H l (.tup ys))) ∨ (SqT X.K H p ys ∧ Q (.ref p) H))) := by
  intro pins s σ H xs us Q I r h
  obtain ⟨p, ys, rfl, h⟩ := h
  obtain ⟨u, rfl, rx⟩ := vals1 r
  cases rx
  rcases h with ⟨hq, q⟩ | ⟨hq, q⟩
  · obtain ⟨its, r', pl, hz⟩ := I.list hq
    have hlen := r'.length
    refine call_tuple_list pl.isList (fun h' kp => ?_) (by simp only [List.size_toArray] <;> omega)
    have I1 : Inv X pins σ H { s with heap := h' } := I.kept (t' := s.toks) kp
    have I2 : Inv X pins σ (upd H h'.objs.size (.tup ys)) { s with heap := h'.push { cls := .type "tuple", data := .seq its.toArray } } :=
      I1.laid (t' := s.toks) (fun b o e => Heap.get?_push_of_some _ e) (Nat.le_refl _) (show ObjOk X.prog X.w _ _ _ (.tup ys) from ⟨hz, its, r', IsTup.new _ _⟩)
    exact ⟨.ref h'.objs.size, _, I2, rfl, q _ (I1.hok.fresh (Nat.le_refl _))⟩
  · obtain ⟨its, r', pl, hz⟩ := I.tuple hq
    exact call_tuple_same pl ⟨.ref p, H, I, rfl, q⟩

/-! ### the call of a builtin's method: o.m(..) -/
/-- the value is of that builtin type -/
def tyV (K : PySem.W.Frag) (T : String) (x : V) (H : Hp) : Prop := match x with
  | .str _ => T = "str"
  | .int _ => T = "int"
  | .ref p => (T = "list" ∧ ∃ xs, SqL K H p xs) ∨ (T = "tuple" ∧ ∃ o, K.lookup p = some o ∧ o.cls = .type "tuple" ∧ o.dict = none) ∨
      (T = "dict" ∧ ((∃ kvs, H p = some (.dK kvs)) ∨ ∃ kvs, H p = some (.dT kvs))) ∨ (T = "set" ∧ ∃ S n, H p = some (.set S n))
  | _ => False
theorem tyV_is {pins : List (Addr × Obj)} {σ : St} {H : Hp} {s : Shared} {T : String} {x : V} {v : Value} (I : Inv X pins σ H s) (r : RelV x v) (ty : tyV X.K T x H) :
    s.TypeIs v T ∧ ∀ a, v = .ref a → ∃ ob, s.heap.get? a = some ob ∧ ob.dict = none := by
  cases x with
  | str z =>
    obtain ⟨t, rfl⟩ := r
    cases (show T = "str" from ty)
    exact ⟨typeIs_str s z t, fun _ e => nomatch e⟩
  | int i =>
    obtain ⟨t, rfl⟩ := r
    cases (show T = "int" from ty)
    exact ⟨typeIs_int s i t, fun _ e => nomatch e⟩
  | ref p =>
    cases r
    rcases ty with ⟨rfl, xs, hq⟩ | ⟨rfl, o, hk, hc, hd⟩ | ⟨rfl, hk⟩ | ⟨rfl, S, n, hk⟩
    · obtain ⟨its, _, pl, _⟩ := I.list hq
      refine ⟨pl.isList.typeIs, fun a e => ?_⟩
      cases e
      obtain ⟨o, n, e, c, hd, _⟩ := pl
      exact ⟨o, e, hd⟩
    · refine ⟨⟨o, I.kIn p o hk, hc⟩, fun a e => ?_⟩
      cases e
      exact ⟨o, I.kIn _ o hk, hd⟩
    · have z : ∃ o, s.heap.get? p = some o ∧ o.ExactDict := by
        rcases hk with ⟨kvs, hk⟩ | ⟨kvs, hk⟩
        · obtain ⟨_, _, _, _, o, _, _, e, ex, _⟩ := I.hok p _ hk
          exact ⟨o, e, ex⟩
        · obtain ⟨_, _, _, _, o, _, _, e, ex, _⟩ := I.hok p _ hk
          exact ⟨o, e, ex⟩
      obtain ⟨o, e, ex⟩ := z
      refine ⟨⟨o, e, ex.1⟩, fun a e2 => ?_⟩
      cases e2
      exact ⟨o, e, ex.2.1⟩
    · obtain ⟨o, _, _, _, e, ex, _⟩ := I.hok p _ hk
      refine ⟨⟨o, e, ex.1⟩, fun a e2 => ?_⟩
      cases e2
      exact ⟨o, e, ex.2.1⟩
  | _ => exact False.elim ty
def tBM0 (K : PySem.W.Frag) (T : String) (r : V → List V → Hp → VK → Prop) (to : TE) : TE := fun σ H Q => to σ H fun x H1 => tyV K T x H1 ∧ r x [] H1 Q
def tBM (K : PySem.W.Frag) (T : String) (r : V → List V → Hp → VK → Prop) (to : TE) (t : TA) : TE := fun σ H Q => to σ H fun x H1 => tyV K T x H1 ∧ t σ H1 fun xs H2 => r x xs H2 Q
variable {o e : Expr} {es : List Expr} {to : TE} {t : TA} {name : Str} {apos cpos : Pos} {T id : String} {r : V → List V → Hp → VK → Prop}
theorem pe_bm0 (pa : PlainAttrs T) (slot : Slot T name id) (hty : typeOf (.builtin id) = pure (.type "method_descriptor")) (hm : MtR X id r) (ho : PE X o to)
    (hbase : attributeBase o name X.env (eval o X.env) = eval o X.env := by rfl) (hline : (apos.endLine == cpos.line) = true := by rfl) : PE X (.Call (.Attribute o name apos) [] [] cpos) (tBM0 X.K T r to) := by
  intro pins s σ H Q I h
  refine wpAny_Call_method0_late hbase hline (thn (ho pins s σ H _ I h) fun v s1 ⟨x, H1, I1, r1, ty, q1⟩ => ?_)
  obtain ⟨h1, h2⟩ := tyV_is I1 r1 ty
  exact ⟨T, id, pa, slot, hty, h1, h2, Calls.callWith_builtin rfl (PySem.evalArgs_none (hm pins s1 σ H1 x [] v [] Q I1 r1 .nil q1))⟩
theorem pe_bm (pa : PlainAttrs T) (slot : Slot T name id) (hty : typeOf (.builtin id) = pure (.type "method_descriptor")) (hm : MtR X id r) (ho : PE X o to) (ha : PA X (e :: es) t)
    (hbase : attributeBase o name X.env (eval o X.env) = eval o X.env := by rfl)
    (hfew : ((backTo cpos (starEach (e :: es) X.env)).all (fun x => !x.1) && (backToKw cpos (keywordEach [] X.env)).all (fun x => x.1.isSome)
      && decide ((e :: es).length + ([] : List Keyword).length + (if ([] : List Keyword).isEmpty then 0 else 1) < 30)) = true := by rfl)
    (hline : (apos.endLine == cpos.line) = true := by rfl) (hs : starEach (e :: es) X.env = (false, eval e X.env) :: starEach es X.env := by rfl) (hplain : (backTo cpos (starEach es X.env)).any (·.1) = false := by rfl) :
    PE X (.Call (.Attribute o name apos) (e :: es) [] cpos) (tBM X.K T r to t) := by
  intro pins s σ H Q I h
  refine wpAny_Call_method_late hbase hfew hline rfl (thn (ho pins s σ H _ I h) fun v s1 ⟨x, H1, I1, r1, ty, q1⟩ => ?_)
  obtain ⟨h1, h2⟩ := tyV_is I1 r1 ty
  refine ⟨T, id, pa, slot, hty, h1, h2, ?_⟩
  have hA := ha cpos pins s1 σ H1 _ I1 q1
  rw [hs] at hA ⊢
  refine Calls.callWith_builtin (by show (false || (backTo cpos (starEach es X.env)).any (·.1)) = false; rw [hplain] <;> rfl) (Calls.evalArgs_plain ?_)
  exact thn hA fun us s2 ⟨vs, H2, I2, r2, q2⟩ => hm pins s2 σ H2 x vs v us Q I2 r1 r2 q2
/- xs.append(e), list.index on a module's tuple .. are MtR facts of 06m -/
end
end L2

namespace L2
open PySem PySem.Spec PyProof.Rows

def MtM (X : Cx) (id : String) (r : V → List V → Hp → VK → Prop) : Prop :=
  ∀ (pins : List (Addr × Obj)) (s : Shared) (σ : St) (H : Hp) (x : V) (xs : List V) (v : Value) (us : List Value) (Q : VK), Inv X pins σ H s → RelV x v → Vals xs us → r x xs H Q →
    wpAny (model X.prog X.w) X.A (call (.builtin id) (v :: us)) (EP X pins σ Q) X.xe s

/-! ### lists of values -/
theorem Vals.one : ∀ {x : V} {us : List Value}, Vals [x] us → ∃ u, us = [u] ∧ RelV x u
  | _, _, .cons r .nil => ⟨_, rfl, r⟩
theorem Vals.two : ∀ {x y : V} {us : List Value}, Vals [x, y] us → ∃ u v, us = [u, v] ∧ RelV x u ∧ RelV y v
  | _, _, _, .cons r (.cons q .nil) => ⟨_, _, rfl, r, q⟩
theorem Vals.zero : ∀ {us : List Value}, Vals [] us → us = []
  | _, .nil => rfl
theorem Vals.dropLast {xs : List V} {us : List Value} (h : Vals xs us) : Vals xs.dropLast us.dropLast := by
  induction h with
  | nil => exact .nil
  | cons r t ih =>
    cases t with
    | nil => exact .nil
    | cons q t' => exact .cons r ih
theorem Vals.eraseIdx : ∀ {xs : List V} {us : List Value} (i : Nat), Vals xs us → Vals (xs.eraseIdx i) (us.eraseIdx i)
  | _, _, _, .nil => .nil
  | _, _, 0, .cons _ t => t
  | _, _, i + 1, .cons r t => .cons r (Vals.eraseIdx i t)
theorem Vals.reverse {xs : List V} {us : List Value} (h : Vals xs us) : Vals xs.reverse us.reverse := by
  induction h with
  | nil => exact .nil
  | cons r t ih => rw [List.reverse_cons, List.reverse_cons]; exact Vals.append ih (.cons r .nil)
theorem Vals.rep {xs : List V} {us : List Value} (h : Vals xs us) : ∀ k : Nat, Vals (List.replicate k xs).flatten (List.replicate k us).flatten
  | 0 => .nil
  | k + 1 => by
    rw [List.replicate_succ, List.replicate_succ, List.flatten_cons, List.flatten_cons]
    exact Vals.append h (Vals.rep h k)
theorem erase_last {α : Type} (l : List α) : l.eraseIdx (l.length - 1) = l.dropLast := by
  induction l with
  | nil => rfl
  | cons a r ih =>
    cases r with
    | nil => rfl
    | cons b r =>
      have e : (a :: b :: r).length - 1 = ((b :: r).length - 1) + 1 := by
        have h1 : (a :: b :: r).length = r.length + 2 := rfl
        have h2 : (b :: r).length = r.length + 1 := rfl
        omega
      rw [e, List.eraseIdx_cons_succ, ih]
      all_goals rfl
theorem len_erase {α : Type} : ∀ (l : List α) (i : Nat), (l.eraseIdx i).length ≤ l.length
  | [], _ => Nat.le_refl _
  | _ :: _, 0 => Nat.le_succ _
  | _ :: r, i + 1 => Nat.succ_le_succ (len_erase r i)
theorem foldl_rep (its : List Value) : ∀ (k : Nat) (acc : List Value),
    List.foldl (fun x1 x2 => x1 ++ x2) acc.toArray (List.replicate k its.toArray) = (acc ++ (List.replicate k its).flatten).toArray
  | 0, acc => by simp
  | k + 1, acc => by
    have e : acc.toArray ++ its.toArray = (acc ++ its).toArray := by simp
    have e2 : (acc ++ its) ++ (List.replicate k its).flatten = acc ++ (List.replicate (k + 1) its).flatten := by
      rw [List.replicate_succ, List.flatten_cons, List.append_assoc]
    rw [← e2, ← foldl_rep its k (acc ++ its), ← e, List.replicate_succ, List.foldl_cons]

section
variable {X : Cx} {pins : List (Addr × Obj)} {σ : St} {H : Hp} {s : Shared} {l b : Addr} {xs ys zs : List V}

/-! ### the two steps: a tracked list is rewritten, a new list is laid -/
theorem Inv.lset {its its' : List Value} {n : Nat} {f : Array Value → Array Value} {t' : Nat} (I : Inv X pins σ H s) (hH : H l = some (.lst xs))
    (e : s.heap.get? l = some { cls := .type "list", data := .seq its.toArray n }) (hf : f its.toArray = its'.toArray) (hv : Vals ys its') (hz : ys.length ≤ sizeLine) :
    Inv X pins σ (upd H l (.lst ys)) { s with heap := s.heap.update l (Obj.mapSeq f), toks := t' } := by
  have q := PySem.IsL.update e f
  rw [hf] at q
  refine I.write (x := l) (e := l) (by rw [hH]; exact trivial) (.inl rfl) (fun b' u hb hu => (Heap.get?_update_other s.heap (Obj.mapSeq f) (Ne.symm hb)).trans hu) ⟨_, q⟩ ?_
  exact ⟨hz, its', _, hv, q⟩
theorem Inv.lnew {its : List Value} {t' : Nat} (I : Inv X pins σ H s) (hv : Vals ys its) (hz : ys.length ≤ sizeLine) :
    Inv X pins σ (upd H s.heap.objs.size (.lst ys)) { s with heap := s.heap.push { cls := .type "list", data := .seq its.toArray }, toks := t' } :=
  I.laid (fun _ _ q => Heap.get?_push_of_some _ q) (Nat.le_refl _) ⟨hz, its, 0, hv, Heap.get?_push_size _ rfl⟩
theorem Inv.fresh (I : Inv X pins σ H s) : H s.heap.objs.size = none := I.hok.fresh (Nat.le_refl _)
theorem Inv.lstM (I : Inv X pins σ H s) (hH : H l = some (.lst xs)) : xs.length ≤ sizeLine ∧ ∃ (its : List Value) (n : Nat), Vals xs its ∧ xs.length = its.length ∧ s.heap.get? l = some { cls := .type "list", data := .seq its.toArray n } := by
  obtain ⟨z, its, n, r, e⟩ := I.hok l _ hH
  exact ⟨z, its, n, r, r.length, e⟩

theorem notLongL {n : Nat} (h : n ≤ sizeLine) : Builtin.List.listTooLong n = false := by
  unfold Builtin.List.listTooLong
  exact decide_eq_false (by omega)
end

section
variable {X : Cx}

/-! ### methods -/
def rAppend : V → List V → Hp → VK → Prop := fun x vs H Q => ∃ l xs y, x = .ref l ∧ vs = [y] ∧ H l = some (.lst xs) ∧ xs.length < sizeLine ∧ Q .non (upd H l (.lst (xs ++ [y])))
theorem mt_append : MtM X "list.append" rAppend := by
  intro pins s σ H x vs v us Q I rx rv h
  obtain ⟨l, xs, y, rfl, rfl, hH, hz, q⟩ := h
  cases rx
  obtain ⟨u, rfl, ru⟩ := rv.one
  obtain ⟨z, its, n, r, hl, e⟩ := I.lstM hH
  refine call_meets F.slot_list_append ⟨_, e, rfl⟩ F.entry_list_append (F.args_list_append_2 _ _) (PySem.list_append l its.toArray n u (by rw [List.size_toArray]; omega)) ⟨e, ?_⟩
  refine ⟨.non, _, I.lset (its' := its ++ [u]) hH e (by simp) (r.append (.cons ru .nil)) ?_, rfl, q⟩
  rw [List.length_append, List.length_singleton]
  omega

def rExtend : V → List V → Hp → VK → Prop := fun x vs H Q => ∃ l b xs zs, x = .ref l ∧ vs = [.ref b] ∧ H l = some (.lst xs) ∧ H b = some (.lst zs) ∧ xs.length + zs.length ≤ sizeLine ∧ Q .non (upd H l (.lst (xs ++ zs)))
theorem mt_extend : MtM X "list.extend" rExtend := by
  intro pins s σ H x vs v us Q I rx rv h
  obtain ⟨l, b, xs, zs, rfl, rfl, hH, hB, hz, q⟩ := h
  cases rx
  obtain ⟨u, rfl, ru⟩ := rv.one
  cases ru
  obtain ⟨z, its, n, r, hl, e⟩ := I.lstM hH
  obtain ⟨z2, its2, n2, r2, hl2, e2⟩ := I.lstM hB
  have hsz : its.toArray.size + its2.toArray.size ≤ sizeLine := by rw [List.size_toArray, List.size_toArray]; omega
  have hlong : ¬ (!its.toArray.isEmpty && Builtin.List.listTooLong (its.toArray.size + its2.toArray.size)) = true := by
    rw [notLongL hsz, Bool.and_false]
    exact Bool.false_ne_true
  refine call_meets F.slot_list_extend ⟨_, e, rfl⟩ F.entry_list_extend (F.args_list_extend_2 _ _)
    (AutoSeq1.list_extend_list_list_0 l its.toArray n b its2.toArray n2 hlong (by rw [List.size_toArray]; omega) (by omega)) ⟨e, e2, ?_⟩
  refine ⟨.non, _, I.lset (its' := its ++ its2) hH e (by simp) (r.append r2) ?_, rfl, q⟩
  rw [List.length_append]
  omega

def rPop : V → List V → Hp → VK → Prop := fun x vs H Q => ∃ l xs y, x = .ref l ∧ vs = [] ∧ H l = some (.lst xs) ∧ xs[xs.length - 1]? = some y ∧ Q y (upd H l (.lst xs.dropLast))
theorem mt_pop : MtM X "list.pop" rPop := by
  intro pins s σ H x vs v us Q I rx rv h
  obtain ⟨l, xs, y, rfl, rfl, hH, hy, q⟩ := h
  cases rx
  have hus := rv.zero
  subst hus
  obtain ⟨z, its, n, r, hl, e⟩ := I.lstM hH
  obtain ⟨u, hu, ru⟩ := r.get hy
  have hy' : its.toArray[its.toArray.size - 1]? = some u := by
    show its.toArray[its.length - 1]? = some u
    rw [← Array.getElem?_toList, ← hl]
    exact hu
  refine call_meets F.slot_list_pop ⟨_, e, rfl⟩ F.entry_list_pop (F.args_list_pop_1 _) (MeetsSeq.list_pop_last l its.toArray n u hy' (by rw [List.size_toArray]; omega)) ⟨e, ?_⟩
  refine ⟨y, _, I.lset (its' := its.dropLast) hH e ?_ r.dropLast ?_, ru, q⟩
  · show its.toArray.eraseIdxIfInBounds (its.toArray.size - 1) = its.dropLast.toArray
    rw [List.size_toArray, List.eraseIdxIfInBounds_toArray, erase_last]
  · rw [List.length_dropLast]
    omega

def rPopAt : V → List V → Hp → VK → Prop := fun x vs H Q => ∃ l xs i k y, x = .ref l ∧ vs = [.int i] ∧ H l = some (.lst xs) ∧ -(2 ^ 63) ≤ i ∧ i < 2 ^ 63 ∧ seqIndex? i xs.length = some k ∧ xs[k]? = some y ∧ Q y (upd H l (.lst (xs.eraseIdx k)))
theorem mt_popAt : MtM X "list.pop" rPopAt := by
  intro pins s σ H x vs v us Q I rx rv h
  obtain ⟨l, xs, i, k, y, rfl, rfl, hH, h1, h2, hk, hy, q⟩ := h
  cases rx
  obtain ⟨u, rfl, ru⟩ := rv.one
  obtain ⟨t, rfl⟩ := ru
  obtain ⟨z, its, n, r, hl, e⟩ := I.lstM hH
  obtain ⟨w, hw, rw'⟩ := r.get hy
  refine call_meets F.slot_list_pop ⟨_, e, rfl⟩ F.entry_list_pop (F.args_list_pop_2 _ _)
    (MeetsSeq.list_pop_at l its.toArray n i t k w (fitsIndex_both h1 h2) (by rw [List.size_toArray, ← hl]; exact hk) (by rw [← Array.getElem?_toList]; exact hw) (by rw [List.size_toArray]; omega)) ⟨e, ?_⟩
  refine ⟨y, _, I.lset (its' := its.eraseIdx k) hH e ?_ (r.eraseIdx k) ?_, rw', q⟩
  · show its.toArray.eraseIdxIfInBounds k = (its.eraseIdx k).toArray
    rw [List.eraseIdxIfInBounds_toArray]
  · have := len_erase xs k
    omega

def rReverse : V → List V → Hp → VK → Prop := fun x vs H Q => ∃ l xs, x = .ref l ∧ vs = [] ∧ H l = some (.lst xs) ∧ Q .non (upd H l (.lst xs.reverse))
theorem mt_reverse : MtM X "list.reverse" rReverse := by
  intro pins s σ H x vs v us Q I rx rv h
  obtain ⟨l, xs, rfl, rfl, hH, q⟩ := h
  cases rx
  have hus := rv.zero
  subst hus
  obtain ⟨z, its, n, r, hl, e⟩ := I.lstM hH
  refine call_meets F.slot_list_reverse ⟨_, e, rfl⟩ F.entry_list_reverse (F.args_list_reverse_1 _) (AutoSeq1.list_reverse_list_0 l its.toArray n (by rw [List.size_toArray]; omega)) ⟨e, ?_⟩
  refine ⟨.non, _, I.lset (its' := its.reverse) hH e (by simp) r.reverse ?_, rfl, q⟩
  rw [List.length_reverse]
  omega

def rClear : V → List V → Hp → VK → Prop := fun x vs H Q => ∃ l xs, x = .ref l ∧ vs = [] ∧ H l = some (.lst xs) ∧ Q .non (upd H l (.lst []))
theorem mt_clear : MtM X "list.clear" rClear := by
  intro pins s σ H x vs v us Q I rx rv h
  obtain ⟨l, xs, rfl, rfl, hH, q⟩ := h
  cases rx
  have hus := rv.zero
  subst hus
  obtain ⟨z, its, n, r, hl, e⟩ := I.lstM hH
  refine call_meets F.slot_list_clear ⟨_, e, rfl⟩ F.entry_list_clear (F.args_list_clear_1 _) (AutoSeq1.list_clear_list_0 l its.toArray n (by rw [List.size_toArray]; omega)) ⟨e, ?_⟩
  exact ⟨.non, _, I.lset (its' := []) (ys := []) hH e rfl .nil (Nat.zero_le _), rfl, q⟩

/-! ### list + list, list += list, list * int -/
def rCat : R2 := fun x y H Q => ∃ l b xs zs, x = .ref l ∧ y = .ref b ∧ H l = some (.lst xs) ∧ H b = some (.lst zs) ∧ xs.length + zs.length ≤ sizeLine ∧ ∀ p, H p = none → Q (.ref p) (upd H p (.lst (xs ++ zs)))
theorem op_cat : OpR X (binaryOp .Add) rCat := by
  intro pins s σ H x y v u Q I rx ry h
  obtain ⟨l, b, xs, zs, rfl, rfl, hH, hB, hz, q⟩ := h
  cases rx
  cases ry
  obtain ⟨z, its, n, r, hl, e⟩ := I.lstM hH
  obtain ⟨z2, its2, n2, r2, hl2, e2⟩ := I.lstM hB
  refine PySem.P.add_list e e2 ?_ (by rw [List.size_toArray, List.size_toArray]; omega)
  have ea : its.toArray ++ its2.toArray = (its ++ its2).toArray := by simp
  rw [ea]
  exact ⟨.ref _, _, I.lnew (t' := s.toks) (r.append r2) (by rw [List.length_append]; omega), rfl, q _ I.fresh⟩
/-- a list times an int (a negative one is nothing) -/
def rRep : R2 := fun x y H Q => ∃ l k xs, x = .ref l ∧ y = .int k ∧ H l = some (.lst xs) ∧ -(2 ^ 63) ≤ k ∧ k < 2 ^ 63 ∧ xs.length * k.toNat ≤ sizeLine ∧
  ∀ p, H p = none → Q (.ref p) (upd H p (.lst (List.replicate k.toNat xs).flatten))
theorem len_rep {α : Type} (xs : List α) (k : Nat) : (List.replicate k xs).flatten.length = k * xs.length := by
  induction k with
  | zero => simp
  | succ k ih => rw [List.replicate_succ, List.flatten_cons, List.length_append, ih, Nat.succ_mul, Nat.add_comm]
theorem op_rep : OpR X (binaryOp .Mult) rRep := by
  intro pins s σ H x y v u Q I rx ry h
  obtain ⟨l, k, xs, rfl, rfl, hH, h1, h2, hz, q⟩ := h
  cases rx
  obtain ⟨t, rfl⟩ := ry
  obtain ⟨z, its, n, r, hl, e⟩ := I.lstM hH
  have hlen : its.toArray.size * k.toNat ≤ sizeLine := by rw [List.size_toArray, ← hl]; exact hz
  have hcap : ¬ its.toArray.size * k.toNat > (2 ^ 63 - 1) / 8 := by
    have : (sizeLine : Nat) ≤ (2 ^ 63 - 1) / 8 := by decide
    omega
  have hfit : ¬ (!Builtin.List.listFitsIndex k) = true := by
    rw [fitsIndex_both h1 h2]
    exact Bool.false_ne_true
  have hlong : ¬ Builtin.List.listTooLong (its.toArray.size * k.toNat) = true := by
    rw [notLongL hlen]
    exact Bool.false_ne_true
  have hnew : List.foldl (fun x1 x2 => x1 ++ x2) #[] (List.replicate (if its.toArray.isEmpty = true then 0 else k.toNat) its.toArray) = (List.replicate k.toNat its).flatten.toArray := by
    have f0 : ∀ m : Nat, List.foldl (fun x1 x2 => x1 ++ x2) #[] (List.replicate m its.toArray) = (List.replicate m its).flatten.toArray := fun m => by
      have := foldl_rep its m []
      rw [List.nil_append] at this
      exact this
    rw [f0]
    cases its with
    | nil => simp
    | cons a r' => rw [if_neg (by simp)]
  refine wpAny_binaryOp_repeat_ref (T := "list") (U := "int") (by decide) ⟨_, e, rfl⟩ (fun s' => typeIs_int s' k t) noFill_list_mul F.fills_int_mul F.slot_int_rmul repeat_list F.slot_int_index.lookup
    (call_meets F.slot_int_rmul (typeIs_int s k t) F.entry_int_rmul (F.args_int_rmul_2 _ _) (int___rmul___int_list k t l its.toArray n)
      ⟨e, rfl, ⟨_, e, rfl⟩, call_meets F.slot_list_mul ⟨_, e, rfl⟩ F.entry_list_mul (F.args_list_mul_2 _ _) (AutoListH.list___mul___list_int_3 l its.toArray n k t hfit hcap hlong) ⟨e, ?_⟩⟩)
  rw [hnew]
  exact ⟨.ref _, _, I.lnew (t' := s.toks) (r.rep k.toNat) (by rw [len_rep, Nat.mul_comm]; exact hz), rfl, q _ I.fresh⟩

/-! ### del xs[i] -/
theorem del_list {pins : List (Addr × Obj)} {s : Shared} {σ : St} {H : Hp} {l : Addr} {xs : List V} {i : Int} {t : Tok} {k : Nat} {Q : Unit → Shared → Prop} (I : Inv X pins σ H s) (hH : H l = some (.lst xs))
    (h1 : -(2 ^ 63) ≤ i) (h2 : i < 2 ^ 63) (hk : seqIndex? i xs.length = some k) (h : ∀ s', Inv X pins σ (upd H l (.lst (xs.eraseIdx k))) s' → Q () s') :
    wpAny (model X.prog X.w) X.A (delItem (.ref l) (.int i t)) Q X.xe s := by
  obtain ⟨z, its, n, r, hl, e⟩ := I.lstM hH
  refine PySem.P.delItem_list (k := k) e (fitsIndex_both h1 h2) (by rw [List.size_toArray, ← hl]; exact hk) (h _ ?_) (by rw [List.size_toArray]; omega)
  refine I.lset (its' := its.eraseIdx k) (t' := s.toks) hH e ?_ (r.eraseIdx k) ?_
  · show its.toArray.eraseIdxIfInBounds k = (its.eraseIdx k).toArray
    rw [List.eraseIdxIfInBounds_toArray]
  · have := len_erase xs k
    omega
end

/-! ### xs[a:b] = ys -/
section
variable {prog : Program} {w : World} {A : Around} {E : Value → Shared → Prop} {s : Shared}
theorem splice_eq (its its2 : List Value) (a c : Nat) : its.toArray.extract 0 a ++ its2.toArray ++ its.toArray.extract c its.toArray.size = (its.take a ++ its2 ++ its.drop c).toArray := by
  apply Array.toList_inj.mp
  first
    | (simp
       exact List.take_of_length_le (by simp))
    | simp [List.take_of_length_le]
    | simp
theorem bounds_run {a c n : Nat} (hac : a ≤ c) (hc : c ≤ n) : sliceBounds (some (a : Int)) (some (c : Int)) none n = ((a : Int), (c : Int), 1) := by
  simp only [sliceBounds, Option.getD_none]
  have h1 : ¬ ((a : Int) < 0) := by omega
  have h2 : ¬ ((c : Int) < 0) := by omega
  simp only [h1, h2, if_false, show (1 : Int) > 0 by decide, if_true]
  congr 1
  · omega
  · congr 1; omega
set_option maxRecDepth 100000 in
/-- list.__setitem__ with a slice of step one and another list -/
theorem setItem_slice {l b sl : Addr} {items new : Array Value} {n n2 : Nat} {vl vu : Value} {a c : Nat} {Q : Unit → Shared → Prop}
    (e : s.heap.get? l = some { cls := .type "list", data := .seq items n }) (e2 : s.heap.get? b = some { cls := .type "list", data := .seq new n2 }) (hne : l ≠ b)
    (hs : s.heap.IsSliceOf sl vl vu .none) (pl : IsPart vl (some (a : Int))) (pu : IsPart vu (some (c : Int))) (hac : a ≤ c) (hc : c ≤ items.size)
    (hsz : items.size + new.size ≤ sizeLine) (h : Q () { s with heap := s.heap.update l (Obj.mapSeq fun xs => xs.extract 0 a ++ new ++ xs.extract c xs.size) }) :
    wpAny (model prog w) A (setItem (.ref l) (.ref sl) (.ref b)) Q E s := by
  have hl : s.heap.IsList l items := PySem.IsL.isList e
  have hb : s.heap.IsList b new := PySem.IsL.isList e2
  obtain ⟨os, hos, hcs, hds⟩ := id hs
  have hTs : s.TypeIs (.ref sl) "slice" := ⟨os, hos, hcs⟩
  have hstep : ¬ ((rawPart none == rawInt 0) = true) := Bool.false_ne_true
  have hsame : Builtin.List.listSameRef (.ref l) (.ref b) = false := by
    unfold Builtin.List.listSameRef
    exact beq_eq_false_iff_ne.mpr hne
  have hmax : (max (a : Int) (c : Int)).toNat = c := by omega
  have hz' : ((fun xs : Array Value => xs.extract 0 a ++ new ++ xs.extract c xs.size) items).size ≤ sizeLine + 1 := by
    simp only [Array.size_append, Array.size_extract]
    omega
  unfold setItem
  try with_reducible refine wpAny_holding ?_
  first | refine wpAny_bind (wpAny_pure ?_) | skip
  refine wpAny_bind (wpAny_sequenceKey hl.typeIs (by decide) ?_)
  refine wpAny_bind (wpAny_callSpecial?_slot (name := Str.ofString "__setitem__") hl.typeIs slot_list_setitem
    (wpAny_call_entry slot_list_setitem hl.typeIs entry_list_setitem ?_ (args_list_setitem _ _ _)))
  show wpAny _ _ (Builtin.List.listSubscript? (.ref sl) >>= _) _ _ s
  refine wpAny_bind ?_
  unfold Builtin.List.listSubscript?
  refine wpAny_bind (wpAny_specialOf hTs slice_no_index ?_)
  simp only [Option.isNone_none, if_true]
  refine wpAny_pure ?_
  show wpAny _ _ (typeOf (.ref sl) >>= _) _ _ s
  refine wpAny_bind (wpAny_typeOf hTs ?_)
  first
    | rw [if_neg (by decide)]
    | refine PySem.W.KFB.if_not (by decide) ?_
  rw [listSliceParts_eq]
  refine wpAny_bind (wpAny_bind (wpAny_field hos hds (x := .none) rfl (wpAny_bind (wpAny_listPart .none ?_))))
  rw [if_neg hstep]
  refine wpAny_bind (wpAny_field hos hds (x := vl) rfl (wpAny_bind (wpAny_listPart pl ?_)))
  refine wpAny_bind (wpAny_field hos hds (x := vu) rfl (wpAny_bind (wpAny_listPart pu (wpAny_pure ?_))))
  first
    | simp only [hsame, Bool.false_eq_true, if_false]
    | refine PySem.W.KFB.if_not hsame ?_
    | (dsimp only
       rw [if_neg (by rw [hsame]; exact Bool.false_ne_true)])
  refine wpAny_bind (m := Builtin.List.listAllItems (.ref b) "must assign iterable to extended slice") ?_
  unfold Builtin.List.listAllItems
  refine wpAny_bind (wpAny_typeOf hb.typeIs ?_)
  first
    | refine PySem.W.KFB.if_so (by decide) ?_
    | rw [if_pos (by decide)]
    | simp only [beq_self_eq_true, Bool.true_or, if_true]
  unfold Builtin.List.listItems
  refine wpAny_bind (wpAny_seqItems e2 rfl (wpAny_pure ?_))
  refine wpAny_bind (wpAny_bind (wpAny_seqItems e rfl (wpAny_pure ?_)))
  refine wpAny_bind (wpAny_of_eq ((sliceIndices_raw (some (a : Int)) (some (c : Int)) none items.size (by simp)).trans (congrArg (pure : Int × Int × Int → Sem (Int × Int × Int)) (bounds_run hac hc))) ?_)
  show wpAny _ _ (if ((1 : Int) == 1) = true then _ else _) _ _ s
  rw [if_pos (by decide)]
  refine wpAny_bind (wpAny_rule ?_)
  first
    | simp only [notLongL hsz, Bool.false_eq_true, if_false]
    | refine PySem.W.KFB.if_not (notLongL hsz) ?_
  first | refine wpAny_bind (wpAny_pure ?_) | skip
  show wpAny _ _ (updateSeq l (fun xs => xs.extract 0 ((a : Int)).toNat ++ new ++ xs.extract (max (a : Int) (c : Int)).toNat xs.size) >>= _) _ _ s
  rw [hmax, Int.toNat_natCast]
  refine wpAny_bind (wpAny_updateSeq (hz := Nat.le_trans (Nat.le_add_right _ _) hsz) (_hz' := hz') e rfl ?_)
  refine wpAny_bind (wpAny_letGo ?_)
  first
    | exact wpAny_bind (wpAny_pure (wpAny_pure ⟨.none, rfl, wpAny_pure h⟩))
    | exact wpAny_pure ⟨.none, rfl, wpAny_pure h⟩
end

section
variable {X : Cx}
/-- xs[a:c] = ys of another list, at the value level: sl is the slice object that was just made -/
theorem set_slice {pins : List (Addr × Obj)} {s : Shared} {σ : St} {H : Hp} {l b sl : Addr} {xs ys : List V} {a c : Int} {vl vu : Value} {Q : Unit → Shared → Prop} (I : Inv X pins σ H s)
    (hH : H l = some (.lst xs)) (hB : H b = some (.lst ys)) (hne : l ≠ b) (hs : s.heap.IsSliceOf sl vl vu .none) (ra : RelV (.int a) vl) (rc : RelV (.int c) vu) (h0 : 0 ≤ a) (hac : a ≤ c) (hc : c ≤ xs.length)
    (hz : xs.length + ys.length ≤ sizeLine) (h : ∀ s', Inv X pins σ (upd H l (.lst (xs.take a.toNat ++ ys ++ xs.drop c.toNat))) s' → Q () s') :
    wpAny (model X.prog X.w) X.A (setItem (.ref l) (.ref sl) (.ref b)) Q X.xe s := by
  obtain ⟨ta, rfl⟩ := ra
  obtain ⟨tc, rfl⟩ := rc
  obtain ⟨z, its, n, r, hl, e⟩ := I.lstM hH
  obtain ⟨z2, its2, n2, r2, hl2, e2⟩ := I.lstM hB
  obtain ⟨a', rfl⟩ := Int.eq_ofNat_of_zero_le h0
  obtain ⟨c', rfl⟩ := Int.eq_ofNat_of_zero_le (Int.le_trans h0 hac)
  simp only [Int.toNat_natCast] at h
  refine setItem_slice (a := a') (c := c') e e2 hne hs (.int _ _) (.int _ _) (by omega) (by rw [List.size_toArray]; omega) (by rw [List.size_toArray, List.size_toArray]; omega) (h _ ?_)
  refine I.lset (its' := its.take a' ++ its2 ++ its.drop c') (t' := s.toks) hH e ?_ (Vals.append (Vals.append (r.take _) r2) (r.drop _)) ?_
  · exact splice_eq its its2 a' c'
  · rw [List.length_append, List.length_append, List.length_take, List.length_drop]
    omega
end
end L2

namespace Att
open PySem PySem.W PySem.Calls PyProof.Rows

/-! ### the script -/
theorem ints_of_wellAll {P : Params} {h : Heap} : ∀ (ns : List Int) (vs : List Value), WellAll P h vs (ns.map WData.int) → IntsAre vs ns := by
  intro ns
  induction ns with
  | nil =>
    intro vs w
    rw [List.map_nil] at w
    cases w
    exact .nil
  | cons n ns ih =>
    intro vs w
    rw [List.map_cons] at w
    cases w with
    | cons a b =>
      cases a
      exact .cons _ _ (ih _ b)

theorem script_of {l : OpenLaw} {n : Nat} (hn : l.most = some n) {P : Params} {h : Heap} {args : List WData} {vals : List Value}
    (hpre : l.row.toRowW.claim.pre args = true) (hwl : WellAll P h vals args) :
    ∃ a vs ns, vals = [Value.ref a] ∧ args = [WData.list (ns.map WData.int)] ∧ h.get? a = some { cls := .type "list", data := .seq vs.toArray } ∧ IntsAre vs ns ∧ ns.length ≤ n := by
  have hsh : WShape.hasAll [] args [.list .int] = true := (pre_splitW hpre).1
  have hc : l.pre.holds [] { args := args } = true := (pre_splitW hpre).2
  obtain ⟨d, r, rfl, h1, h2⟩ := hasAllW_cons hsh
  obtain rfl := hasAllW_nil h2
  obtain ⟨xs, rfl, h3⟩ := hasW_list h1
  obtain ⟨ns, rfl⟩ := items_int h3
  have hlen : ns.length ≤ n := by
    unfold OpenLaw.pre at hc
    have h4 : (WTm.not (.lt (.lit (.int (n : Int))) (.len (.arg 0)))).holds [] { args := [.list (ns.map .int)] } = true := by
      have h4 := (holds_andW hc).1
      rw [hn] at h4
      exact h4
    have h5 := condW_of h4 (w_not (w_lt w_lit (w_len_list (w_arg rfl))))
    rw [List.length_map] at h5
    refine Nat.le_of_not_lt fun q => ?_
    have q' : (n : Int) < ((ns.length : Nat) : Int) := by omega
    first
      | (rw [decide_eq_true q'] at h5; exact absurd h5 (by decide))
      | (simp at h5; omega)
  cases hwl with
  | cons w1 w2 =>
    cases w2
    cases w1 with
    | list ho hall => exact ⟨_, _, ns, rfl, rfl, ho, ints_of_wellAll ns _ hall, hlen⟩

theorem post_true (l : OpenLaw) (args : List WData) : l.row.toRowW.claim.post args (.bool true) args = true :=
  postW_of (r := l.row.toRowW) (X := (true == true))
    (show WShape.has [] (.bool true) .bool = true by first | rfl | decide | simp [WShape.has, WShape.arms, WShape.armsAll])
    (show (WTm.eq .res (.lit (.bool true))).value [] { args := args, res := some (.bool true), after := args } = some (.bool (true == true)) from w_eq_bool (w_res rfl) w_lit) rfl

/-! ### the attachment: holds_open's last premise (the goal 'hc' behind k_head) from a wpAny of the law's body -/
theorem attach {l : OpenLaw} {n : Nat} {q : Program} {loose : List Str} {XP : (Str → Option Value) → Heap → Prop} {YP : World → Heap → Prop} {d : DefRec} {x : Str}
    (hn : l.most = some n) (hdf : d.params.defaults = [])
    (hbind : ∀ pm cd doc v : Value, bindArgs (docDef d.name d.params d.body d.scope pm cd doc) ⟨[v], []⟩ = pure [(x, v)])
    (hx : d.scope.names.lookup x = some .local ∨ d.scope.names.lookup x = some .cell)
    (hk : d.scope.kind = .function) (hco : d.scope.isCoroutine = false) (hgen : d.scope.isGenerator = false)
    (body : ∀ (w : World) (s₀ s₁ s : Shared) (mg mb : Str → Option Value) (fa : Addr) (o : Obj) (pm cd doc : Value) (a : Addr) (vs : List Value) (ns : List Int),
      Ground q loose [] XP w s₀ mg mb s₁.heap → YP w s₁.heap →
      s₁.heap.get? fa = some o → o.data = .func (docDef d.name d.params d.body d.scope pm cd doc) → s₁.heap.CodeRec cd d.name → mg d.name = some (.ref fa) →
      s₁.heap.get? a = some { cls := .type "list", data := .seq vs.toArray } → IntsAre vs ns → ns.length ≤ n →
      s.gens = #[] → s.os = s₁.os →
      Fr s₁.heap s₁.heap.objs.size s.heap (bindL (envOfC d.name d.scope s₁.heap.objs.size fa cd).kindOf [(x, .ref a)] fun _ => none) →
      Cl s₁.heap.objs.size (cellsFrom (s₁.heap.objs.size + 1) d.scope.names []) s.heap (bindC (envOfC d.name d.scope s₁.heap.objs.size fa cd).kindOf [(x, .ref a)] fun _ => none) →
      wpAny (model l.prog w) (callerA.deeper (envOfC d.name d.scope s₁.heap.objs.size fa cd)) (execs d.body (envOfC d.name d.scope s₁.heap.objs.size fa cd))
        (fun f s' => f = .ret (.bool true) ∧ OldK s₁.heap s'.heap ∧ s'.os = s₁.os ∧ AllBare s'.gens) (fun _ _ => False) s) :
    WalkO q loose XP YP l.row.toRowW d [] (fun f vs => PySem.call f vs) := by
  intro w s₀ s₁ mg mb G Y fa o pm cd doc dV kV ho hd hcd hD hmg hg args vals as hpre hlay hrd hwl hlo
  obtain rfl : dV = .none := Dflts.none hD hdf
  obtain rfl : kV = .none := Dflts.noKw hD
  obtain ⟨a, vs, ns, rfl, rfl, hobj, hints, hlen⟩ := script_of hn hpre hwl
  refine enter_call ?_
  refine call_cells_ret (o := o) (by rw [depth_caller]; decide) ho (fd_plain hd) G.T.nolimit hcd (hbind pm cd doc (.ref a)) (fun y hy => ?_) (fun h₁ tk F X => ?_) hco hgen hk
  · obtain rfl : y = (x, Value.ref a) := List.mem_singleton.mp hy
    rcases hx with e | e
    · exact .inl e
    · exact .inr ⟨e, cellsFrom_some _ _ _ (.inl e)⟩
  · refine wpAny_mono (body w s₀ s₁ { s₁ with heap := h₁, toks := tk } mg mb fa o pm cd doc a vs ns G Y ho (fd_plain hd) hcd hmg hobj hints hlen hg rfl F X) (fun f s' hq => ?_) (fun _ _ hq => hq)
    obtain ⟨rfl, h2, h3, h4⟩ := hq
    exact ⟨.inl ⟨.bool true, .bool true, [], rfl, fun _ => rfl, .bool true, post_true l _, fun _ => ⟨List.Pairwise.nil, fun _ hm => (nomatch hm)⟩⟩, h2, h3, h4⟩

/-- the same from a codeAny of the CALL (for a layer whose function contracts speak of calls) -/
theorem attach_call {l : OpenLaw} {n : Nat} {q : Program} {loose : List Str} {XP : (Str → Option Value) → Heap → Prop} {YP : World → Heap → Prop} {d : DefRec}
    (hn : l.most = some n) (hdf : d.params.defaults = [])
    (call : ∀ (w : World) (s₀ s₁ : Shared) (mg mb : Str → Option Value) (fa : Addr) (o : Obj) (pm cd doc : Value) (a : Addr) (vs : List Value) (ns : List Int),
      Ground q loose [] XP w s₀ mg mb s₁.heap → YP w s₁.heap →
      s₁.heap.get? fa = some o → o.data = .func (docDef d.name d.params d.body d.scope pm cd doc) → s₁.heap.CodeRec cd d.name → mg d.name = some (.ref fa) →
      s₁.heap.get? a = some { cls := .type "list", data := .seq vs.toArray } → IntsAre vs ns → ns.length ≤ n → s₁.gens = #[] →
      codeAny (model l.prog w) callerA (.call (.ref fa) ⟨[.ref a], []⟩) (fun r s' => r = .ok (.ret (.bool true)) ∧ OldK s₁.heap s'.heap ∧ s'.os = s₁.os ∧ AllBare s'.gens) s₁) :
    WalkO q loose XP YP l.row.toRowW d [] (fun f vs => PySem.call f vs) := by
  intro w s₀ s₁ mg mb G Y fa o pm cd doc dV kV ho hd hcd hD hmg hg args vals as hpre hlay hrd hwl hlo
  obtain rfl : dV = .none := Dflts.none hD hdf
  obtain rfl : kV = .none := Dflts.noKw hD
  obtain ⟨a, vs, ns, rfl, rfl, hobj, hints, hlen⟩ := script_of hn hpre hwl
  refine enter_call (codeAny_mono (call w s₀ s₁ mg mb fa o pm cd doc a vs ns G Y ho (fd_plain hd) hcd hmg hobj hints hlen hg) fun r s' hq => ?_)
  obtain ⟨rfl, h2, h3, h4⟩ := hq
  exact ⟨.inl ⟨.bool true, .bool true, [], rfl, fun _ => rfl, .bool true, post_true l _, fun _ => ⟨List.Pairwise.nil, fun _ hm => (nomatch hm)⟩⟩, h2, h3, h4⟩

/-- the same where the top left finished generators (o_head chose holds_openN): nothing may have changed at all and no generator may be left -/
theorem attachN {l : OpenLaw} {n : Nat} {q : Program} {loose : List Str} {XP : (Str → Option Value) → Heap → Prop} {YP : World → Heap → Prop} {d : DefRec} {x : Str}
    (hn : l.most = some n) (hdf : d.params.defaults = [])
    (hbind : ∀ pm cd doc v : Value, bindArgs (docDef d.name d.params d.body d.scope pm cd doc) ⟨[v], []⟩ = pure [(x, v)])
    (hx : d.scope.names.lookup x = some .local ∨ d.scope.names.lookup x = some .cell)
    (hk : d.scope.kind = .function) (hco : d.scope.isCoroutine = false) (hgen : d.scope.isGenerator = false)
    (body : ∀ (w : World) (s₀ s₁ s : Shared) (mg mb : Str → Option Value) (fa : Addr) (o : Obj) (pm cd doc : Value) (a : Addr) (vs : List Value) (ns : List Int),
      Ground q loose [] XP w s₀ mg mb s₁.heap → YP w s₁.heap →
      s₁.heap.get? fa = some o → o.data = .func (docDef d.name d.params d.body d.scope pm cd doc) → s₁.heap.CodeRec cd d.name → mg d.name = some (.ref fa) →
      s₁.heap.get? a = some { cls := .type "list", data := .seq vs.toArray } → IntsAre vs ns → ns.length ≤ n →
      s.gens = #[] → s.os = s₁.os →
      Fr s₁.heap s₁.heap.objs.size s.heap (bindL (envOfC d.name d.scope s₁.heap.objs.size fa cd).kindOf [(x, .ref a)] fun _ => none) →
      Cl s₁.heap.objs.size (cellsFrom (s₁.heap.objs.size + 1) d.scope.names []) s.heap (bindC (envOfC d.name d.scope s₁.heap.objs.size fa cd).kindOf [(x, .ref a)] fun _ => none) →
      wpAny (model l.prog w) (callerA.deeper (envOfC d.name d.scope s₁.heap.objs.size fa cd)) (execs d.body (envOfC d.name d.scope s₁.heap.objs.size fa cd))
        (fun f s' => f = .ret (.bool true) ∧ (∀ b o, s₁.heap.get? b = some o → s'.heap.get? b = some o) ∧ s'.os = s₁.os ∧ s'.gens = #[]) (fun _ _ => False) s) :
    WalkN q loose XP YP l.row.toRowW d [] (fun f vs => PySem.call f vs) := by
  intro w s₀ s₁ mg mb G Y fa o pm cd doc dV kV ho hd hcd hD hmg hg args vals as hpre hlay hrd hwl hlo
  obtain rfl : dV = .none := Dflts.none hD hdf
  obtain rfl : kV = .none := Dflts.noKw hD
  obtain ⟨a, vs, ns, rfl, rfl, hobj, hints, hlen⟩ := script_of hn hpre hwl
  refine enter_callW ?_
  refine call_cells_ret (o := o) (by rw [depth_caller]; decide) ho (fd_plain hd) G.T.nolimit hcd (hbind pm cd doc (.ref a)) (fun y hy => ?_) (fun h₁ tk F X => ?_) hco hgen hk
  · obtain rfl : y = (x, Value.ref a) := List.mem_singleton.mp hy
    rcases hx with e | e
    · exact .inl e
    · exact .inr ⟨e, cellsFrom_some _ _ _ (.inl e)⟩
  · refine wpAny_mono (body w s₀ s₁ { s₁ with heap := h₁, toks := tk } mg mb fa o pm cd doc a vs ns G Y ho (fd_plain hd) hcd hmg hobj hints hlen hg rfl F X) (fun f s' hq => ?_) (fun _ _ hq => hq)
    obtain ⟨rfl, h2, h3, h4⟩ := hq
    exact ⟨.inl ⟨.bool true, .bool true, [], rfl, fun _ => rfl, .bool true, post_true l _, fun _ => ⟨List.Pairwise.nil, fun _ hm => (nomatch hm)⟩⟩, h2, h3, h4⟩

/-! ### rules over ANY heap (no ledger) from facts about the written part K: the library's own take a ledger (News) for what they write -/
section
variable {prog : Program} {w : World} {A : Around} {E : Value → Shared → Prop} {s : Shared} {K : Frag}

/-- a def of the module, or a method (qual 'C.m'), entered: the frame is the next address; cells behind it -/
theorem call_fn {R : Result → Shared → Prop} {name qual : Str} {params : Arguments} {body : List Stmt} {scope : Scope} {dV kV doc pm cdv ct oc : Value} {an od : Option Addr} {osl : Array (Option Value)} {f : Addr} {args : Args} {binds : List (Str × Value)}
    (X : K.In s.heap) (hlim : s.heap.NoLimit) (ho : K.lookup f = some ⟨oc, od, .func (fnOf name qual params body scope dV kV doc pm an cdv ct), osl⟩) (hcd : codeIn K cdv qual = true) (hroom : A.depth < recursionLimit)
    (hbind : BindsTo s (fnOf name qual params body scope dV kV doc pm an cdv ct) args binds)
    (hkind : (binds.all fun y => scope.names.lookup y.1 == some .local || scope.names.lookup y.1 == some .cell) = true)
    (h : ∀ s₁, InCallC s s.heap.objs.size (bindL (envOfC qual scope s.heap.objs.size f cdv).kindOf binds fun _ => none) (cellsFrom (s.heap.objs.size + 1) scope.names [])
        (bindC (envOfC qual scope s.heap.objs.size f cdv).kindOf binds fun _ => none) s₁ →
      wpAny (model prog w) (A.deeper (envOfC qual scope s.heap.objs.size f cdv)) (execs body (envOfC qual scope s.heap.objs.size f cdv))
        (fun fl s' => R (.ok (.ret (match fl with | .ret v => v | _ => .none))) s')
        (fun e s' => wpAny (model prog w) (A.deeper (envOfC qual scope s.heap.objs.size f cdv)) (leaving (envOfC qual scope s.heap.objs.size f cdv) e) (fun _ s'' => R (.error e) s'') (fun e' s'' => R (.error e') s'') s') s₁)
    (hco : scope.isCoroutine = false) (hgen : scope.isGenerator = false) (hk : scope.kind = .function) : codeAny (model prog w) A (.call (.ref f) args) R s := by
  refine codeAny_call_function hroom (X _ _ ho) rfl hco hgen rfl (codeRec_of X hcd) (hbind _ _ _ _ ?_)
  refine wpAny_newFunctionEnv_cells hk (kindsX hkind _) fun env he s₁ x => ?_
  subst he
  exact ⟨hlim.keeps x.toInCall.keep, codeAny_func (h s₁ x)⟩

/-- C(..): dict at size, instance at size + 1, then __init__ -/
theorem make_obj {R : Result → Shared → Prop} {C fI : Addr} {rest : List Value} {kw : List (Str × Value)}
    (X : K.In s.heap) (hm : makesIn K C = true) (hi : findIn K (.ref C) "__init__" = some (some (.ref fI))) (hf : isFn K (.ref fI) = true)
    (h : codeAny (model prog w) (A.under (.builtin "type.__call__" ⟨.ref C :: rest, kw⟩)) (.call (.ref fI) ⟨.ref (s.heap.objs.size + 1) :: rest, kw⟩) (InitBack (s.heap.objs.size + 1) R)
      { s with heap := (s.heap.push emptyDict).push (instObj C s.heap.objs.size) }) : codeAny (model prog w) A (.call (.ref C) ⟨rest, kw⟩) R s := by
  obtain ⟨hh, g, d, t, os⟩ := s
  exact make_core (makes_of X hm) (looks_findIn X hi) (fun self => bind_fn X self (beq_iff_eq.mp hf)) (.inl rfl) h

/-- x.name where the instance's dict holds the name and the class does not -/
theorem get_field {x C : Addr} {ox : Obj} {es : List DictEntry} {n : Nat} {name : Str} {expr : Bool} {v : Value} {Q : Value → Shared → Prop}
    (X : K.In s.heap) (I : PySem.W.InstAt s.heap x ox C (some (dictOf es n))) (hg : plainGet K C name = true) (hh : hasDictIn K C = true) (ha : findIn K (.ref C) name = some none)
    (hl : getL name es = some (some v)) (hv : handedIn v = true) (h : Q v { s with toks := s.toks + 1 }) : wpAny (model prog w) A (getAttr (.ref x) name expr) Q E s :=
  get_value X I (plainGet_of hg).1 (findObj_own hh ha rfl hl) hv h

/-- x.m(..): the method found in the class -/
theorem get_method {x C f : Addr} {ox : Obj} {es : List DictEntry} {n : Nat} {name : Str} {pl : Sem Bool} {Q : Value × List Value → Shared → Prop}
    (X : K.In s.heap) (I : PySem.W.InstAt s.heap x ox C (some (dictOf es n))) (hg : plainGet K C name = true) (hf : findIn K (.ref C) name = some (some (.ref f))) (ht : isFn K (.ref f) = true)
    (hl : getL name es = some none) (h : Q (.ref f, [.ref x]) s) : wpAny (model prog w) A (getMethod (.ref x) name pl) Q E s :=
  method_fn X I (plainGet_of hg).1 (plainGet_of hg).2 hf (beq_iff_eq.mp ht) (by show (lookIn name (dictOf es n)).map _ = _; rw [lookIn_dict, hl]; rfl) h

/-! the whole heap as the ledger: makes every rule that writes through a ledger a rule over any heap -/
def noObjs (h : Heap) : Heap := { h with objs := #[] }
theorem noObjs_get (h : Heap) (b : Addr) : (noObjs h).get? b = none := by
  cases e : (noObjs h).get? b with
  | none => rfl
  | some o => exact absurd (Heap.lt_size e) (Nat.not_lt_zero _)
def ledger (h : Heap) (L d : Addr) : List (Addr × Obj) := (List.range h.objs.size).filterMap fun a => if a = L ∨ a = d then none else (h.get? a).map fun o => (a, o)
theorem mem_ledger {h : Heap} {L d a : Addr} {o : Obj} : (a, o) ∈ ledger h L d ↔ a ≠ L ∧ a ≠ d ∧ h.get? a = some o := by
  unfold ledger
  rw [List.mem_filterMap]
  constructor
  · rintro ⟨b, _, e⟩
    split at e
    · cases e
    · rename_i hb
      obtain ⟨o', ho, e'⟩ := Option.map_eq_some_iff.mp e
      cases e'
      exact ⟨fun q => hb (.inl q), fun q => hb (.inr q), ho⟩
  · rintro ⟨n1, n2, ho⟩
    refine ⟨a, List.mem_range.mpr (Heap.lt_size ho), ?_⟩
    rw [if_neg (show ¬ (a = L ∨ a = d) from fun q => q.elim n1 n2), ho] <;> rfl
theorem news_ledger {h : Heap} {L d : Addr} {od : Obj} (hne : d ≠ L) (ho : h.get? d = some od) : News (noObjs h) L h ([] ++ (d, od) :: ledger h L d) := by
  rintro ⟨a, o⟩ hp
  rcases List.mem_cons.mp hp with e | hp
  · cases e
    exact ⟨ho, hne, noObjs_get _ _⟩
  · obtain ⟨n1, n2, e⟩ := mem_ledger.mp hp
    exact ⟨e, n1, noObjs_get _ _⟩
theorem fr_all {h : Heap} {L : Addr} {m : Str → Option Value} (n : h.Ns L m) : Fr (noObjs h) L h m :=
  ⟨n, fun b o e => (by rw [noObjs_get] at e; cases e), Nat.zero_le _⟩
/-- Upd of the head entry (for append_K, setItem_K ..) -/
theorem upd_ledger {h : Heap} {L d : Addr} {o o' : Obj} : Upd d o o' ((d, o) :: ledger h L d) ((d, o') :: ledger h L d) :=
  .head fun ⟨_, _⟩ hp => (mem_ledger.mp hp).2.1

/-- x.name = v over any heap: L is any namespace of the heap (the frame's, say): its map stays, its object is not told; all else but the dict stays -/
theorem set_field {x C dx L : Addr} {ox : Obj} {m : Str → Option Value} {es es' : List DictEntry} {n n' : Nat} {name : Str} {v : Value} {Q : Unit → Shared → Prop}
    (X : K.In s.heap) (I : PySem.W.InstAt s.heap x ox C (some (dictOf es n))) (hd : ox.dict = some dx) (hL : s.heap.Ns L m) (hne : dx ≠ L)
    (hs : findIn K (.ref C) "__setattr__" = some (some (.builtin "object.__setattr__"))) (hp : plainOver K C = true) (ht : takerIn K C name = some none) (hh : hasDictIn K C = true) (hl : (getL name es).isSome = true)
    (e : (putL name (PyData.keyHash w.params name) (.str name (s.toks + 1)) v es, putN name es n) = (es', n')) (hz : es'.length ≤ 1000)
    (h : ∀ h' : Heap, h'.Ns L m → h'.get? dx = some (dictOf es' n') → (∀ b o, b ≠ dx → b ≠ L → s.heap.get? b = some o → h'.get? b = some o) → Q () { s with heap := h', toks := s.toks + 2 }) :
    wpAny (model prog w) A (setAttr (.ref x) name v) Q E s := by
  obtain ⟨e1, e2⟩ := Prod.mk.inj e
  have hdx : s.heap.get? dx = some (dictOf es n) := by
    have := I.dict
    rw [hd] at this
    exact this
  refine set_plain X I hs (osa_dict (s := { s with toks := s.toks + 1 }) (h₀ := noObjs s.heap) (L := L) (m := m) (od := dictOf es n) (od' := dictOf es' n') (es := es') (n := n') (pre := []) (post := ledger s.heap L dx)
    (fr_all hL) (news_ledger hne hdx) X I hd hp ht hh hl (fun _ q => nomatch q) (fun ⟨_, _⟩ q => (mem_ledger.mp q).2.1) (by rw [putName_dict, e1, e2]) rfl hz fun h' F' N' => ?_)
  exact h h' F'.ns (N'.get (List.Mem.head _)) fun b o n1 n2 ho => N'.get (List.Mem.tail _ (mem_ledger.mpr ⟨n2, n1, ho⟩))
end
end Att

namespace L2
open PySem PySem.Spec PyProof.Rows

theorem vals_ints : ∀ {vs : List Value} {ns : List Int}, IntsAre vs ns → Vals (ns.map V.int) vs
  | _, _, .nil => .nil
  | _, _, .cons n t h => .cons ⟨t, rfl⟩ (vals_ints h)

/-- nothing is tracked but the script, known to the object (or it is an object of the module) -/
def Only (H : Hp) : Prop := ∀ b, H b = none ∨ ∃ o xs, H b = some (.frz o (.lst xs))

/-- THE HEAD: the law's promise, at the heap behind the top. F, the promise of the law's def, may use that base is part of the heap (so K.In base, base.Ns mainGlobals mg stand in Mod) -/
theorem law_call {P : Program} {w : World} {K : PySem.W.Frag} {mg mb : Str → Option Value} {CX : CXT} {k : Nat} {fa a : Addr} {fd : FuncData} {x : Str} {sp : Sp} {s₁ : Shared} {vs : List Value} {ns : List Int}
    (KX : K.In s₁.heap) (hns : s₁.heap.Ns mainGlobals mg) (hb : s₁.heap.Ns builtinsNs mb) (hbb : ∀ x : Str, x ≠ "__name__" → mb x = bootBuiltins x) (hlim : s₁.heap.NoLimit) (hg : s₁.gens = #[])
    (ha : s₁.heap.get? a = some { cls := .type "list", data := .seq vs.toArray }) (hi : IntsAre vs ns) (hl : ns.length ≤ sizeLine) (hr : Room k callerA)
    (F : ∀ base : Heap, K.In base → base.Ns mainGlobals mg → FnOk P w K mg base CX k fa fd [x] sp) (hbind : ∀ (s : Shared) (u : Value), BindsTo s fd ⟨[u], []⟩ [(x, u)])
    (hsp : ∀ H : Hp, Only H → SqL K H a (ns.map V.int) → sp [.ref a] H (fun v _ => v = .bl true) fun _ _ _ => False)
    (hCX : ∀ H e s', CX [] H s₁ (fun _ _ _ => False) e s' → False) :
    codeAny (model P w) callerA (.call (.ref fa) ⟨[.ref a], []⟩) (fun r s' => r = .ok (.ret (.bool true)) ∧ OldK s₁.heap s'.heap ∧ s'.os = s₁.os ∧ AllBare s'.gens) s₁ := by
  have rv := vals_ints hi
  have lenV := hi.length
  -- from an abstract heap in which nothing but the script may be tracked
  have core : ∀ H : Hp, Only H → SqL K H a (ns.map V.int) → HOk P w H s₁.heap → (∀ b, H b ≠ none → b = a) → (H a ≠ none → K.lookup a = none) →
      codeAny (model P w) callerA (.call (.ref fa) ⟨[.ref a], []⟩) (fun r s' => r = .ok (.ret (.bool true)) ∧ OldK s₁.heap s'.heap ∧ s'.os = s₁.os ∧ AllBare s'.gens) s₁ := by
    intro H hO hS hok hA hK
    have base_of : ∀ {b : Addr} {o : Obj}, s₁.heap.get? b = some o → H b = none → (hidT s₁.heap H).get? b = some o := fun e n => hidT_get e n
    have noA : ∀ {b : Addr} {o : Obj} {es : Array DictEntry} {ep : Nat}, s₁.heap.get? b = some o → o.data = .dict es ep → H b = none := fun {b o es ep} e d => by
      cases q : H b with
      | none => rfl
      | some u =>
        have e' : b = a := hA b (by rw [q]; simp)
        subst e'
        rw [ha] at e; cases e
        have d' : Data.seq vs.toArray _ = Data.dict es ep := d
        cases d'
    have nsK : ∀ {b : Addr} {m : Str → Option Value}, s₁.heap.Ns b m → (hidT s₁.heap H).Ns b m := fun {b m} ⟨o, es, ep, e, d, r⟩ => ⟨o, es, ep, base_of e (noA e d), d, r⟩
    have hKb : K.In (hidT s₁.heap H) := fun b o e => base_of (KX b o e) (by
      cases q : H b with
      | none => rfl
      | some u =>
        have e' : b = a := hA b (by rw [q]; simp)
        subst e'
        rw [hK (by rw [q]; simp)] at e; cases e)
    have hM : Mod K mg (hidT s₁.heap H) := ⟨hKb, nsK hns, ⟨mb, nsK hb, hbb⟩, let ⟨mc, h1, h2⟩ := hlim; ⟨mc, nsK h1, h2⟩⟩
    have e0 : Env0 P w K mg (hidT s₁.heap H) callerA [] s₁ H := ⟨rfl, hM, fun b o e => of_hidT e, Nat.le_of_eq (hidT_size _ _), trivial, fun b hb => absurd (show b ∈ ([] : List Addr) from hb) (by simp), hok, .of_eq hg⟩
    refine codeAny_mono ((F _ hKb (nsK hns)).run callerA [] s₁ H ⟨[.ref a], []⟩ [.ref a] [.ref a] _ _ hr e0 (hbind s₁ (.ref a)) (.cons rfl .nil) (hsp H hO hS)) fun r s' h => ?_
    cases r with
    | error e => exact (hCX H e s' h).elim
    | ok fl =>
      cases fl with
      | next => exact False.elim h
      | brk => exact False.elim h
      | cont => exact False.elim h
      | ret u =>
        obtain ⟨v, H', os, bare, un, hok', r', q⟩ := h
        have q' : v = .bl true := q
        subst q'
        obtain rfl : u = Value.bool true := r'
        refine ⟨rfl, OldK.of_keep fun b o e => ?_, os, bare⟩
        cases q : H b with
        | none => exact un.keep b o e q (by intro z; exact absurd (show b ∈ ([] : List Addr) from z) (by simp)) (by simp)
        | some u =>
          rcases hO b with z | ⟨ob, xs, z⟩
          · rw [q] at z; cases z
          · have z2 := un.frzs b ob _ z
            obtain ⟨e1, _⟩ := hok b _ z
            obtain ⟨e2, _⟩ := hok' b _ z2
            rw [e] at e1; cases e1
            exact e2
  cases hk : K.lookup a with
  | some o =>
    -- the script is one of the module's own objects
    have e := KX a o hk
    rw [ha] at e
    cases e
    refine core (fun _ => none) (fun _ => .inl rfl) (.inr ⟨_, vs.toArray, _, hk, rfl, rfl, rfl, by rw [List.size_toArray, lenV]; exact hl, by simpa using rv⟩) (fun b u z => by have z' : (none : Option HO) = some u := z; cases z') (fun b z => absurd rfl z) fun z => absurd rfl z
  | none =>
    refine core (fun b => if b = a then some (.frz { cls := .type "list", data := .seq vs.toArray } (.lst (ns.map V.int))) else none) (fun b => ?_) (.inl (.inr ⟨{ cls := .type "list", data := .seq vs.toArray }, if_pos rfl⟩)) (fun b u z => ?_) (fun b z => ?_) fun _ => hk
    · by_cases hb : b = a
      · exact .inr ⟨_, _, if_pos hb⟩
      · exact .inl (if_neg hb)
    · by_cases hb : b = a
      · have z' := (if_pos hb).symm.trans z
        cases z'
        subst hb
        exact ⟨ha, by rw [List.length_map]; exact hl, vs, _, rv, ha⟩
      · have z' := (if_neg hb).symm.trans z
        cases z'
    · by_cases hb : b = a
      · exact hb
      · exact absurd (if_neg hb) z
end L2

namespace L2
open PySem PySem.Spec PyProof.Rows

abbrev KOf {K : PySem.W.Frag} {h : Heap} (_ : K.In h) : PySem.W.Frag := K

/-- the goal that k_head leaves (case hc), from the law's promise. F gives the function object fd (K's own) once, then the promise over every base -/
theorem walk_of {l : PySem.W.OpenLaw} {n k : Nat} {q : Program} {loose : List Str} {XP : (Str → Option Value) → Heap → Prop} {YP : World → Heap → Prop} {d : DefRec} {K : Params → PySem.W.Frag} {CX : World → CXT} {sp : World → Sp} {x : Str}
    (hn : l.most = some n) (hn2 : n ≤ sizeLine) (hdf : d.params.defaults = []) (hr : Room k callerA)
    (hY : ∀ (w : World) (h : Heap), YP w h → (K w.params).In h)
    (F : ∀ (w : World) (mg : Str → Option Value) (fa : Addr) (h : Heap), (K w.params).In h → h.Ns mainGlobals mg → mg d.name = some (.ref fa) →
      ∃ fd : FuncData, (∀ (s : Shared) (u : Value), BindsTo s fd ⟨[u], []⟩ [(x, u)]) ∧
        ∀ base : Heap, (K w.params).In base → base.Ns mainGlobals mg → FnOk l.prog w (K w.params) mg base (CX w) k fa fd [x] (sp w))
    (hsp : ∀ (w : World) (H : Hp) (a : Addr) (ns : List Int), ns.length ≤ n → Only H → SqL (K w.params) H a (ns.map V.int) → sp w [.ref a] H (fun v _ => v = .bl true) fun _ _ _ => False)
    (hCX : ∀ (w : World) (H : Hp) (s : Shared) (e : Value) (s' : Shared), CX w [] H s (fun _ _ _ => False) e s' → False) :
    PySem.W.WalkO q loose XP YP l.row.toRowW d [] (fun f vs => PySem.call f vs) := by
  refine Att.attach_call hn hdf fun w s₀ s₁ mg mb fa o pm cd doc a vs ns G Y ho hd hcd hmg hobj hints hlen hg => ?_
  have KX := hY w _ Y
  obtain ⟨fd, hb, hF⟩ := F w mg fa _ KX G.T.g hmg
  exact law_call KX G.T.g G.T.b G.T.builtins G.T.nolimit hg hobj hints (Nat.le_trans hlen hn2) hr hF hb (fun H hO hS => hsp w H a ns hlen hO hS) fun H e s' => hCX w H s₁ e s'
/-- the same where the promise hangs on the written part alone: (sp := My.sp_law), no hole under a binder -/
theorem walk_ofK {l : PySem.W.OpenLaw} {n k : Nat} {q : Program} {loose : List Str} {XP : (Str → Option Value) → Heap → Prop} {YP : World → Heap → Prop} {d : DefRec} {K : Params → PySem.W.Frag} {CX : CXT} {sp : PySem.W.Frag → Sp} {x : Str}
    (hn : l.most = some n) (hn2 : n ≤ sizeLine) (hdf : d.params.defaults = []) (hr : Room k callerA)
    (hY : ∀ (w : World) (h : Heap), YP w h → (K w.params).In h)
    (F : ∀ (w : World) (mg : Str → Option Value) (fa : Addr) (h : Heap), (K w.params).In h → h.Ns mainGlobals mg → mg d.name = some (.ref fa) →
      ∃ fd : FuncData, (∀ (s : Shared) (u : Value), BindsTo s fd ⟨[u], []⟩ [(x, u)]) ∧
        ∀ base : Heap, (K w.params).In base → base.Ns mainGlobals mg → FnOk l.prog w (K w.params) mg base CX k fa fd [x] (sp (K w.params)))
    (hsp : ∀ (K : PySem.W.Frag) (H : Hp) (a : Addr) (ns : List Int), ns.length ≤ n → Only H → SqL K H a (ns.map V.int) → sp K [.ref a] H (fun v _ => v = .bl true) fun _ _ _ => False)
    (hCX : ∀ (H : Hp) (s : Shared) (e : Value) (s' : Shared), CX [] H s (fun _ _ _ => False) e s' → False) :
    PySem.W.WalkO q loose XP YP l.row.toRowW d [] (fun f vs => PySem.call f vs) :=
  walk_of (K := K) (CX := fun _ => CX) (sp := fun w => sp (K w.params)) hn hn2 hdf hr hY F (fun w H a ns h1 h2 h3 => hsp (K w.params) H a ns h1 h2 h3) fun _ H s e s' => hCX H s e s'
end L2

/- THE LAST THEOREM (shape; LID, My.* are yours):
   My.Adr: a structure of the addresses that your layer names (classes, functions); My.Txt K t: a structure (Prop) of the equations over K;
   My.txt_mk : {K} {implicit addresses ..} (e1 : nsIn K mainGlobals "law" = some (some (.ref f))) (e2 : K.lookup f = some ⟨oc, od, .func (fnOf "law" "law" params body scope dV kV doc pm an cdv ct), sl⟩) (e3 : codeIn K cdv "law" = true) .. : ∃ t, My.Txt K t

set_option maxRecDepth 100000 in
set_option maxHeartbeats 0 in
theorem PySem.Challenge.cw_LID_holds : PySem.Challenge.rw_LID.Holds := by
  w_on; o_law; k_head; (case hw => w_witness2)
  k_fill
  refine L2.walk_of (l := PySem.Challenge.rw_LID) (n := 63) (k := 40) (x := "script") (CX := fun w => ..) (sp := fun _ => My.sp_law) rfl (by decide) rfl ⟨rfl, by decide, by decide⟩ (fun w h Y => PySem.W.kIn_of Y) ?F ?S ?C
  case F =>
    intro w mg fa h KX G hmg
    have T : ∃ t, My.Txt (L2.KOf KX) t := by
      dsimp only [L2.KOf]                          -- K must stand as «<heap const> w.params» for k_is
      refine' My.txt_mk ?e1 ?e2 ?e3 ..
      (case e1 => PySem.W.k_is)                    -- in the order: a name -> its address -> its object -> its parts
      (case e2 => PySem.W.k_is)
      ..
    obtain ⟨t, T⟩ := T
    have e0 := hmg.symm.trans (PySem.W.mg_of KX G T.law)
    cases e0                                       -- fa is the law's own address
    exact ⟨_, fun s u => .of_eq rfl, fun base kb nb => My.law_fn T kb nb⟩     -- if «.of_eq rfl» comes too early: refine' ⟨_, ?b, fun base kb nb => My.law_fn T kb nb⟩; exact fun s u => .of_eq rfl
  case S => exact fun w H a ns hl hO hS => ..
  case C => exact ..
(the tactic k_is has no namespace: write k_is) -/

/-! SHORT WORDS over the layer: a def of the text, its body, what a loop and a test want. -/
namespace L2
open PySem PySem.Spec PyProof.Rows

/-! ### the text by places -/
/-- the j-th statement of a class's body -/
def inClass (s : Stmt) (j : Nat) : Stmt := match s with
  | .ClassDef _ _ _ body _ _ _ _ _ _ _ => body.getD j (.Pass ⟨0, 0, 0, 0⟩)
  | _ => .Pass ⟨0, 0, 0, 0⟩
def defArgs (s : Stmt) : Arguments := match s with
  | .FunctionDef _ a _ _ _ _ _ _ _ _ => a
  | _ => { posonlyargs := [], args := [], vararg := none, kwonlyargs := [], kw_defaults := [], kwarg := none, defaults := [] }
def defBody (s : Stmt) : List Stmt := match s with
  | .FunctionDef _ _ b _ _ _ _ _ _ _ => b
  | _ => []
def defScope (s : Stmt) : Scope := match s with
  | .FunctionDef _ _ _ _ _ _ sc _ _ _ => sc
  | _ => { kind := .function, names := [], isGenerator := false, isCoroutine := false }

/-! ### no exception leaves a def -/
abbrev CX0 : CXT := fun _ _ _ _ _ _ => False
abbrev E0 : XK := fun _ _ _ => False
theorem pass0 {X : Cx} : Passes CX0 X E0 := fun _ _ _ _ _ _ _ h => h.elim

/-! ### a def (or method) of the text as it stands behind the top -/
structure Fun (K : PySem.W.Frag) (x qual : Str) (st : Stmt) (f : Addr) (fd : FuncData) : Prop where
  ex : ∃ (oc : Value) (od : Option Addr) (kV doc pm : Value) (an : Option Addr) (cdv ct : Value) (osl : Array (Option Value)),
    fd = PySem.W.fnOf x qual (defArgs st) (defBody st) (defScope st) .none kV doc pm an cdv ct ∧ K.lookup f = some ⟨oc, od, .func fd, osl⟩ ∧ PySem.W.codeIn K cdv qual = true
  kp : PySem.W.keepIn K (.ref f) = true
section
variable {P : Program} {w : World} {K : PySem.W.Frag} {mg : Str → Option Value} {base : Heap}
/-- THE RULE for a def: its body as a term of rules, and the reading of that term -/
theorem Fun.ok {x qual : Str} {st : Stmt} {f : Addr} {fd : FuncData} {N ps : List Str} {k : Nat} {sp : Sp} (F : Fun K x qual st f fd) (S : FnScope N ps (defScope st)) (len : ∀ vs H Q E, sp vs H Q E → vs.length = ps.length)
    (hbody : ∀ (cdv : Value) (A : Around) (outer : List Env) (s : Shared) (H : Hp) (vs : List V) (Q : VK) (E : XK), Room k (A.deeper (envOfC qual (defScope st) s.heap.objs.size f cdv)) → sp vs H Q E →
      ∃ t, PSs (cxOf CX0 P w K mg base N qual (defScope st) f cdv A outer s H E).nox (defBody st) t ∧ t { nx := fun _ H' => Q .non H', rt := Q } (start N vs) H) : FnOk P w K mg base CX0 (k + 1) f fd ps sp := by
  obtain ⟨oc, od, kV, doc, pm, an, cdv, ct, osl, rfl, lk, hcd⟩ := F.ex
  refine fn_of lk hcd S len fun A outer s H vs Q E hr hsp => ?_
  obtain ⟨t, h, q⟩ := hbody cdv A outer s H vs Q E hr hsp
  exact ⟨t, h.nox, q⟩
/-- how its arguments bind (no defaults): h is «fun _ _ _ _ _ _ us hl => match us, hl with | [_, _], _ => rfl», one _ a parameter -/
theorem Fun.binds {x qual : Str} {st : Stmt} {f : Addr} {fd : FuncData} {ps : List Str} (F : Fun K x qual st f fd)
    (h : ∀ (kV doc pm : Value) (an : Option Addr) (cdv ct : Value) (us : List Value), us.length = ps.length → bindArgs (PySem.W.fnOf x qual (defArgs st) (defBody st) (defScope st) .none kV doc pm an cdv ct) ⟨us, []⟩ = pure (ps.zip us)) : Binds K fd ps [] := by
  obtain ⟨oc, od, kV, doc, pm, an, cdv, ct, osl, rfl, lk, hcd⟩ := F.ex
  exact .all (h kV doc pm an cdv ct)
theorem fun_mk {x qual : Str} {st : Stmt} {f : Addr} {oc : Value} {od an : Option Addr} {osl : Array (Option Value)} {kV doc pm cdv ct : Value} (l : K.lookup f = some ⟨oc, od, .func (PySem.W.fnOf x qual (defArgs st) (defBody st) (defScope st) .none kV doc pm an cdv ct), osl⟩)
    (c : PySem.W.codeIn K cdv qual = true) (k : PySem.W.keepIn K (.ref f) = true) : Fun K x qual st f (PySem.W.fnOf x qual (defArgs st) (defBody st) (defScope st) .none kV doc pm an cdv ct) := ⟨⟨oc, od, kV, doc, pm, an, cdv, ct, osl, rfl, l, c⟩, k⟩
end
theorem hu_of {A : Around} {k : Nat} (hr : Room k A) : A.units + 1 < cLine := Nat.lt_of_le_of_lt (Nat.add_le_add_left (by decide : 1 ≤ 64) _) hr.units
theorem small1000 {n : Nat} (h : n ≤ 1000) : n < sizeLine := Nat.lt_of_le_of_lt h (by decide)

/-! ### expressions in short: the name that stands in the i-th slot -/
section
variable {X : Cx}
theorem pv (i : Nat) {x : Str} {pos : Pos} (hN : X.N[i]? = some x := by rfl) (hv : Vis X.env.scope x := by first | exact Or.inl rfl | exact Or.inr (Or.inl rfl) | exact Or.inr (Or.inr rfl)) (hd : (x == ("__debug__" : Str)) = false := by decide)
    (hcd : (x == ("__classdict__" : Str)) = false := by decide) : PE X (.Name x pos) (tVar i) := pe_var hN hv hd hcd
end

/-! ### tests -/
theorem iteF {A B : Prop} (h : B) : if false = true then A else B := by
  rw [if_neg Bool.false_ne_true]
  exact h
theorem iteT {A B : Prop} (h : A) : if true = true then A else B := by
  rw [if_pos rfl]
  exact h
theorem ite2 {c A B : Prop} [Decidable c] (h1 : c → A) (h2 : ¬ c → B) : if c then A else B := by
  by_cases h : c
  · rw [if_pos h]
    exact h1 h
  · rw [if_neg h]
    exact h2 h
theorem iteNS {c A B : Prop} [Decidable c] (hc : c) (h : B) : if (!decide c) = true then A else B := by
  rw [decide_eq_true hc]
  exact iteF h

/-! ### heaps -/
/-- all that was tracked is as it was -/
def Same (H H' : Hp) : Prop := ∀ b o, H b = some o → H' b = some o
theorem Same.refl (H : Hp) : Same H H := fun _ _ h => h
theorem Same.trans {H H1 H2 : Hp} (a : Same H H1) (b : Same H1 H2) : Same H H2 := fun c o h => b c o (a c o h)
theorem Same.free {H H' : Hp} (e : Same H H') {l : Addr} (h : H' l = Option.none) : H l = Option.none := by
  cases q : H l with
  | none => rfl
  | some o =>
    rw [e l o q] at h
    cases h
theorem Same.seq {K : PySem.W.Frag} {H H' : Hp} {a : Addr} {xs : List V} (e : Same H H') (h : SqL K H a xs) : SqL K H' a xs := by
  rcases h with (h | ⟨o, h⟩) | h
  · exact .inl (.inl (e _ _ h))
  · exact .inl (.inr ⟨o, e _ _ h⟩)
  · exact .inr h

end L2

set_option Elab.async false
set_option linter.all false
set_option maxRecDepth 100000
set_option maxHeartbeats 4000000

/-! A shallow reading of the program: each def of the text becomes a Lean function over plain values (Wv) and a row of objects (Hs); the rules below say that the text does what that function says. -/
namespace J
open PySem PySem.Spec PyProof.Rows L2

inductive Wv where
  | non
  | bl (b : Bool)
  | int (i : Int)
  | str (x : PySem.Str)
  | tup (ws : List Wv)
  | ref (l : Nat)
  | ty (n : String)
  | cls (c : PySem.Str)
  | exn (c : PySem.Str)

inductive Ob where
  | lst (ws : List Wv)
  | scr (ns : List Int)

abbrev Hs := List Ob
abbrev St := L2.St
abbrev Rho := List (Option Wv)
abbrev Mp := List Addr

/-- the object of an exception -/
def ExnAt (a C : Addr) : Heap → Prop := fun h => ∃ o, h.get? a = some o ∧ o.cls = .ref C ∧ ∃ vs, o.data = .fields vs
/-- a class of the text by its name -/
def ClsAt (K : PySem.W.Frag) (c : PySem.Str) (C : Addr) : Prop := PySem.W.nsIn K mainGlobals c = some (some (.ref C))
mutual
def RelW (K : PySem.W.Frag) (m : Mp) (H : Hp) : Wv → V → Prop
  | .non, v => v = .non
  | .bl b, v => v = .bl b
  | .int i, v => v = .int i
  | .str x, v => v = .str x ∧ PyData.strOk x = true
  | .tup ws, v => ∃ a xs, v = .ref a ∧ SqT K H a xs ∧ RelWs K m H ws xs
  | .ref l, v => ∃ a, v = .ref a ∧ m[l]? = some a
  | .ty n, v => v = .ty n
  | .cls c, v => ∃ C, v = .ref C ∧ ClsAt K c C
  | .exn c, v => ∃ a C, v = .ref a ∧ ClsAt K c C ∧ H a = some (.ext (ExnAt a C))
def RelWs (K : PySem.W.Frag) (m : Mp) (H : Hp) : List Wv → List V → Prop
  | [], xs => xs = []
  | w :: ws, xs => ∃ x r, xs = x :: r ∧ RelW K m H w x ∧ RelWs K m H ws r
end

structure Ext (K : PySem.W.Frag) (m : Mp) (H : Hp) (m' : Mp) (H' : Hp) : Prop where
  pre : ∀ (l : Nat) (a : Addr), m[l]? = some a → m'[l]? = some a
  tup : ∀ (a : Addr) (xs : List V), SqT K H a xs → SqT K H' a xs
  ext : ∀ (a : Addr) (φ : Heap → Prop), H a = some (.ext φ) → H' a = some (.ext φ)

section
variable {K : PySem.W.Frag} {m m1 m2 : Mp} {H H1 H2 : Hp}
theorem Ext.refl : Ext K m H m H := ⟨fun _ _ h => h, fun _ _ h => h, fun _ _ h => h⟩
theorem Ext.trans (a : Ext K m H m1 H1) (b : Ext K m1 H1 m2 H2) : Ext K m H m2 H2 :=
  ⟨fun l x h => b.pre l x (a.pre l x h), fun x xs h => b.tup x xs (a.tup x xs h), fun x φ h => b.ext x φ (a.ext x φ h)⟩

mutual
theorem RelW.mono (e : Ext K m H m1 H1) : ∀ (w : Wv) (v : V), RelW K m H w v → RelW K m1 H1 w v
  | .non, v, h => by unfold RelW at h ⊢; exact h
  | .bl b, v, h => by unfold RelW at h ⊢; exact h
  | .int i, v, h => by unfold RelW at h ⊢; exact h
  | .str x, v, h => by unfold RelW at h ⊢; exact h
  | .ty n, v, h => by unfold RelW at h ⊢; exact h
  | .cls c, v, h => by unfold RelW at h ⊢; exact h
  | .exn c, v, h => by
    unfold RelW at h ⊢
    obtain ⟨a, C, e1, e2, e3⟩ := h
    exact ⟨a, C, e1, e2, e.ext _ _ e3⟩
  | .ref l, v, h => by
    unfold RelW at h ⊢
    obtain ⟨a, e1, e2⟩ := h
    exact ⟨a, e1, e.pre _ _ e2⟩
  | .tup ws, v, h => by
    unfold RelW at h ⊢
    obtain ⟨a, xs, e1, e2, e3⟩ := h
    exact ⟨a, xs, e1, e.tup _ _ e2, RelWs.mono e ws xs e3⟩
theorem RelWs.mono (e : Ext K m H m1 H1) : ∀ (ws : List Wv) (xs : List V), RelWs K m H ws xs → RelWs K m1 H1 ws xs
  | [], xs, h => by unfold RelWs at h ⊢; exact h
  | w :: ws, xs, h => by
    unfold RelWs at h ⊢
    obtain ⟨x, r, e1, e2, e3⟩ := h
    exact ⟨x, r, e1, RelW.mono e w x e2, RelWs.mono e ws r e3⟩
end

theorem RelWs.nil : RelWs K m H [] [] := by unfold RelWs; rfl
theorem RelWs.cons {w : Wv} {x : V} {ws : List Wv} {xs : List V} (h : RelW K m H w x) (t : RelWs K m H ws xs) : RelWs K m H (w :: ws) (x :: xs) := by unfold RelWs; exact ⟨x, xs, rfl, h, t⟩
theorem RelWs.length : ∀ {ws : List Wv} {xs : List V}, RelWs K m H ws xs → ws.length = xs.length
  | [], xs, h => by unfold RelWs at h; subst h; rfl
  | w :: ws, xs, h => by
    unfold RelWs at h
    obtain ⟨x, r, e1, _, e3⟩ := h
    subst e1
    simp [RelWs.length e3]
theorem RelWs.get : ∀ {ws : List Wv} {xs : List V} {i : Nat} {w : Wv}, RelWs K m H ws xs → ws[i]? = some w → ∃ x, xs[i]? = some x ∧ RelW K m H w x
  | [], _, i, w, _, e => by simp at e
  | a :: ws, xs, 0, w, h, e => by
    unfold RelWs at h
    obtain ⟨x, r, e1, e2, _⟩ := h
    subst e1
    simp at e
    subst e
    exact ⟨x, rfl, e2⟩
  | a :: ws, xs, i + 1, w, h, e => by
    unfold RelWs at h
    obtain ⟨x, r, e1, _, e3⟩ := h
    subst e1
    obtain ⟨y, f1, f2⟩ := RelWs.get (i := i) (w := w) e3 (by simpa using e)
    exact ⟨y, by simpa using f1, f2⟩
theorem RelWs.append : ∀ {ws zs : List Wv} {xs ys : List V}, RelWs K m H ws xs → RelWs K m H zs ys → RelWs K m H (ws ++ zs) (xs ++ ys)
  | [], _, xs, _, h, g => by unfold RelWs at h; subst h; exact g
  | w :: ws, zs, xs, ys, h, g => by
    unfold RelWs at h
    obtain ⟨x, r, e1, e2, e3⟩ := h
    subst e1
    exact RelWs.cons e2 (RelWs.append e3 g)
theorem RelWs.set : ∀ {ws : List Wv} {xs : List V} (i : Nat) {w : Wv} {x : V}, RelWs K m H ws xs → RelW K m H w x → RelWs K m H (ws.set i w) (xs.set i x)
  | [], xs, i, w, x, h, _ => by unfold RelWs at h; subst h; exact RelWs.nil
  | a :: ws, xs, 0, w, x, h, g => by
    unfold RelWs at h
    obtain ⟨y, r, e1, e2, e3⟩ := h
    subst e1
    exact RelWs.cons g e3
  | a :: ws, xs, i + 1, w, x, h, g => by
    unfold RelWs at h
    obtain ⟨y, r, e1, e2, e3⟩ := h
    subst e1
    exact RelWs.cons e2 (RelWs.set i e3 g)
theorem RelWs.drop : ∀ {ws : List Wv} {xs : List V} (i : Nat), RelWs K m H ws xs → RelWs K m H (ws.drop i) (xs.drop i)
  | ws, xs, 0, h => by simpa using h
  | [], xs, i + 1, h => by unfold RelWs at h; subst h; simpa using RelWs.nil
  | a :: ws, xs, i + 1, h => by
    unfold RelWs at h
    obtain ⟨y, r, e1, e2, e3⟩ := h
    subst e1
    simpa using RelWs.drop i e3
theorem RelWs.take : ∀ {ws : List Wv} {xs : List V} (i : Nat), RelWs K m H ws xs → RelWs K m H (ws.take i) (xs.take i)
  | ws, xs, 0, h => by simpa using RelWs.nil
  | [], xs, i + 1, h => by unfold RelWs at h; subst h; simpa using RelWs.nil
  | a :: ws, xs, i + 1, h => by
    unfold RelWs at h
    obtain ⟨y, r, e1, e2, e3⟩ := h
    subst e1
    simpa using RelWs.cons e2 (RelWs.take i e3)
theorem RelWs.ints : ∀ (ns : List Int), RelWs K m H (ns.map Wv.int) (ns.map V.int)
  | [] => RelWs.nil
  | n :: ns => RelWs.cons (by unfold RelW; rfl) (RelWs.ints ns)
end

/-! ### the objects -/
def ScrOk (K : PySem.W.Frag) (H : Hp) (a : Addr) (ns : List Int) : Prop :=
  (∃ o, H a = some (.frz o (.lst (ns.map V.int)))) ∨
    ∃ (o : Obj) (its : Array Value) (n : Nat), K.lookup a = some o ∧ o.cls = .type "list" ∧ o.dict = none ∧ o.data = .seq its n ∧ its.size ≤ sizeLine ∧ Vals (ns.map V.int) its.toList
def ORel (K : PySem.W.Frag) (m : Mp) (H : Hp) (a : Addr) : Ob → Prop
  | .lst ws => ∃ xs, H a = some (.lst xs) ∧ RelWs K m H ws xs
  | .scr ns => ScrOk K H a ns
structure Sim (K : PySem.W.Frag) (m : Mp) (st : Hs) (H : Hp) : Prop where
  len : m.length = st.length
  obj : ∀ (l : Nat) (a : Addr) (o : Ob), m[l]? = some a → st[l]? = some o → ORel K m H a o
  inj : ∀ (l l' : Nat) (a : Addr) (ws ws' : List Wv), m[l]? = some a → m[l']? = some a → st[l]? = some (.lst ws) → st[l']? = some (.lst ws') → l = l'

/-- a list or the script, read -/
def lstOf (st : Hs) (l : Nat) : Option (List Wv) := match st[l]? with
  | some (.lst ws) => some ws
  | some (.scr ns) => some (ns.map Wv.int)
  | none => none

section
variable {K : PySem.W.Frag} {m : Mp} {H : Hp} {st : Hs}
theorem sqT_upd {p a : Addr} {o : HO} {xs : List V} (hp : H p = none ∨ ∃ ys, H p = some (.lst ys)) (h : SqT K H a xs) : SqT K (upd H p o) a xs := by
  have ne : ∀ u, H a = some u → (∀ ys, u ≠ .lst ys) → a ≠ p := fun u e n z => by
    subst z
    rcases hp with q | ⟨ys, q⟩
    · rw [q] at e; cases e
    · rw [q] at e; cases e; exact n ys rfl
  rcases h with (h | ⟨o', h⟩) | h
  · exact .inl (.inl (by rw [upd_ne (ne _ h (by intro ys z; cases z))]; exact h))
  · exact .inl (.inr ⟨o', by rw [upd_ne (ne _ h (by intro ys z; cases z))]; exact h⟩)
  · exact .inr h
theorem scr_upd {p a : Addr} {o : HO} {ns : List Int} (hp : H p = none ∨ ∃ ys, H p = some (.lst ys)) (h : ScrOk K H a ns) : ScrOk K (upd H p o) a ns := by
  rcases h with ⟨o', h⟩ | h
  · refine .inl ⟨o', ?_⟩
    rw [upd_ne ?_]
    · exact h
    · intro z
      subst z
      rcases hp with q | ⟨ys, q⟩
      · rw [q] at h; cases h
      · rw [q] at h; cases h
  · exact .inr h
theorem Ext.upd {p : Addr} {o : HO} (hp : H p = none ∨ ∃ ys, H p = some (.lst ys)) : Ext K m H m (upd H p o) := ⟨fun _ _ h => h, fun _ _ h => sqT_upd hp h, fun a φ h => by
  have ne : a ≠ p := fun z => by
    subst z
    rcases hp with q | ⟨ys, q⟩ <;> rw [q] at h <;> cases h
  rw [upd_ne ne]
  exact h⟩
theorem Ext.more {p : Addr} : Ext K m H (m ++ [p]) H := ⟨fun l a h => by
  rw [List.getElem?_append_left]
  · exact h
  · exact (List.getElem?_eq_some_iff.mp h).1, fun _ _ h => h, fun _ _ h => h⟩
/-- something new that no label names (a tuple) -/
theorem Sim.fresh {p : Addr} {o : HO} (S : Sim K m st H) (hp : H p = none) : Sim K m st (upd H p o) :=
  ⟨S.len, fun l a ob h1 h2 => by
    have q := S.obj l a ob h1 h2
    cases ob with
    | lst ws =>
      obtain ⟨xs, e1, e2⟩ := q
      refine ⟨xs, ?_, RelWs.mono (Ext.upd (.inl hp)) _ _ e2⟩
      rw [upd_ne (ne_of_none e1 hp)]
      exact e1
    | scr ns => exact scr_upd (.inl hp) q, S.inj⟩
theorem Sim.lstAt {l : Nat} {a : Addr} {ws : List Wv} (S : Sim K m st H) (h1 : m[l]? = some a) (h2 : st[l]? = some (.lst ws)) : ∃ xs, H a = some (.lst xs) ∧ RelWs K m H ws xs := S.obj l a _ h1 h2
theorem Sim.has {l : Nat} {o : Ob} (S : Sim K m st H) (h : st[l]? = some o) : ∃ a, m[l]? = some a := by
  have e : l < st.length := (List.getElem?_eq_some_iff.mp h).1
  have e' : l < m.length := by rw [S.len]; exact e
  exact ⟨m[l], List.getElem?_eq_getElem e'⟩
theorem Sim.lbl {l : Nat} {a : Addr} (S : Sim K m st H) (h : m[l]? = some a) : ∃ o, st[l]? = some o := by
  have e : l < m.length := (List.getElem?_eq_some_iff.mp h).1
  have e' : l < st.length := by rw [← S.len]; exact e
  exact ⟨st[l], List.getElem?_eq_getElem e'⟩
/-- a list that is read -/
theorem Sim.read {l : Nat} {a : Addr} {ws : List Wv} (S : Sim K m st H) (h1 : m[l]? = some a) (h2 : lstOf st l = some ws) : ∃ xs, SqL K H a xs ∧ RelWs K m H ws xs := by
  unfold lstOf at h2
  cases e : st[l]? with
  | none => rw [e] at h2; cases h2
  | some o =>
    rw [e] at h2
    cases o with
    | lst zs =>
      cases h2
      obtain ⟨xs, e1, e2⟩ := S.lstAt h1 e
      exact ⟨xs, SqL.of e1, e2⟩
    | scr ns =>
      cases h2
      have q : ScrOk K H a ns := S.obj l a _ h1 e
      refine ⟨ns.map V.int, ?_, RelWs.ints ns⟩
      rcases q with ⟨o, q⟩ | q
      · exact .inl (.inr ⟨o, q⟩)
      · exact .inr q
/-- a new list -/
theorem Sim.alloc {p : Addr} {ws : List Wv} {xs : List V} (S : Sim K m st H) (hp : H p = none) (r : RelWs K m H ws xs) : Sim K (m ++ [p]) (st ++ [.lst ws]) (upd H p (.lst xs)) := by
  have ex : Ext K m H (m ++ [p]) (L2.upd H p (.lst xs)) := Ext.more.trans (Ext.upd (.inl hp))
  have notold : ∀ (l : Nat) (zs : List Wv), m[l]? = some p → st[l]? = some (.lst zs) → False := fun l zs h1 h2 => by
    obtain ⟨ys, e1, _⟩ := S.lstAt h1 h2
    rw [hp] at e1; cases e1
  have old : ∀ (l : Nat) (a : Addr), (m ++ [p])[l]? = some a → (l < m.length ∧ m[l]? = some a) ∨ (l = m.length ∧ a = p) := fun l a h => by
    by_cases hl : l < m.length
    · exact .inl ⟨hl, by rw [List.getElem?_append_left hl] at h; exact h⟩
    · have h' := h
      rw [List.getElem?_append_right (by omega)] at h'
      have z := List.getElem?_eq_some_iff.mp h'
      have z1 : l - m.length < 1 := by simpa using z.1
      refine .inr ⟨by omega, ?_⟩
      have e0 : l - m.length = 0 := by omega
      rw [e0] at h'
      simpa using h'.symm
  have olds : ∀ (l : Nat) (o : Ob), l < m.length → (st ++ [Ob.lst ws])[l]? = some o → st[l]? = some o := fun l o hl h => by
    rw [List.getElem?_append_left (by rw [← S.len]; exact hl)] at h
    exact h
  refine ⟨by simp [S.len], fun l a o h1 h2 => ?_, fun l l' a zs zs' h1 h1' h2 h2' => ?_⟩
  · rcases old l a h1 with ⟨hl, h1⟩ | ⟨hl, rfl⟩
    · have q := S.obj l a o h1 (olds l o hl h2)
      cases o with
      | lst zs =>
        obtain ⟨ys, e1, e2⟩ := q
        refine ⟨ys, ?_, RelWs.mono ex _ _ e2⟩
        rw [upd_ne (ne_of_none e1 hp)]
        exact e1
      | scr ns => exact scr_upd (.inl hp) q
    · have e : o = .lst ws := by
        rw [hl, S.len, List.getElem?_append_right (Nat.le_refl _), Nat.sub_self] at h2
        simpa using h2.symm
      subst e
      exact ⟨xs, upd_same, RelWs.mono ex _ _ r⟩
  · rcases old l a h1 with ⟨hl, g1⟩ | ⟨hl, ea⟩
    · rcases old l' a h1' with ⟨hl', g1'⟩ | ⟨hl', ea'⟩
      · exact S.inj l l' a zs zs' g1 g1' (olds l _ hl h2) (olds l' _ hl' h2')
      · rw [ea'] at g1
        exact (notold l zs g1 (olds l _ hl h2)).elim
    · rcases old l' a h1' with ⟨hl', g1'⟩ | ⟨hl', _⟩
      · rw [ea] at g1'
        exact (notold l' zs' g1' (olds l' _ hl' h2')).elim
      · omega
/-- a list written -/
theorem Sim.write {l : Nat} {a : Addr} {ws zs : List Wv} {xs : List V} (S : Sim K m st H) (h1 : m[l]? = some a) (h2 : st[l]? = some (.lst ws)) (r : RelWs K m H zs xs) : Sim K m (st.set l (.lst zs)) (upd H a (.lst xs)) := by
  obtain ⟨ys, hy, _⟩ := S.lstAt h1 h2
  have ex : Ext K m H m (L2.upd H a (.lst xs)) := Ext.upd (.inr ⟨ys, hy⟩)
  have hl : l < st.length := (List.getElem?_eq_some_iff.mp h2).1
  have at' : ∀ (k : Nat) (o : Ob), (st.set l (.lst zs))[k]? = some o → (k = l ∧ o = .lst zs) ∨ (k ≠ l ∧ st[k]? = some o) := fun k o h => by
    by_cases e : l = k
    · subst e
      rw [List.getElem?_set_self hl] at h
      exact .inl ⟨rfl, (Option.some.inj h).symm⟩
    · rw [List.getElem?_set_ne e] at h
      exact .inr ⟨fun z => e z.symm, h⟩
  refine ⟨by simp [S.len], fun k b o g1 g2 => ?_, fun k k' b us us' g1 g1' g2 g2' => ?_⟩
  · rcases at' k o g2 with ⟨rfl, rfl⟩ | ⟨hk, g2⟩
    · rw [h1] at g1; cases g1
      exact ⟨xs, upd_same, RelWs.mono ex _ _ r⟩
    · have q := S.obj k b o g1 g2
      cases o with
      | lst us =>
        obtain ⟨vs, e1, e2⟩ := q
        have hb : b ≠ a := fun z => by
          subst z
          exact hk (S.inj k l b us ws g1 h1 g2 h2)
        refine ⟨vs, ?_, RelWs.mono ex _ _ e2⟩
        rw [upd_ne hb]
        exact e1
      | scr ns => exact scr_upd (.inr ⟨ys, hy⟩) q
  · have back : ∀ (k : Nat) (us : List Wv), (st.set l (.lst zs))[k]? = some (.lst us) → ∃ us', st[k]? = some (.lst us') := fun k us h => by
      rcases at' k _ h with ⟨rfl, _⟩ | ⟨_, h⟩
      · exact ⟨ws, h2⟩
      · exact ⟨us, h⟩
    obtain ⟨u1, e1⟩ := back k us g2
    obtain ⟨u2, e2⟩ := back k' us' g2'
    exact S.inj k k' b u1 u2 g1 g1' e1 e2
end

/-! ### names -/
structure RelEnv (K : PySem.W.Frag) (m : Mp) (H : Hp) (ρ : Rho) (σ : St) : Prop where
  len : ρ.length = σ.length
  get : ∀ (i : Nat) (w : Wv), ρ[i]? = some (some w) → ∃ v, σ[i]? = some (some v) ∧ RelW K m H w v
section
variable {K : PySem.W.Frag} {m m1 : Mp} {H H1 : Hp} {ρ : Rho} {σ : St}
theorem RelEnv.mono (R : RelEnv K m H ρ σ) (e : Ext K m H m1 H1) : RelEnv K m1 H1 ρ σ := ⟨R.len, fun i w h => let ⟨v, h1, h2⟩ := R.get i w h; ⟨v, h1, RelW.mono e _ _ h2⟩⟩
theorem RelEnv.set (R : RelEnv K m H ρ σ) (i : Nat) {w : Wv} {v : V} (h : RelW K m H w v) : RelEnv K m H (ρ.set i (some w)) (σ.set i (some v)) := by
  refine ⟨by simp [R.len], fun j u e => ?_⟩
  by_cases hj : i = j
  · subst hj
    have hi : i < ρ.length := by
      have := (List.getElem?_eq_some_iff.mp e).1
      simpa using this
    rw [List.getElem?_set_self hi] at e
    have e' : w = u := Option.some.inj (Option.some.inj e)
    subst e'
    exact ⟨v, by rw [List.getElem?_set_self (by rw [← R.len]; exact hi)], h⟩
  · rw [List.getElem?_set_ne hj] at e
    obtain ⟨x, h1, h2⟩ := R.get j u e
    exact ⟨x, by rw [List.getElem?_set_ne hj]; exact h1, h2⟩
end

/-! ### results -/
inductive Re (α : Type) where
  | ok (a : α) (st : Hs)
  | err (c : PySem.Str) (st : Hs)
  | bad
def Re.bind {α β : Type} (r : Re α) (f : α → Hs → Re β) : Re β := match r with
  | .ok a st => f a st
  | .err c st => .err c st
  | .bad => .bad
inductive Rs where
  | nx (ρ : Rho) (st : Hs)
  | rt (w : Wv) (st : Hs)
  | bk (ρ : Rho) (st : Hs)
  | ct (ρ : Rho) (st : Hs)
  | err (c : PySem.Str) (ρ : Rho) (st : Hs)
  | bad
def Re.thn {α : Type} (ρ : Rho) (r : Re α) (f : α → Hs → Rs) : Rs := match r with
  | .ok a st => f a st
  | .err c st => .err c ρ st
  | .bad => .bad
/-- what is not to raise -/
def Re.nox {α : Type} (r : Re α) : Re α := match r with
  | .ok a st => .ok a st
  | _ => .bad
abbrev GE := Rho → Hs → Re Wv
abbrev GT := Rho → Hs → Re Bool
abbrev GA := Rho → Hs → Re (List Wv)
abbrev GS := Rho → Hs → Rs

/-- an exception of a callee on its way: H at the call, H' where it was made -/
def Flown (P : Program) (w : World) (outer : List Env) (H : Hp) (s : Shared) (H' : Hp) (cls : Value) (e : Value) (s' : Shared) : Prop :=
  ∃ (a : Addr) (a0 : Value) (B : Heap), e = .ref a ∧ s'.os = s.os ∧ AllBare s'.gens ∧ Un (frs outer) [] H H' s.heap s'.heap ∧ HOk P w H' B ∧ Heap.FlyingW B outer a cls a0 s'.heap ∧
    (∀ b o, s.heap.get? b = some o → b ∉ frs outer → ∃ o', B.get? b = some o' ∧ (H b = none → o' = o))
/-- an exception within the frame: it came from a call, or it was made here -/
def Raised (X : Cx) (σ : St) (H' : Hp) (c : PySem.Str) (e : Value) (s' : Shared) : Prop :=
  ∃ (C : Addr) (pins : List (Addr × Obj)) (Hc : Hp) (sc : Shared), ClsAt X.K c C ∧ Inv X pins σ Hc sc ∧
    (Flown X.prog X.w X.stack Hc sc H' (.ref C) e s' ∨ (H' = Hc ∧ ∃ a args, e = .ref a ∧ s'.os = sc.os ∧ s'.gens = sc.gens ∧ Heap.MadeExcOf sc.heap s'.heap a (.ref C) args))
/-- what the context takes of an exception of the class c -/
def XOk (X : Cx) (σ : St) (m : Mp) (H : Hp) (c : PySem.Str) (st : Hs) : Prop :=
  ∀ (m' : Mp) (H' : Hp) (e : Value) (s' : Shared), Ext X.K m H m' H' → Sim X.K m' st H' → Raised X σ H' c e s' → X.xe e s'
theorem XOk.mono {X : Cx} {σ : St} {m m1 : Mp} {H H1 : Hp} {c : PySem.Str} {st : Hs} (h : XOk X σ m H c st) (e : Ext X.K m H m1 H1) : XOk X σ m1 H1 c st :=
  fun m' H' x s' e' S r => h m' H' x s' (e.trans e') S r

def PostG {α : Type} (X : Cx) (σ : St) (m : Mp) (H : Hp) (r : Re α) (ok : α → Hs → Prop) : Prop := match r with
  | .ok a st => ok a st
  | .err c st => XOk X σ m H c st
  | .bad => False
/-- .. of what does not raise -/
def PostN {α : Type} (r : Re α) (ok : α → Hs → Prop) : Prop := match r with
  | .ok a st => ok a st
  | _ => False
theorem PostG.nox {α : Type} {X : Cx} {σ : St} {m : Mp} {H : Hp} {r : Re α} {ok : α → Hs → Prop} (h : PostG X σ m H r.nox ok) : PostN r ok := by
  cases r with
  | ok a st => exact h
  | err c st => exact h
  | bad => exact h
theorem PostG.bind {α β : Type} {X : Cx} {σ : St} {m : Mp} {H : Hp} {r : Re α} {f : α → Hs → Re β} {ok : β → Hs → Prop} (h : PostG X σ m H (r.bind f) ok) : PostG X σ m H r (fun a st => PostG X σ m H (f a st) ok) := by
  cases r with
  | ok a st => exact h
  | err c st => exact h
  | bad => exact h
theorem PostG.imp {α : Type} {X : Cx} {σ : St} {m m1 : Mp} {H H1 : Hp} {r : Re α} {ok ok' : α → Hs → Prop} (h : PostG X σ m H r ok) (e : Ext X.K m H m1 H1) (k : ∀ a st, ok a st → ok' a st) : PostG X σ m1 H1 r ok' := by
  cases r with
  | ok a st => exact k a st h
  | err c st => exact XOk.mono (c := c) (st := st) h e
  | bad => exact h
theorem PostN.imp {α : Type} {r : Re α} {ok ok' : α → Hs → Prop} (h : PostN r ok) (k : ∀ a st, ok a st → ok' a st) : PostN r ok' := by
  cases r with
  | ok a st => exact k a st h
  | err c st => exact h
  | bad => exact h
def okE (K : PySem.W.Frag) (m : Mp) (H : Hp) (Q : VK) (w : Wv) (st : Hs) : Prop := ∀ (v : V) (m' : Mp) (H' : Hp), Ext K m H m' H' → Sim K m' st H' → RelW K m' H' w v → Q v H'
def okT (K : PySem.W.Frag) (m : Mp) (H : Hp) (Q : Bool → Hp → Prop) (b : Bool) (st : Hs) : Prop := ∀ (m' : Mp) (H' : Hp), Ext K m H m' H' → Sim K m' st H' → Q b H'
def okA (K : PySem.W.Frag) (m : Mp) (H : Hp) (Q : List V → Hp → Prop) (ws : List Wv) (st : Hs) : Prop := ∀ (vs : List V) (m' : Mp) (H' : Hp), Ext K m H m' H' → Sim K m' st H' → RelWs K m' H' ws vs → Q vs H'
abbrev PostE (X : Cx) (σ : St) (m : Mp) (H : Hp) (r : Re Wv) (Q : VK) : Prop := PostG X σ m H r (okE X.K m H Q)
abbrev PostT (X : Cx) (σ : St) (m : Mp) (H : Hp) (r : Re Bool) (Q : Bool → Hp → Prop) : Prop := PostG X σ m H r (okT X.K m H Q)
abbrev PostA (X : Cx) (σ : St) (m : Mp) (H : Hp) (r : Re (List Wv)) (Q : List V → Hp → Prop) : Prop := PostG X σ m H r (okA X.K m H Q)
theorem PostE.shift {X : Cx} {σ : St} {m m1 : Mp} {H H1 : Hp} {r : Re Wv} {Q : VK} (h : PostE X σ m H r Q) (e : Ext X.K m H m1 H1) : PostE X σ m1 H1 r Q := h.imp e fun _ _ k v m' H' e' => k v m' H' (e.trans e')
theorem PostT.shift {X : Cx} {σ : St} {m m1 : Mp} {H H1 : Hp} {r : Re Bool} {Q : Bool → Hp → Prop} (h : PostT X σ m H r Q) (e : Ext X.K m H m1 H1) : PostT X σ m1 H1 r Q := h.imp e fun _ _ k m' H' e' => k m' H' (e.trans e')
theorem PostA.shift {X : Cx} {σ : St} {m m1 : Mp} {H H1 : Hp} {r : Re (List Wv)} {Q : List V → Hp → Prop} (h : PostA X σ m H r Q) (e : Ext X.K m H m1 H1) : PostA X σ m1 H1 r Q := h.imp e fun _ _ k v m' H' e' => k v m' H' (e.trans e')
/-- of an operation: it does not raise -/
abbrev PostO (K : PySem.W.Frag) (m : Mp) (H : Hp) (r : Re Wv) (Q : VK) : Prop := PostN r (okE K m H Q)
theorem PostO.shift {K : PySem.W.Frag} {m m1 : Mp} {H H1 : Hp} {r : Re Wv} {Q : VK} (h : PostO K m H r Q) (e : Ext K m H m1 H1) : PostO K m1 H1 r Q := PostN.imp h fun _ _ k v m' H' e' => k v m' H' (e.trans e')
def PostS (X : Cx) (m : Mp) (H : Hp) (r : Rs) (D : Ends) : Prop := match r with
  | .nx ρ st => ∀ (σ : St) (m' : Mp) (H' : Hp), Ext X.K m H m' H' → Sim X.K m' st H' → RelEnv X.K m' H' ρ σ → D.nx σ H'
  | .rt w st => ∀ (v : V) (m' : Mp) (H' : Hp), Ext X.K m H m' H' → Sim X.K m' st H' → RelW X.K m' H' w v → D.rt v H'
  | .bk ρ st => ∀ (σ : St) (m' : Mp) (H' : Hp), Ext X.K m H m' H' → Sim X.K m' st H' → RelEnv X.K m' H' ρ σ → D.bk σ H'
  | .ct ρ st => ∀ (σ : St) (m' : Mp) (H' : Hp), Ext X.K m H m' H' → Sim X.K m' st H' → RelEnv X.K m' H' ρ σ → D.ct σ H'
  | .err c ρ st => ∀ (σ : St) (m' : Mp) (H' : Hp) (e : Value) (s' : Shared), Ext X.K m H m' H' → Sim X.K m' st H' → RelEnv X.K m' H' ρ σ → Raised X σ H' c e s' → X.xe e s'
  | .bad => False
theorem PostS.shift {X : Cx} {m m1 : Mp} {H H1 : Hp} {r : Rs} {D : Ends} (h : PostS X m H r D) (e : Ext X.K m H m1 H1) : PostS X m1 H1 r D := by
  cases r with
  | nx ρ st => exact fun σ m' H' e' => h σ m' H' (e.trans e')
  | rt w st => exact fun v m' H' e' => h v m' H' (e.trans e')
  | bk ρ st => exact fun σ m' H' e' => h σ m' H' (e.trans e')
  | ct ρ st => exact fun σ m' H' e' => h σ m' H' (e.trans e')
  | err c ρ st => exact fun σ m' H' x s' e' => h σ m' H' x s' (e.trans e')
  | bad => exact h
theorem PostS.of_thn {α : Type} {X : Cx} {m : Mp} {H : Hp} {ρ : Rho} {σ : St} {r : Re α} {f : α → Hs → Rs} {D : Ends} (R : RelEnv X.K m H ρ σ) (h : PostS X m H (r.thn ρ f) D) : PostG X σ m H r (fun a st => PostS X m H (f a st) D) := by
  cases r with
  | ok a st => exact h
  | err c st => exact fun m' H' x s' e' S r => h σ m' H' x s' e' S (R.mono e') r
  | bad => exact h

/-! ### the judgements -/
def SE (X : Cx) (e : Expr) : TE := fun σ H Q => ∀ (pins : List (Addr × Obj)) (s : Shared), Inv X pins σ H s → wpAny (model X.prog X.w) X.A (eval e X.env) (EP X pins σ Q) X.xe s
def ST (X : Cx) (e : Expr) : TT := fun σ H Q => ∀ (pins : List (Addr × Obj)) (s : Shared), Inv X pins σ H s → wpAny (model X.prog X.w) X.A (isTrue e X.env (eval e X.env)) (TP X pins σ Q) X.xe s
def SA (X : Cx) (es : List Expr) : TA := fun σ H Q => ∀ (pos : Pos) (pins : List (Addr × Obj)) (s : Shared), Inv X pins σ H s → wpAny (model X.prog X.w) X.A (spliced (backTo pos (starEach es X.env))) (AP X pins σ Q) X.xe s
def SS (X : Cx) (st : Stmt) : TS := fun D σ H => ∀ (pins : List (Addr × Obj)) (s : Shared), Inv X pins σ H s → wpAny (model X.prog X.w) X.A (exec st X.env) (SP X pins D) X.xe s
def SSs (X : Cx) (st : List Stmt) : TS := fun D σ H => ∀ (pins : List (Addr × Obj)) (s : Shared), Inv X pins σ H s → wpAny (model X.prog X.w) X.A (execs st X.env) (SP X pins D) X.xe s
section
variable {X : Cx}
theorem pe_SE {e : Expr} : PE X e (SE X e) := fun pins s _ _ _ I h => h pins s I
theorem pt_ST {e : Expr} : PT X e (ST X e) := fun pins s _ _ _ I h => h pins s I
theorem pa_SA {es : List Expr} : PA X es (SA X es) := fun pos pins s _ _ _ I h => h pos pins s I
theorem ps_SS {st : Stmt} : PS X st (SS X st) := fun pins s _ _ _ I h => h pins s I
theorem pss_SSs {st : List Stmt} : PSs X st (SSs X st) := fun pins s _ _ _ I h => h pins s I
end
def JE (X : Cx) (e : Expr) (g : GE) : Prop := ∀ (ρ : Rho) (st : Hs) (σ : St) (H : Hp) (m : Mp) (Q : VK), Sim X.K m st H → RelEnv X.K m H ρ σ → PostE X σ m H (g ρ st) Q → SE X e σ H Q
def JT (X : Cx) (e : Expr) (g : GT) : Prop := ∀ (ρ : Rho) (st : Hs) (σ : St) (H : Hp) (m : Mp) (Q : Bool → Hp → Prop), Sim X.K m st H → RelEnv X.K m H ρ σ → PostT X σ m H (g ρ st) Q → ST X e σ H Q
def JA (X : Cx) (es : List Expr) (g : GA) : Prop := ∀ (ρ : Rho) (st : Hs) (σ : St) (H : Hp) (m : Mp) (Q : List V → Hp → Prop), Sim X.K m st H → RelEnv X.K m H ρ σ → PostA X σ m H (g ρ st) Q → SA X es σ H Q
def JS (X : Cx) (s : Stmt) (g : GS) : Prop := ∀ (ρ : Rho) (st : Hs) (σ : St) (H : Hp) (m : Mp) (D : Ends), Sim X.K m st H → RelEnv X.K m H ρ σ → PostS X m H (g ρ st) D → SS X s D σ H
def JSs (X : Cx) (s : List Stmt) (g : GS) : Prop := ∀ (ρ : Rho) (st : Hs) (σ : St) (H : Hp) (m : Mp) (D : Ends), Sim X.K m st H → RelEnv X.K m H ρ σ → PostS X m H (g ρ st) D → SSs X s D σ H
section
variable {X : Cx}
theorem JE.of {e : Expr} {g : GE} {t : TE} (h : PE X e t) (k : ∀ (ρ : Rho) (st : Hs) (σ : St) (H : Hp) (m : Mp) (Q : VK), Sim X.K m st H → RelEnv X.K m H ρ σ → PostE X σ m H (g ρ st) Q → t σ H Q) : JE X e g :=
  fun ρ st σ H m Q S R p pins s I => h pins s σ H Q I (k ρ st σ H m Q S R p)
theorem JT.of {e : Expr} {g : GT} {t : TT} (h : PT X e t) (k : ∀ (ρ : Rho) (st : Hs) (σ : St) (H : Hp) (m : Mp) (Q : Bool → Hp → Prop), Sim X.K m st H → RelEnv X.K m H ρ σ → PostT X σ m H (g ρ st) Q → t σ H Q) : JT X e g :=
  fun ρ st σ H m Q S R p pins s I => h pins s σ H Q I (k ρ st σ H m Q S R p)
theorem JA.of {es : List Expr} {g : GA} {t : TA} (h : PA X es t) (k : ∀ (ρ : Rho) (st : Hs) (σ : St) (H : Hp) (m : Mp) (Q : List V → Hp → Prop), Sim X.K m st H → RelEnv X.K m H ρ σ → PostA X σ m H (g ρ st) Q → t σ H Q) : JA X es g :=
  fun ρ st σ H m Q S R p pos pins s I => h pos pins s σ H Q I (k ρ st σ H m Q S R p)
theorem JS.of {e : Stmt} {g : GS} {t : TS} (h : PS X e t) (k : ∀ (ρ : Rho) (st : Hs) (σ : St) (H : Hp) (m : Mp) (D : Ends), Sim X.K m st H → RelEnv X.K m H ρ σ → PostS X m H (g ρ st) D → t D σ H) : JS X e g :=
  fun ρ st σ H m D S R p pins s I => h pins s σ H D I (k ρ st σ H m D S R p)
theorem JSs.of {e : List Stmt} {g : GS} {t : TS} (h : PSs X e t) (k : ∀ (ρ : Rho) (st : Hs) (σ : St) (H : Hp) (m : Mp) (D : Ends), Sim X.K m st H → RelEnv X.K m H ρ σ → PostS X m H (g ρ st) D → t D σ H) : JSs X e g :=
  fun ρ st σ H m D S R p pins s I => h pins s σ H D I (k ρ st σ H m D S R p)

/-- run e, then go on: T at the value -/
theorem JE.go {e : Expr} {g : GE} {ρ : Rho} {st : Hs} {σ : St} {H : Hp} {m : Mp} {T : VK} {ok : Wv → Hs → Prop} (h : JE X e g) (S : Sim X.K m st H) (R : RelEnv X.K m H ρ σ) (p : PostG X σ m H (g ρ st) ok)
    (k : ∀ (w : Wv) (st1 : Hs) (v : V) (m1 : Mp) (H1 : Hp), ok w st1 → Ext X.K m H m1 H1 → Sim X.K m1 st1 H1 → RelW X.K m1 H1 w v → T v H1) : SE X e σ H T :=
  h ρ st σ H m T S R (p.imp Ext.refl fun w st1 q v m1 H1 e1 s1 r1 => k w st1 v m1 H1 q e1 s1 r1)
theorem JT.go {e : Expr} {g : GT} {ρ : Rho} {st : Hs} {σ : St} {H : Hp} {m : Mp} {T : Bool → Hp → Prop} {ok : Bool → Hs → Prop} (h : JT X e g) (S : Sim X.K m st H) (R : RelEnv X.K m H ρ σ) (p : PostG X σ m H (g ρ st) ok)
    (k : ∀ (b : Bool) (st1 : Hs) (m1 : Mp) (H1 : Hp), ok b st1 → Ext X.K m H m1 H1 → Sim X.K m1 st1 H1 → T b H1) : ST X e σ H T :=
  h ρ st σ H m T S R (p.imp Ext.refl fun b st1 q m1 H1 e1 s1 => k b st1 m1 H1 q e1 s1)
theorem JA.go {es : List Expr} {g : GA} {ρ : Rho} {st : Hs} {σ : St} {H : Hp} {m : Mp} {T : List V → Hp → Prop} {ok : List Wv → Hs → Prop} (h : JA X es g) (S : Sim X.K m st H) (R : RelEnv X.K m H ρ σ) (p : PostG X σ m H (g ρ st) ok)
    (k : ∀ (ws : List Wv) (st1 : Hs) (vs : List V) (m1 : Mp) (H1 : Hp), ok ws st1 → Ext X.K m H m1 H1 → Sim X.K m1 st1 H1 → RelWs X.K m1 H1 ws vs → T vs H1) : SA X es σ H T :=
  h ρ st σ H m T S R (p.imp Ext.refl fun w st1 q v m1 H1 e1 s1 r1 => k w st1 v m1 H1 q e1 s1 r1)
end
end J

set_option Elab.async false
set_option linter.all false
set_option maxRecDepth 100000
set_option maxHeartbeats 4000000
namespace J
open PySem PySem.Spec PyProof.Rows L2

def lim : Nat := 1000000
theorem lim_le {n : Nat} (h : n ≤ lim) : n ≤ sizeLine := Nat.le_trans h (by unfold lim; rw [sizeLine_eq]; decide)
theorem lim_lt {n : Nat} (h : n < lim) : n < sizeLine := Nat.lt_of_lt_of_le h (by unfold lim; rw [sizeLine_eq]; decide)

/-! ### names and constants -/
def gVar (i : Nat) : GE := fun ρ st => match ρ[i]? with
  | some (some w) => .ok w st
  | _ => .bad
def gC (w : Wv) : GE := fun _ st => .ok w st
section
variable {X : Cx}
theorem je_var (i : Nat) {x : Str} {pos : Pos} (hN : X.N[i]? = some x := by rfl) (hv : Vis X.env.scope x := by first | exact Or.inl rfl | exact Or.inr (Or.inl rfl) | exact Or.inr (Or.inr rfl)) (hd : (x == ("__debug__" : Str)) = false := by decide)
    (hcd : (x == ("__classdict__" : Str)) = false := by decide) : JE X (.Name x pos) (gVar i) := JE.of (pe_var hN hv hd hcd) fun ρ st σ H m Q S R p => by
  unfold gVar at p
  cases e : ρ[i]? with
  | none => rw [e] at p; exact False.elim p
  | some o =>
    cases o with
    | none => rw [e] at p; exact False.elim p
    | some w =>
      rw [e] at p
      obtain ⟨v, h1, h2⟩ := R.get i w e
      exact ⟨v, h1, p v m H Ext.refl S h2⟩
theorem je_int {i : Int} {j pos} : JE X (.Constant (.int i) j pos) (gC (.int i)) := JE.of pe_int fun ρ st σ H m Q S R p => p (.int i) m H Ext.refl S (by unfold RelW; rfl)
theorem je_bl {b : Bool} {j pos} : JE X (.Constant (.bool b) j pos) (gC (.bl b)) := JE.of pe_bl fun ρ st σ H m Q S R p => p (.bl b) m H Ext.refl S (by unfold RelW; rfl)
theorem je_non {j pos} : JE X (.Constant .none j pos) (gC .non) := JE.of pe_non fun ρ st σ H m Q S R p => p .non m H Ext.refl S (by unfold RelW; rfl)
theorem je_str {x : PySem.Str} {j pos} (hx : PyData.strOk x = true := by decide +kernel) : JE X (.Constant (.str x) j pos) (gC (.str x)) := JE.of pe_str fun ρ st σ H m Q S R p => p (.str x) m H Ext.refl S (by unfold RelW; exact ⟨rfl, hx⟩)
theorem je_globI {x : Str} {i : Int} {t : Tok} {pos : Pos} (hg : Gl X x) (hm : X.mg x = some (.int i t)) (hd : (x == ("__debug__" : Str)) = false := by decide) : JE X (.Name x pos) (gC (.int i)) :=
  JE.of (pe_glob (v := .int i) hg hm ⟨t, rfl⟩ hd) fun ρ st σ H m Q S R p => p (.int i) m H Ext.refl S (by unfold RelW; rfl)
theorem je_globS {x y : Str} {t : Tok} {pos : Pos} (hg : Gl X x) (hm : X.mg x = some (.str y t)) (hy : PyData.strOk y = true := by decide +kernel) (hd : (x == ("__debug__" : Str)) = false := by decide) : JE X (.Name x pos) (gC (.str y)) :=
  JE.of (pe_glob (v := .str y) hg hm ⟨t, rfl⟩ hd) fun ρ st σ H m Q S R p => p (.str y) m H Ext.refl S (by unfold RelW; exact ⟨rfl, hy⟩)
theorem je_ty {x : Str} {T : String} {pos : Pos} (hg : Gl X x) (hm : X.mg x = none) (hv : bootBuiltins x = some (.type T)) (hn : x ≠ "__name__" := by decide) (hd : (x == ("__debug__" : Str)) = false := by decide) : JE X (.Name x pos) (gC (.ty T)) :=
  JE.of (pe_bltn (v := .ty T) hg hm hv rfl hn hd) fun ρ st σ H m Q S R p => p (.ty T) m H Ext.refl S (by unfold RelW; rfl)

/-! ### two-place operations -/
abbrev Op2 := Wv → Wv → Hs → Re Wv
def gBin (op : Op2) (ga gb : GE) : GE := fun ρ st => (ga ρ st).bind fun x st1 => (gb ρ st1).bind fun y st2 => (op x y st2).nox
def ReadW (X : Cx) (op : Op2) (r : R2) : Prop := ∀ (x y : Wv) (a b : V) (st : Hs) (H : Hp) (m : Mp) (Q : VK), Sim X.K m st H → RelW X.K m H x a → RelW X.K m H y b → PostO X.K m H (op x y st) Q → r a b H Q
def OpW (X : Cx) (f : Value → Value → Sem Value) (op : Op2) : Prop := ∃ r, OpR X f r ∧ ReadW X op r
/-- the reading of two expressions and an operation -/
theorem read2 {a b : Expr} {ga gb : GE} {op : Op2} {r : R2} (h2 : ReadW X op r) (ha : JE X a ga) (hb : JE X b gb) {ρ : Rho} {st : Hs} {σ : St} {H : Hp} {m : Mp} {Q : VK} (S : Sim X.K m st H) (R : RelEnv X.K m H ρ σ) (p : PostE X σ m H (gBin op ga gb ρ st) Q) :
    tOp r (SE X a) (SE X b) σ H Q := by
  refine ha.go S R (PostG.bind p) fun x st1 v m1 H1 p1 e1 S1 rx => ?_
  refine hb.go S1 (R.mono e1) ((PostG.bind p1).imp e1 fun _ _ q => q) fun y st2 u m2 H2 p2 e2 S2 ry => ?_
  exact h2 x y v u st2 H2 m2 Q S2 (RelW.mono e2 _ _ rx) ry (PostO.shift (PostG.nox p2) (e1.trans e2))
theorem je_bin {a b : Expr} {ga gb : GE} {o : Operator} {op : Op2} {pos : Pos} (ho : OpW X (binaryOp o) op) (ha : JE X a ga) (hb : JE X b gb) : JE X (.BinOp a o b pos) (gBin op ga gb) := by
  obtain ⟨r, h1, h2⟩ := ho
  exact JE.of (pe_op h1 pe_SE pe_SE) fun ρ st σ H m Q S R p => read2 h2 ha hb S R p
theorem je_cmp {a b : Expr} {ga gb : GE} {o : CmpOp} {op : Op2} {pos : Pos} (ho : OpW X (compareOp o) op) (ha : JE X a ga) (hb : JE X b gb) (hm : behindInMarks o b = false) : JE X (.Compare a [o] [b] pos) (gBin op ga gb) := by
  obtain ⟨r, h1, h2⟩ := ho
  exact JE.of (pe_cmpR h1 pe_SE pe_SE hm) fun ρ st σ H m Q S R p => read2 h2 ha hb S R p
/-- a bool as a test -/
def tst (w : Wv) (st : Hs) : Re Bool := match w with
  | .bl b => .ok b st
  | _ => .bad
def gTst (g : GE) : GT := fun ρ st => (g ρ st).bind tst
theorem post_tst {σ : St} {m : Mp} {H : Hp} {r : Re Wv} {Q : Bool → Hp → Prop} (p : PostT X σ m H (r.bind tst) Q) : PostE X σ m H r (fun x H' => ∃ k, x = .bl k ∧ Q k H') := by
  cases r with
  | ok w st =>
    cases w with
    | bl b =>
      intro v m' H' e S rw'
      unfold RelW at rw'
      exact ⟨b, rw', p m' H' e S⟩
    | _ => exact False.elim p
  | err c st => exact p
  | bad => exact p
theorem jt_cmp {a b : Expr} {ga gb : GE} {o : CmpOp} {op : Op2} {pos : Pos} (ho : OpW X (compareOp o) op) (ha : JE X a ga) (hb : JE X b gb) (hm : behindInMarks o b = false) : JT X (.Compare a [o] [b] pos) (gTst (gBin op ga gb)) := by
  obtain ⟨r, h1, h2⟩ := ho
  exact JT.of (pt_cmpR h1 pe_SE pe_SE hm) fun ρ st σ H m Q S R p => read2 h2 ha hb S R (post_tst p)
theorem jt_val {e : Expr} {g : GE} (h : JE X e g) (he : ∀ whole, isTrue e X.env whole = (do let v ← whole; standAt e.pos; holding [v] (truthy v)) := by intro _; rfl) : JT X e (gTst g) :=
  JT.of (pt_val pe_SE he) fun ρ st σ H m Q S R p => h ρ st σ H m _ S R (post_tst p)
/-- a op1 b op2 c -/
def gChain (op op' : Op2) (ga gb gc : GE) : GE := fun ρ st => (ga ρ st).bind fun x st1 => (gb ρ st1).bind fun y st2 => (op x y st2).nox.bind fun z st3 => match z with
  | .bl true => (gc ρ st3).bind fun u st4 => (op' y u st4).nox
  | .bl false => .ok (.bl false) st3
  | _ => .bad
theorem readC {a b c : Expr} {ga gb gc : GE} {op op' : Op2} {r r' : R2} (h2 : ReadW X op r) (h2' : ReadW X op' r') (ha : JE X a ga) (hb : JE X b gb) (hc : JE X c gc) {ρ : Rho} {st : Hs} {σ : St} {H : Hp} {m : Mp} {Q : VK}
    (S : Sim X.K m st H) (R : RelEnv X.K m H ρ σ) (p : PostE X σ m H (gChain op op' ga gb gc ρ st) Q) : tChain r r' (SE X a) (SE X b) (SE X c) σ H Q := by
  refine ha.go S R (PostG.bind p) fun x st1 v m1 H1 p1 e1 S1 rx => ?_
  refine hb.go S1 (R.mono e1) ((PostG.bind p1).imp e1 fun _ _ q => q) fun y st2 u m2 H2 p2 e2 S2 ry => ?_
  refine h2 x y v u st2 H2 m2 _ S2 (RelW.mono e2 _ _ rx) ry (PostN.imp (PostG.nox (PostG.bind p2)) fun z st3 p3 => ?_)
  intro z' m3 H3 e3 S3 rz
  cases z with
  | bl k =>
    unfold RelW at rz
    refine ⟨k, rz, ?_⟩
    cases k with
    | true =>
      rw [if_pos rfl]
      refine hc.go S3 (R.mono (e1.trans (e2.trans e3))) ((PostG.bind p3).imp (e1.trans (e2.trans e3)) fun _ _ q => q) fun q st4 u' m4 H4 p4 e4 S4 rq => ?_
      exact h2' y q u u' st4 H4 m4 Q S4 (RelW.mono (e3.trans e4) _ _ ry) rq (PostO.shift (PostG.nox p4) (e1.trans (e2.trans (e3.trans e4))))
    | false =>
      rw [if_neg Bool.false_ne_true]
      exact p3 (.bl false) m3 H3 (e1.trans (e2.trans e3)) S3 (by unfold RelW; rfl)
  | _ => exact False.elim p3
theorem je_chain {a b c : Expr} {ga gb gc : GE} {o o' : CmpOp} {op op' : Op2} {pos : Pos} (ho : OpW X (compareOp o) op) (ho' : OpW X (compareOp o') op') (ha : JE X a ga) (hb : JE X b gb) (hc : JE X c gc)
    (hm : lastMarks [o, o'] [b, c] = false := by with_unfolding_all rfl) : JE X (.Compare a [o, o'] [b, c] pos) (gChain op op' ga gb gc) := by
  obtain ⟨r, h1, h2⟩ := ho
  obtain ⟨r', h1', h2'⟩ := ho'
  exact JE.of (pe_chain h1 h1' pe_SE pe_SE pe_SE hm) fun ρ st σ H m Q S R p => readC h2 h2' ha hb hc S R p
theorem jt_chain {a b c : Expr} {ga gb gc : GE} {o o' : CmpOp} {op op' : Op2} {pos : Pos} (ho : OpW X (compareOp o) op) (ho' : OpW X (compareOp o') op') (ha : JE X a ga) (hb : JE X b gb) (hc : JE X c gc)
    (hm : lastMarks [o, o'] [b, c] = false := by with_unfolding_all rfl) : JT X (.Compare a [o, o'] [b, c] pos) (gTst (gChain op op' ga gb gc)) := by
  obtain ⟨r, h1, h2⟩ := ho
  obtain ⟨r', h1', h2'⟩ := ho'
  exact JT.of (pt_chain h1 h1' pe_SE pe_SE pe_SE hm) fun ρ st σ H m Q S R p => readC h2 h2' ha hb hc S R (post_tst p)

/-! ### one-place operations -/
def gUn (op : Wv → Hs → Re Wv) (ga : GE) : GE := fun ρ st => (ga ρ st).bind op
def opNeg : Wv → Hs → Re Wv
  | .int i, st => .ok (.int (-i)) st
  | _, _ => .bad
theorem je_neg {a : Expr} {ga : GE} {pos : Pos} (ha : JE X a ga) : JE X (.UnaryOp .USub a pos) (gUn opNeg ga) := by
  refine JE.of (pe_un un_neg pe_SE) fun ρ st σ H m Q S R p => ?_
  refine ha.go S R (PostG.bind p) fun x st1 v m1 H1 p1 e1 S1 rx => ?_
  cases x with
  | int i =>
    unfold RelW at rx
    exact ⟨i, rx, p1 _ m1 H1 e1 S1 (by unfold RelW; rfl)⟩
  | _ => exact False.elim p1

/-! ### and, or, not, if else -/
def SW (X : Cx) (e : Expr) : TT := fun σ H Q => ∀ (wh : Sem Value) (pins : List (Addr × Obj)) (s : Shared), Inv X pins σ H s → wpAny (model X.prog X.w) X.A (isTrue e X.env wh) (TP X pins σ Q) X.xe s
theorem pw_SW {e : Expr} : PW X e (SW X e) := fun wh pins s _ _ _ I h => h wh pins s I
def JW (X : Cx) (e : Expr) (g : GT) : Prop := ∀ (ρ : Rho) (st : Hs) (σ : St) (H : Hp) (m : Mp) (Q : Bool → Hp → Prop), Sim X.K m st H → RelEnv X.K m H ρ σ → PostT X σ m H (g ρ st) Q → SW X e σ H Q
theorem JW.of {e : Expr} {g : GT} {t : TT} (h : PW X e t) (k : ∀ (ρ : Rho) (st : Hs) (σ : St) (H : Hp) (m : Mp) (Q : Bool → Hp → Prop), Sim X.K m st H → RelEnv X.K m H ρ σ → PostT X σ m H (g ρ st) Q → t σ H Q) : JW X e g :=
  fun ρ st σ H m Q S R p wh pins s I => h wh pins s σ H Q I (k ρ st σ H m Q S R p)
theorem JW.jt {e : Expr} {g : GT} (h : JW X e g) : JT X e g := fun ρ st σ H m Q S R p pins s I => h ρ st σ H m Q S R p _ pins s I
def gAnd (ga gb : GT) : GT := fun ρ st => (ga ρ st).bind fun b st1 => if b = true then gb ρ st1 else .ok false st1
def gOr (ga gb : GT) : GT := fun ρ st => (ga ρ st).bind fun b st1 => if b = true then .ok true st1 else gb ρ st1
def gNot (ga : GT) : GT := fun ρ st => (ga ρ st).bind fun b st1 => .ok (!b) st1
theorem jw_and1 {a : Expr} {ga : GT} {pos : Pos} (ha : JT X a ga) : JW X (.BoolOp .And [a] pos) ga := JW.of (pw_and1 pt_ST) fun ρ st σ H m Q S R p => ha ρ st σ H m Q S R p
theorem jw_or1 {a : Expr} {ga : GT} {pos : Pos} (ha : JT X a ga) : JW X (.BoolOp .Or [a] pos) ga := JW.of (pw_or1 pt_ST) fun ρ st σ H m Q S R p => ha ρ st σ H m Q S R p
theorem jw_and {a b : Expr} {rest : List Expr} {ga gb : GT} {pos : Pos} (ha : JT X a ga) (hb : JW X (.BoolOp .And (b :: rest) pos) gb) : JW X (.BoolOp .And (a :: b :: rest) pos) (gAnd ga gb) := by
  refine JW.of (pw_and pt_ST pw_SW) fun ρ st σ H m Q S R p => ?_
  refine ha.go S R (PostG.bind p) fun c st1 m1 H1 p1 e1 S1 => ?_
  cases c with
  | true => rw [if_pos rfl] at p1 ⊢; exact hb ρ st1 σ H1 m1 Q S1 (R.mono e1) (PostT.shift p1 e1)
  | false => rw [if_neg Bool.false_ne_true] at p1 ⊢; exact p1 m1 H1 e1 S1
theorem jw_or {a b : Expr} {rest : List Expr} {ga gb : GT} {pos : Pos} (ha : JT X a ga) (hb : JW X (.BoolOp .Or (b :: rest) pos) gb) : JW X (.BoolOp .Or (a :: b :: rest) pos) (gOr ga gb) := by
  refine JW.of (pw_or pt_ST pw_SW) fun ρ st σ H m Q S R p => ?_
  refine ha.go S R (PostG.bind p) fun c st1 m1 H1 p1 e1 S1 => ?_
  cases c with
  | true => rw [if_pos rfl] at p1 ⊢; exact p1 m1 H1 e1 S1
  | false => rw [if_neg Bool.false_ne_true] at p1 ⊢; exact hb ρ st1 σ H1 m1 Q S1 (R.mono e1) (PostT.shift p1 e1)
theorem jt_not {a : Expr} {ga : GT} {pos : Pos} (ha : JT X a ga) : JT X (.UnaryOp .Not a pos) (gNot ga) := by
  refine JT.of (pt_not pt_ST) fun ρ st σ H m Q S R p => ?_
  exact ha.go S R (PostG.bind p) fun c st1 m1 H1 p1 e1 S1 => p1 m1 H1 e1 S1
/-- .. as values: bools -/
def gAndV (ga gb : GE) : GE := fun ρ st => (ga ρ st).bind fun w st1 => match w with
  | .bl true => gb ρ st1
  | .bl false => .ok (.bl false) st1
  | _ => .bad
def gOrV (ga gb : GE) : GE := fun ρ st => (ga ρ st).bind fun w st1 => match w with
  | .bl true => .ok (.bl true) st1
  | .bl false => gb ρ st1
  | _ => .bad
def gNotV (ga : GE) : GE := fun ρ st => (ga ρ st).bind fun w st1 => match w with
  | .bl b => .ok (.bl (!b)) st1
  | _ => .bad
theorem je_one {op} {a : Expr} {ga : GE} {pos : Pos} (ha : JE X a ga) : JE X (.BoolOp op [a] pos) ga := JE.of (pe_one pe_SE) fun ρ st σ H m Q S R p => ha ρ st σ H m Q S R p
theorem je_and {a b : Expr} {rest : List Expr} {ga gb : GE} {pos : Pos} (ha : JE X a ga) (hb : JE X (.BoolOp .And (b :: rest) pos) gb) : JE X (.BoolOp .And (a :: b :: rest) pos) (gAndV ga gb) := by
  refine JE.of (pe_and pe_SE pe_SE) fun ρ st σ H m Q S R p => ?_
  refine ha.go S R (PostG.bind p) fun x st1 v m1 H1 p1 e1 S1 rx => ?_
  cases x with
  | bl c =>
    unfold RelW at rx
    refine ⟨c, rx, ?_⟩
    cases c with
    | true => rw [if_pos rfl]; exact hb ρ st1 σ H1 m1 Q S1 (R.mono e1) (PostE.shift p1 e1)
    | false => rw [if_neg Bool.false_ne_true]; exact p1 _ m1 H1 e1 S1 (by unfold RelW; rfl)
  | _ => exact False.elim p1
theorem je_or {a b : Expr} {rest : List Expr} {ga gb : GE} {pos : Pos} (ha : JE X a ga) (hb : JE X (.BoolOp .Or (b :: rest) pos) gb) : JE X (.BoolOp .Or (a :: b :: rest) pos) (gOrV ga gb) := by
  refine JE.of (pe_or pe_SE pe_SE) fun ρ st σ H m Q S R p => ?_
  refine ha.go S R (PostG.bind p) fun x st1 v m1 H1 p1 e1 S1 rx => ?_
  cases x with
  | bl c =>
    unfold RelW at rx
    refine ⟨c, rx, ?_⟩
    cases c with
    | true => rw [if_pos rfl]; exact p1 _ m1 H1 e1 S1 (by unfold RelW; rfl)
    | false => rw [if_neg Bool.false_ne_true]; exact hb ρ st1 σ H1 m1 Q S1 (R.mono e1) (PostE.shift p1 e1)
  | _ => exact False.elim p1
theorem je_not {a : Expr} {ga : GE} {pos : Pos} (ha : JE X a ga) : JE X (.UnaryOp .Not a pos) (gNotV ga) := by
  refine JE.of (pe_not pe_SE) fun ρ st σ H m Q S R p => ?_
  refine ha.go S R (PostG.bind p) fun x st1 v m1 H1 p1 e1 S1 rx => ?_
  cases x with
  | bl c =>
    unfold RelW at rx
    exact ⟨c, rx, p1 _ m1 H1 e1 S1 (by unfold RelW; rfl)⟩
  | _ => exact False.elim p1
def gIfE (gt : GT) (ga gb : GE) : GE := fun ρ st => (gt ρ st).bind fun b st1 => if b = true then ga ρ st1 else gb ρ st1
theorem je_if {c a b : Expr} {gt : GT} {ga gb : GE} {pos : Pos} (hc : JT X c gt) (ha : JE X a ga) (hb : JE X b gb) : JE X (.IfExp c a b pos) (gIfE gt ga gb) := by
  refine JE.of (pe_ifExp pt_ST pe_SE pe_SE) fun ρ st σ H m Q S R p => ?_
  refine hc.go S R (PostG.bind p) fun k st1 m1 H1 p1 e1 S1 => ?_
  cases k with
  | true => rw [if_pos rfl] at p1 ⊢; exact ha ρ st1 σ H1 m1 Q S1 (R.mono e1) (PostE.shift p1 e1)
  | false => rw [if_neg Bool.false_ne_true] at p1 ⊢; exact hb ρ st1 σ H1 m1 Q S1 (R.mono e1) (PostE.shift p1 e1)

/-! ### argument lists, displays -/
def gNil : GA := fun _ st => .ok [] st
def gCons (ga : GE) (gr : GA) : GA := fun ρ st => (ga ρ st).bind fun x st1 => (gr ρ st1).bind fun xs st2 => .ok (x :: xs) st2
theorem ja_nil : JA X [] gNil := JA.of pa_nil fun ρ st σ H m Q S R p => p [] m H Ext.refl S RelWs.nil
theorem ja_cons {e : Expr} {es : List Expr} {ga : GE} {gr : GA} (ha : JE X e ga) (hr : JA X es gr) (hs : starEach (e :: es) X.env = (false, eval e X.env) :: starEach es X.env := by rfl) : JA X (e :: es) (gCons ga gr) := by
  refine JA.of (pa_cons pe_SE pa_SA hs) fun ρ st σ H m Q S R p => ?_
  refine ha.go S R (PostG.bind p) fun x st1 v m1 H1 p1 e1 S1 rx => ?_
  refine hr.go S1 (R.mono e1) ((PostG.bind p1).imp e1 fun _ _ q => q) fun xs st2 vs m2 H2 p2 e2 S2 rs => ?_
  exact p2 (v :: vs) m2 H2 (e1.trans e2) S2 (RelWs.cons (RelW.mono e2 _ _ rx) rs)
def gTup (g : GA) : GE := fun ρ st => (g ρ st).bind fun ws st1 => if ws.length ≤ lim then .ok (.tup ws) st1 else .bad
def gLst (g : GA) : GE := fun ρ st => (g ρ st).bind fun ws st1 => if ws.length ≤ lim then .ok (.ref st1.length) (st1 ++ [.lst ws]) else .bad
theorem je_tup {es : List Expr} {g : GA} {x1 pos} (h : JA X es g) : JE X (.Tuple es x1 pos) (gTup g) := by
  refine JE.of (pe_tup pa_SA) fun ρ st σ H m Q S R p => ?_
  refine h.go S R (PostG.bind p) fun ws st1 vs m1 H1 p1 e1 S1 rs => ?_
  by_cases hl : ws.length ≤ lim
  · rw [if_pos hl] at p1
    refine ⟨by rw [← rs.length]; exact lim_le hl, fun q hq => ?_⟩
    have e2 : Ext X.K m1 H1 m1 (upd H1 q (.tup vs)) := Ext.upd (.inl hq)
    exact p1 (.ref q) m1 _ (e1.trans e2) (S1.fresh hq) (by unfold RelW; exact ⟨q, vs, rfl, SqT.of upd_same, RelWs.mono e2 _ _ rs⟩)
  · rw [if_neg hl] at p1; exact False.elim p1
theorem Sim.newest {K : PySem.W.Frag} {m : Mp} {st : Hs} {H : Hp} (S : Sim K m st H) (q : Addr) (H' : Hp) : RelW K (m ++ [q]) H' (.ref st.length) (.ref q) := by
  unfold RelW
  refine ⟨q, rfl, ?_⟩
  rw [← S.len, List.getElem?_append_right (Nat.le_refl _), Nat.sub_self]
  rfl
/-- a new list's end -/
theorem new_list {m m1 : Mp} {H H1 : Hp} {st1 : Hs} {ws : List Wv} {vs : List V} {Q : VK} (p1 : okE X.K m H Q (.ref st1.length) (st1 ++ [.lst ws])) (e1 : Ext X.K m H m1 H1) (S1 : Sim X.K m1 st1 H1) (rs : RelWs X.K m1 H1 ws vs) (q : Addr) (hq : H1 q = none) :
    Q (.ref q) (upd H1 q (.lst vs)) :=
  p1 (.ref q) (m1 ++ [q]) _ (e1.trans (Ext.more.trans (Ext.upd (.inl hq)))) (S1.alloc hq rs) (S1.newest q _)
theorem je_lst {es : List Expr} {g : GA} {pos} (h : JA X es g) : JE X (.List es pos) (gLst g) := by
  refine JE.of (pe_lst pa_SA) fun ρ st σ H m Q S R p => ?_
  refine h.go S R (PostG.bind p) fun ws st1 vs m1 H1 p1 e1 S1 rs => ?_
  by_cases hl : ws.length ≤ lim
  · rw [if_pos hl] at p1
    exact ⟨by rw [← rs.length]; exact lim_le hl, fun q hq => new_list p1 e1 S1 rs q hq⟩
  · rw [if_neg hl] at p1; exact False.elim p1
end
end J

set_option Elab.async false
set_option linter.all false
set_option maxRecDepth 100000
set_option maxHeartbeats 4000000
namespace J
open PySem PySem.Spec PyProof.Rows L2

section
variable {X : Cx}
theorem OpR.or {f : Value → Value → Sem Value} {r r' : R2} (h : OpR X f r) (h' : OpR X f r') : OpR X f (fun x y H Q => r x y H Q ∨ r' x y H Q) := by
  intro pins s σ H x y v u Q I rx ry q
  rcases q with q | q
  · exact h pins s σ H x y v u Q I rx ry q
  · exact h' pins s σ H x y v u Q I rx ry q

/-! ### ints -/
theorem op_fdivG : OpR X (binaryOp .FloorDiv) (rI (fun _ j => j ≠ 0 ∧ j.natAbs.log2 < 9000) fun i j => .int (i.fdiv j)) := opI fun i j _ _ _ _ _ hc q => floordiv_int hc.1 q (.inl (PyProof.noPylong_of_log2 hc.2))
theorem op_modG : OpR X (binaryOp .Mod) (rI (fun _ j => j ≠ 0) fun i j => .int (i.fmod j)) := opI fun i j _ _ _ _ _ hc q => mod_int' hc q
theorem op_mulG : OpR X (binaryOp .Mult) (rI (fun i j => IntMulOk i j) fun i j => .int (i * j)) := opI fun _ _ _ _ _ _ _ hc q => mul_int q hc
instance mulDec {a b : Int} : Decidable (IntMulOk a b) := by unfold IntMulOk; infer_instance

def oSub : Op2
  | .int i, .int j, st => .ok (.int (i - j)) st
  | _, _, _ => .bad
def oFdiv : Op2
  | .int i, .int j, st => if j ≠ 0 ∧ j.natAbs.log2 < 9000 then .ok (.int (i.fdiv j)) st else .bad
  | _, _, _ => .bad
def oMod : Op2
  | .int i, .int j, st => if j ≠ 0 then .ok (.int (i.fmod j)) st else .bad
  | _, _, _ => .bad
def oPow : Op2
  | .int i, .int j, st => if 0 ≤ j ∧ j ≤ 1000000 ∧ i.natAbs < 2 ^ 64 then .ok (.int (i ^ j.toNat)) st else .bad
  | _, _, _ => .bad
def oLt : Op2
  | .int i, .int j, st => .ok (.bl (decide (i < j))) st
  | .str i, .str j, st => .ok (.bl (decide (i.cps.toList < j.cps.toList))) st
  | _, _, _ => .bad
def oLe : Op2
  | .int i, .int j, st => .ok (.bl (decide (i ≤ j))) st
  | _, _, _ => .bad
def oGt : Op2
  | .int i, .int j, st => .ok (.bl (decide (j < i))) st
  | _, _, _ => .bad
def oGe : Op2
  | .int i, .int j, st => .ok (.bl (decide (j ≤ i))) st
  | _, _, _ => .bad
theorem relInt {m : Mp} {H : Hp} {i : Int} {a : V} (h : RelW X.K m H (.int i) a) : a = .int i := by unfold RelW at h; exact h
theorem relBl {m : Mp} {H : Hp} {b : Bool} {a : V} (h : RelW X.K m H (.bl b) a) : a = .bl b := by unfold RelW at h; exact h
theorem relStr {m : Mp} {H : Hp} {x : PySem.Str} {a : V} (h : RelW X.K m H (.str x) a) : a = .str x ∧ PyData.strOk x = true := by unfold RelW at h; exact h
theorem mkInt {m : Mp} {H : Hp} {i : Int} : RelW X.K m H (.int i) (.int i) := by unfold RelW; rfl
theorem mkBl {m : Mp} {H : Hp} {i : Bool} : RelW X.K m H (.bl i) (.bl i) := by unfold RelW; rfl
theorem mkNon {m : Mp} {H : Hp} : RelW X.K m H .non .non := by unfold RelW; rfl
theorem mkStr {m : Mp} {H : Hp} {x : PySem.Str} (h : PyData.strOk x = true) : RelW X.K m H (.str x) (.str x) := by unfold RelW; exact ⟨rfl, h⟩

theorem ow_sub : OpW X (binaryOp .Sub) oSub := ⟨_, op_sub, fun x y a b st H m Q S rx ry p => by
  cases x with
  | int i =>
    cases y with
    | int j => exact ⟨i, j, relInt rx, relInt ry, p _ m H Ext.refl S mkInt⟩
    | _ => exact False.elim p
  | _ => cases y <;> exact False.elim p⟩
theorem ow_fdiv : OpW X (binaryOp .FloorDiv) oFdiv := ⟨_, op_fdivG, fun x y a b st H m Q S rx ry p => by
  cases x with
  | int i =>
    cases y with
    | int j =>
      dsimp only [oFdiv] at p
      by_cases c : j ≠ 0 ∧ j.natAbs.log2 < 9000
      · rw [if_pos c] at p; exact ⟨i, j, relInt rx, relInt ry, c, p _ m H Ext.refl S mkInt⟩
      · rw [if_neg c] at p; exact False.elim p
    | _ => exact False.elim p
  | _ => cases y <;> exact False.elim p⟩
theorem ow_mod : OpW X (binaryOp .Mod) oMod := ⟨_, op_modG, fun x y a b st H m Q S rx ry p => by
  cases x with
  | int i =>
    cases y with
    | int j =>
      dsimp only [oMod] at p
      by_cases c : j ≠ 0
      · rw [if_pos c] at p; exact ⟨i, j, relInt rx, relInt ry, c, p _ m H Ext.refl S mkInt⟩
      · rw [if_neg c] at p; exact False.elim p
    | _ => exact False.elim p
  | _ => cases y <;> exact False.elim p⟩
theorem ow_pow : OpW X (binaryOp .Pow) oPow := ⟨_, op_pow, fun x y a b st H m Q S rx ry p => by
  cases x with
  | int i =>
    cases y with
    | int j =>
      dsimp only [oPow] at p
      by_cases c : 0 ≤ j ∧ j ≤ 1000000 ∧ i.natAbs < 2 ^ 64
      · rw [if_pos c] at p; exact ⟨i, j, relInt rx, relInt ry, c, p _ m H Ext.refl S mkInt⟩
      · rw [if_neg c] at p; exact False.elim p
    | _ => exact False.elim p
  | _ => cases y <;> exact False.elim p⟩
theorem ow_lt : OpW X (compareOp .Lt) oLt := ⟨_, OpR.or op_lt op_lt_str, fun x y a b st H m Q S rx ry p => by
  cases x with
  | int i =>
    cases y with
    | int j => exact .inl ⟨i, j, relInt rx, relInt ry, p _ m H Ext.refl S mkBl⟩
    | _ => exact False.elim p
  | str i =>
    cases y with
    | str j => exact .inr ⟨i, j, (relStr rx).1, (relStr ry).1, p _ m H Ext.refl S mkBl⟩
    | _ => exact False.elim p
  | _ => cases y <;> exact False.elim p⟩
theorem ow_le : OpW X (compareOp .LtE) oLe := ⟨_, op_le, fun x y a b st H m Q S rx ry p => by
  cases x with
  | int i =>
    cases y with
    | int j => exact ⟨i, j, relInt rx, relInt ry, p _ m H Ext.refl S mkBl⟩
    | _ => exact False.elim p
  | _ => cases y <;> exact False.elim p⟩
theorem ow_gt : OpW X (compareOp .Gt) oGt := ⟨_, op_gt, fun x y a b st H m Q S rx ry p => by
  cases x with
  | int i =>
    cases y with
    | int j => exact ⟨i, j, relInt rx, relInt ry, p _ m H Ext.refl S mkBl⟩
    | _ => exact False.elim p
  | _ => cases y <;> exact False.elim p⟩
theorem ow_ge : OpW X (compareOp .GtE) oGe := ⟨_, op_ge, fun x y a b st H m Q S rx ry p => by
  cases x with
  | int i =>
    cases y with
    | int j => exact ⟨i, j, relInt rx, relInt ry, p _ m H Ext.refl S mkBl⟩
    | _ => exact False.elim p
  | _ => cases y <;> exact False.elim p⟩
/-- is None, is not None -/
def oIs : Op2
  | x, .non, st => .ok (.bl (match x with | .non => true | _ => false)) st
  | _, _, _ => .bad
def oIsNot : Op2
  | x, .non, st => .ok (.bl (match x with | .non => false | _ => true)) st
  | _, _, _ => .bad
theorem isNon {m : Mp} {H : Hp} {x : Wv} {a : V} (h : RelW X.K m H x a) : decide (a = V.non) = (match x with | .non => true | _ => false) := by
  cases x with
  | non => unfold RelW at h; subst h; rfl
  | bl b => unfold RelW at h; subst h; rfl
  | int b => unfold RelW at h; subst h; rfl
  | str b => unfold RelW at h; obtain ⟨h, _⟩ := h; subst h; rfl
  | tup b => unfold RelW at h; obtain ⟨q, xs, h, _⟩ := h; subst h; rfl
  | ref b => unfold RelW at h; obtain ⟨q, h, _⟩ := h; subst h; rfl
  | ty b => unfold RelW at h; subst h; rfl
  | cls b => unfold RelW at h; obtain ⟨q, h, _⟩ := h; subst h; rfl
  | exn b => unfold RelW at h; obtain ⟨q, C, h, _⟩ := h; subst h; rfl
theorem ow_is : OpW X (compareOp .Is) oIs := ⟨_, op_isN, fun x y a b st H m Q S rx ry p => by
  cases y with
  | non =>
    refine ⟨by unfold RelW at ry; exact ry, ?_⟩
    rw [isNon rx]
    cases x <;> exact p _ m H Ext.refl S mkBl
  | _ => cases x <;> exact False.elim p⟩
theorem ow_isnot : OpW X (compareOp .IsNot) oIsNot := ⟨_, op_notN, fun x y a b st H m Q S rx ry p => by
  cases y with
  | non =>
    refine ⟨by unfold RelW at ry; exact ry, ?_⟩
    rw [isNon rx]
    cases x <;> exact p _ m H Ext.refl S mkBl
  | _ => cases x <;> exact False.elim p⟩

/-! ### texts -/
theorem strOk_append {a b : PySem.Str} (ha : PyData.strOk a = true) (hb : PyData.strOk b = true) : PyData.strOk (a ++ b) = true := by
  unfold PyData.strOk at *
  show ((a.cps ++ b.cps).all _) = true
  rw [Array.all_append, ha, hb]
  rfl

/-! ### + -/
/-- lists that are read, put together -/
def rCatL (K : PySem.W.Frag) : R2 := fun x y H Q => ∃ l b xs zs, x = .ref l ∧ y = .ref b ∧ SqL K H l xs ∧ SqL K H b zs ∧ xs.length + zs.length ≤ sizeLine ∧ ∀ p, H p = none → Q (.ref p) (upd H p (.lst (xs ++ zs)))
theorem op_catL : OpR X (binaryOp .Add) (rCatL X.K) := by
  intro pins s σ H x y v u Q I rx ry h
  obtain ⟨l, b, xs, zs, rfl, rfl, hH, hB, hz, q⟩ := h
  cases rx
  cases ry
  obtain ⟨its, r, pl, hs⟩ := I.list hH
  obtain ⟨its2, r2, pl2, hs2⟩ := I.list hB
  have hl := r.length
  have hl2 := r2.length
  obtain ⟨⟨cls, dd, data, sl⟩, ho, hc, n, hd⟩ := id pl.isList
  obtain ⟨⟨cls2, dd2, data2, sl2⟩, ho2, hc2, n2, hd2⟩ := id pl2.isList
  simp only at hc hd hc2 hd2
  subst hc hd hc2 hd2
  have e : its.toArray ++ its2.toArray = (its ++ its2).toArray := by simp
  refine PySem.concat_meets ⟨_, ho, rfl⟩ ⟨_, ho2, rfl⟩ PySem.noFill_list_add PySem.seq_list_add PySem.F.slot_list_add PySem.F.entry_list_add (PySem.F.args_list_add_2 _ _) (list_addW l b its.toArray its2.toArray n n2 dd dd2 sl sl2 (by simp; omega)) ⟨ho, ho2, ?_⟩
  rw [e]
  exact ⟨.ref _, _, I.lnew (t' := s.toks) (r.append r2) (by rw [List.length_append]; omega), rfl, q _ I.fresh⟩
def oAdd : Op2
  | .int i, .int j, st => .ok (.int (i + j)) st
  | .str i, .str j, st => if i.length + j.length ≤ lim then .ok (.str (i ++ j)) st else .bad
  | .tup i, .tup j, st => if i ≠ [] ∧ j ≠ [] ∧ i.length + j.length ≤ lim then .ok (.tup (i ++ j)) st else .bad
  | .ref l, .ref k, st => match lstOf st l, lstOf st k with
    | some i, some j => if i.length + j.length ≤ lim then .ok (.ref st.length) (st ++ [.lst (i ++ j)]) else .bad
    | _, _ => .bad
  | _, _, _ => .bad
instance {α : Type} {xs : List α} : Decidable (xs ≠ []) := match xs with
  | [] => isFalse (fun h => h rfl)
  | _ :: _ => isTrue (fun h => by cases h)
theorem ow_add : OpW X (binaryOp .Add) oAdd := ⟨_, OpR.or op_add (OpR.or op_add_str (OpR.or op_catT op_catL)), fun x y a b st H m Q S rx ry p => by
  cases x with
  | int i =>
    cases y with
    | int j => exact .inl ⟨i, j, relInt rx, relInt ry, p _ m H Ext.refl S mkInt⟩
    | _ => exact False.elim p
  | str i =>
    cases y with
    | str j =>
      dsimp only [oAdd] at p
      by_cases c : i.length + j.length ≤ lim
      · rw [if_pos c] at p
        exact .inr (.inl ⟨i, j, (relStr rx).1, (relStr ry).1, lim_le c, p _ m H Ext.refl S (mkStr (strOk_append (relStr rx).2 (relStr ry).2))⟩)
      · rw [if_neg c] at p; exact False.elim p
    | _ => exact False.elim p
  | tup i =>
    cases y with
    | tup j =>
      dsimp only [oAdd] at p
      by_cases c : i ≠ [] ∧ j ≠ [] ∧ i.length + j.length ≤ lim
      · rw [if_pos c] at p
        unfold RelW at rx ry
        obtain ⟨a1, xs, rfl, h1, h2⟩ := rx
        obtain ⟨a2, ys, rfl, h3, h4⟩ := ry
        have l1 := h2.length
        have l2 := h4.length
        have n1 : xs ≠ [] := fun z => by rw [z] at l1; exact c.1 (List.eq_nil_of_length_eq_zero l1)
        have n2 : ys ≠ [] := fun z => by rw [z] at l2; exact c.2.1 (List.eq_nil_of_length_eq_zero l2)
        refine .inr (.inr (.inl ⟨a1, a2, xs, ys, rfl, rfl, h1, h3, n1, by rw [← l1, ← l2]; exact lim_le c.2.2, fun z => absurd z n2, fun _ q hq => ?_⟩))
        have e2 : Ext X.K m H m (upd H q (.tup (xs ++ ys))) := Ext.upd (.inl hq)
        exact p (.ref q) m _ e2 (S.fresh hq) (by unfold RelW; exact ⟨q, xs ++ ys, rfl, SqT.of upd_same, RelWs.mono e2 _ _ (h2.append h4)⟩)
      · rw [if_neg c] at p; exact False.elim p
    | _ => exact False.elim p
  | ref l =>
    cases y with
    | ref k =>
      dsimp only [oAdd] at p
      unfold RelW at rx ry
      obtain ⟨a1, rfl, h1⟩ := rx
      obtain ⟨a2, rfl, h2⟩ := ry
      cases e1 : lstOf st l with
      | none => rw [e1] at p; exact False.elim p
      | some i =>
        cases e2 : lstOf st k with
        | none => rw [e1, e2] at p; exact False.elim p
        | some j =>
          rw [e1, e2] at p
          by_cases c : i.length + j.length ≤ lim
          · simp only [if_pos c] at p
            obtain ⟨xs, q1, q2⟩ := S.read h1 e1
            obtain ⟨ys, q3, q4⟩ := S.read h2 e2
            exact .inr (.inr (.inr ⟨a1, a2, xs, ys, rfl, rfl, q1, q3, by rw [← q2.length, ← q4.length]; exact lim_le c, fun q hq => new_list p Ext.refl S (q2.append q4) q hq⟩))
          · simp only [if_neg c] at p; exact False.elim p
    | _ => exact False.elim p
  | _ => cases y <;> exact False.elim p⟩

/-! ### * -/
def repS (n : Nat) (x : PySem.Str) : PySem.Str := ⟨(List.replicate n x.cps).foldl (· ++ ·) #[]⟩
def oMul : Op2
  | .int i, .int j, st => if IntMulOk i j then .ok (.int (i * j)) st else .bad
  | _, _, _ => .bad
theorem ow_mul : OpW X (binaryOp .Mult) oMul := ⟨_, op_mulG, fun x y a b st H m Q S rx ry p => by
  cases x with
  | int i =>
    cases y with
    | int j =>
      dsimp only [oMul] at p
      by_cases c : IntMulOk i j
      · rw [if_pos c] at p; exact ⟨i, j, relInt rx, relInt ry, c, p _ m H Ext.refl S mkInt⟩
      · rw [if_neg c] at p; exact False.elim p
    | _ => exact False.elim p
  | _ => cases y <;> exact False.elim p⟩
end
end J

set_option Elab.async false
set_option linter.all false
set_option maxRecDepth 100000
set_option maxHeartbeats 4000000
namespace J
open PySem PySem.Spec PySem.SeqAt PyProof.Rows L2

/-! ### == and != by data -/
def mapO {α β : Type} (f : α → Option β) : List α → Option (List β)
  | [] => some []
  | w :: ws => match f w, mapO f ws with
    | some d, some ds => some (d :: ds)
    | _, _ => none
def datum (st : Hs) : Nat → Wv → Option PyData
  | 0, w => match w with
    | .non => some .none
    | .bl b => some (.bool b)
    | .int i => some (.int i)
    | .str x => some (.str x)
    | _ => none
  | n + 1, w => match w with
    | .non => some .none
    | .bl b => some (.bool b)
    | .int i => some (.int i)
    | .str x => some (.str x)
    | .tup ws => (mapO (datum st n) ws).map .tuple
    | .ref l => match lstOf st l with
      | some ws => (mapO (datum st n) ws).map .list
      | none => none
    | .ty _ => none
    | .cls _ => none
    | .exn _ => none
section
variable {X : Cx} {pins : List (Addr × Obj)} {σ : St} {H : Hp} {s : Shared} {m : Mp} {st : Hs}
def DatOk (h : Heap) (n : Nat) (u : Value) (d : PyData) : Prop := ∃ as, Reads h u d as ∧ d.canLay0 = true ∧ d.depth ≤ n
theorem datums_ok {n : Nat} (ih : ∀ (w : Wv) (a : V) (u : Value) (d : PyData), RelW X.K m H w a → RelV a u → datum st n w = some d → DatOk s.heap n u d) :
    ∀ (ws : List Wv) (xs : List V) (us : List Value) (ds : List PyData), RelWs X.K m H ws xs → Vals xs us → mapO (datum st n) ws = some ds → ∃ as, ReadsAll s.heap us ds as ∧ PyData.canLayAll0 ds = true ∧ PyData.depthAll ds ≤ n
  | [], xs, us, ds, h, r, e => by
    unfold RelWs at h
    subst h
    cases r
    cases e
    exact ⟨[], .nil, rfl, Nat.zero_le _⟩
  | w :: ws, xs, us, ds, h, r, e => by
    unfold RelWs at h
    obtain ⟨x, xr, rfl, h1, h2⟩ := h
    cases r with
    | cons r1 r2 =>
      unfold mapO at e
      cases e1 : datum st n w with
      | none => rw [e1] at e; cases e
      | some d =>
        cases e2 : mapO (datum st n) ws with
        | none => rw [e1, e2] at e; cases e
        | some dr =>
          rw [e1, e2] at e
          cases e
          obtain ⟨as, q1, q2, q3⟩ := ih w x _ d h1 r1 e1
          obtain ⟨bs, p1, p2, p3⟩ := datums_ok ih ws xr _ dr h2 r2 e2
          refine ⟨as ++ bs, .cons q1 p1, ?_, ?_⟩
          · show (PyData.canLay0 d && PyData.canLayAll0 dr) = true
            rw [q2, p2]; rfl
          · show max d.depth (PyData.depthAll dr) ≤ n
            omega
theorem datum_ok (I : Inv X pins σ H s) (S : Sim X.K m st H) : ∀ (n : Nat) (w : Wv) (a : V) (u : Value) (d : PyData), RelW X.K m H w a → RelV a u → datum st n w = some d → DatOk s.heap n u d := by
  intro n
  induction n with
  | zero =>
    intro w a u d h r e
    cases w with
    | non => unfold RelW at h; subst h; cases r; cases e; exact ⟨[], .none, rfl, Nat.le_refl _⟩
    | bl b => unfold RelW at h; subst h; cases r; cases e; exact ⟨[], .bool b, rfl, Nat.le_refl _⟩
    | int i => unfold RelW at h; subst h; obtain ⟨t, rfl⟩ := r; cases e; exact ⟨[], .int i t, rfl, Nat.le_refl _⟩
    | str x => unfold RelW at h; obtain ⟨rfl, hx⟩ := h; obtain ⟨t, rfl⟩ := r; cases e; exact ⟨[], .str x t, hx, Nat.le_refl _⟩
    | tup ws => cases e
    | ref l => cases e
    | ty t => cases e
    | cls t => cases e
    | exn t => cases e
  | succ n ih =>
    intro w a u d h r e
    cases w with
    | non => unfold RelW at h; subst h; cases r; cases e; exact ⟨[], .none, rfl, Nat.zero_le _⟩
    | bl b => unfold RelW at h; subst h; cases r; cases e; exact ⟨[], .bool b, rfl, Nat.zero_le _⟩
    | int i => unfold RelW at h; subst h; obtain ⟨t, rfl⟩ := r; cases e; exact ⟨[], .int i t, rfl, Nat.zero_le _⟩
    | str x => unfold RelW at h; obtain ⟨rfl, hx⟩ := h; obtain ⟨t, rfl⟩ := r; cases e; exact ⟨[], .str x t, hx, Nat.zero_le _⟩
    | ty t => cases e
    | cls t => cases e
    | exn t => cases e
    | tup ws =>
      unfold RelW at h
      obtain ⟨p, xs, rfl, h1, h2⟩ := h
      cases r
      have e' : (mapO (datum st n) ws).map PyData.tuple = some d := e
      cases e2 : mapO (datum st n) ws with
      | none => rw [e2] at e'; cases e'
      | some ds =>
        rw [e2] at e'
        cases e'
        obtain ⟨its, rv, ht, hz⟩ := I.tuple h1
        obtain ⟨as, q1, q2, q3⟩ := datums_ok ih ws xs its ds h2 rv e2
        obtain ⟨o, ho, hc, k, hd⟩ := ht
        exact ⟨as, .tuple ho hc hd (by simpa using q1), q2, Nat.succ_le_succ q3⟩
    | ref l =>
      unfold RelW at h
      obtain ⟨p, rfl, h1⟩ := h
      cases r
      have e' : (match lstOf st l with | some ws => (mapO (datum st n) ws).map PyData.list | none => none) = some d := e
      cases e1 : lstOf st l with
      | none => rw [e1] at e'; cases e'
      | some ws =>
        rw [e1] at e'
        have e'' : (mapO (datum st n) ws).map PyData.list = some d := e'
        cases e2 : mapO (datum st n) ws with
        | none => rw [e2] at e''; cases e''
        | some ds =>
          rw [e2] at e''
          cases e''
          obtain ⟨xs, hq, h2⟩ := S.read h1 e1
          obtain ⟨its, rv, ht, hz⟩ := I.list hq
          obtain ⟨as, q1, q2, q3⟩ := datums_ok ih ws xs its ds h2 rv e2
          obtain ⟨o, ho, hc, k, hd⟩ := ht.isList
          exact ⟨_, .list ho hc hd (by simpa using q1), q2, Nat.succ_le_succ q3⟩
end
def oEq : Op2 := fun x y st => match datum st 20 x, datum st 20 y with
  | some a, some b => .ok (.bl (PyData.eqv a b)) st
  | _, _ => .bad
def oNe : Op2 := fun x y st => match datum st 20 x, datum st 20 y with
  | some a, some b => .ok (.bl (!PyData.eqv a b)) st
  | _, _ => .bad
section
variable {X : Cx}
def rDat (K : PySem.W.Frag) (neg : Bool) : R2 := fun a b H Q => ∃ m st x y da db, Sim K m st H ∧ RelW K m H x a ∧ RelW K m H y b ∧ datum st 20 x = some da ∧ datum st 20 y = some db ∧ Q (.bl (if neg then !PyData.eqv da db else PyData.eqv da db)) H
theorem shaped_of {n : Nat} {d : PyData} (hn : n ≤ 64) (h : d.canLay0 = true) (k : d.depth ≤ n) : shaped d = true := by
  unfold shaped
  rw [h, decide_eq_true (Nat.le_trans k hn)]
  rfl
theorem op_eqD (hu : X.A.units + 64 < cLine) : OpR X (compareOp .Eq) (rDat X.K false) := by
  intro pins s σ H a b v u Q I rx ry h
  obtain ⟨m, st, x, y, da, db, S, h1, h2, e1, e2, q⟩ := h
  obtain ⟨as, q1, q2, q3⟩ := datum_ok I S 20 x a v da h1 rx e1
  obtain ⟨bs, p1, p2, p3⟩ := datum_ok I S 20 y b u db h2 ry e2
  exact eq_dataH q1 p1 (shaped_of (by decide) q2 q3) (shaped_of (by decide) p2 p3) hu ⟨.bl _, H, I, rfl, q⟩
theorem op_neD (hu : X.A.units + 64 < cLine) : OpR X (compareOp .NotEq) (rDat X.K true) := by
  intro pins s σ H a b v u Q I rx ry h
  obtain ⟨m, st, x, y, da, db, S, h1, h2, e1, e2, q⟩ := h
  obtain ⟨as, q1, q2, q3⟩ := datum_ok I S 20 x a v da h1 rx e1
  obtain ⟨bs, p1, p2, p3⟩ := datum_ok I S 20 y b u db h2 ry e2
  exact ne_dataH q1 p1 (shaped_of (by decide) q2 q3) (shaped_of (by decide) p2 p3) hu ⟨.bl _, H, I, rfl, q⟩
theorem ow_eq (hu : X.A.units + 64 < cLine) : OpW X (compareOp .Eq) oEq := ⟨_, op_eqD hu, fun x y a b st H m Q S rx ry p => by
  unfold oEq at p
  cases e1 : datum st 20 x with
  | none => rw [e1] at p; exact False.elim p
  | some da =>
    cases e2 : datum st 20 y with
    | none => rw [e1, e2] at p; exact False.elim p
    | some db =>
      rw [e1, e2] at p
      exact ⟨m, st, x, y, da, db, S, rx, ry, e1, e2, p _ m H Ext.refl S mkBl⟩⟩
theorem ow_ne (hu : X.A.units + 64 < cLine) : OpW X (compareOp .NotEq) oNe := ⟨_, op_neD hu, fun x y a b st H m Q S rx ry p => by
  unfold oNe at p
  cases e1 : datum st 20 x with
  | none => rw [e1] at p; exact False.elim p
  | some da =>
    cases e2 : datum st 20 y with
    | none => rw [e1, e2] at p; exact False.elim p
    | some db =>
      rw [e1, e2] at p
      exact ⟨m, st, x, y, da, db, S, rx, ry, e1, e2, p _ m H Ext.refl S mkBl⟩⟩

/-! ### in a tuple or list of flat items -/
def flatW : Wv → Bool
  | .non => true
  | .bl _ => true
  | .int _ => true
  | .str _ => true
  | _ => false
def eqF : Wv → Wv → Bool
  | .non, .non => true
  | .bl a, .bl b => a == b
  | .bl a, .int b => (if a then 1 else 0) == b
  | .int a, .bl b => a == (if b then 1 else 0)
  | .int a, .int b => a == b
  | .str a, .str b => a == b
  | _, _ => false
def seqOf (st : Hs) : Wv → Option (List Wv)
  | .tup ws => some ws
  | .ref l => lstOf st l
  | _ => none
def oIn : Op2 := fun x y st => match seqOf st y with
  | some ws => if flatW x = true ∧ ws.all flatW = true then .ok (.bl (ws.any fun z => eqF z x)) st else .bad
  | none => .bad
def oNotIn : Op2 := fun x y st => match seqOf st y with
  | some ws => if flatW x = true ∧ ws.all flatW = true then .ok (.bl (!(ws.any fun z => eqF z x))) st else .bad
  | none => .bad
theorem flat_rel {m : Mp} {H : Hp} {x : Wv} {a : V} (h : RelW X.K m H x a) (f : flatW x = true) : flatV a = true := by
  cases x with
  | non => unfold RelW at h; subst h; rfl
  | bl b => unfold RelW at h; subst h; rfl
  | int b => unfold RelW at h; subst h; rfl
  | str b => unfold RelW at h; obtain ⟨h, _⟩ := h; subst h; rfl
  | _ => cases f
theorem eqF_rel {m : Mp} {H : Hp} {x y : Wv} {a b : V} (h : RelW X.K m H x a) (k : RelW X.K m H y b) (f : flatW x = true) (g : flatW y = true) : eqV a b = eqF x y := by
  cases x with
  | non =>
    unfold RelW at h; subst h
    cases y with
    | str j => unfold RelW at k; obtain ⟨k, _⟩ := k; subst k; rfl
    | tup j => cases g
    | ref j => cases g
    | ty j => cases g
    | cls j => cases g
    | exn j => cases g
    | _ => unfold RelW at k; subst k; rfl
  | bl i =>
    unfold RelW at h; subst h
    cases y with
    | str j => unfold RelW at k; obtain ⟨k, _⟩ := k; subst k; rfl
    | tup j => cases g
    | ref j => cases g
    | ty j => cases g
    | cls j => cases g
    | exn j => cases g
    | _ => unfold RelW at k; subst k; rfl
  | int i =>
    unfold RelW at h; subst h
    cases y with
    | str j => unfold RelW at k; obtain ⟨k, _⟩ := k; subst k; rfl
    | tup j => cases g
    | ref j => cases g
    | ty j => cases g
    | cls j => cases g
    | exn j => cases g
    | _ => unfold RelW at k; subst k; rfl
  | str i =>
    unfold RelW at h; obtain ⟨h, _⟩ := h; subst h
    cases y with
    | str j => unfold RelW at k; obtain ⟨k, _⟩ := k; subst k; rfl
    | tup j => cases g
    | ref j => cases g
    | ty j => cases g
    | cls j => cases g
    | exn j => cases g
    | _ => unfold RelW at k; subst k; rfl
  | _ => cases f
theorem flats_rel {m : Mp} {H : Hp} {x : Wv} {a : V} (h : RelW X.K m H x a) (f : flatW x = true) : ∀ {ws : List Wv} {xs : List V}, RelWs X.K m H ws xs → ws.all flatW = true → xs.all flatV = true ∧ inV a xs = ws.any fun z => eqF z x
  | [], xs, r, _ => by unfold RelWs at r; subst r; exact ⟨rfl, rfl⟩
  | w :: ws, xs, r, g => by
    unfold RelWs at r
    obtain ⟨y, yr, rfl, r1, r2⟩ := r
    rw [List.all_cons, Bool.and_eq_true] at g
    obtain ⟨q1, q2⟩ := flats_rel h f r2 g.2
    constructor
    · rw [List.all_cons, flat_rel r1 g.1, q1]; rfl
    · unfold inV at q2 ⊢
      rw [List.any_cons, List.any_cons, eqF_rel r1 h g.1 f, q2]
theorem seq_rel {m : Mp} {H : Hp} {st : Hs} {y : Wv} {b : V} {ws : List Wv} (S : Sim X.K m st H) (h : RelW X.K m H y b) (e : seqOf st y = some ws) : ∃ p xs, b = .ref p ∧ (SqL X.K H p xs ∨ SqT X.K H p xs) ∧ RelWs X.K m H ws xs := by
  cases y with
  | tup zs =>
    cases e
    unfold RelW at h
    obtain ⟨p, xs, e1, e2, e3⟩ := h
    exact ⟨p, xs, e1, .inr e2, e3⟩
  | ref l =>
    unfold RelW at h
    obtain ⟨p, e1, e2⟩ := h
    obtain ⟨xs, q1, q2⟩ := S.read e2 e
    exact ⟨p, xs, e1, .inl q1, q2⟩
  | _ => cases e
theorem ow_in : OpW X (compareOp .In) oIn := ⟨_, op_in_seq, fun x y a b st H m Q S rx ry p => by
  unfold oIn at p
  cases e : seqOf st y with
  | none => rw [e] at p; exact False.elim p
  | some ws =>
    rw [e] at p
    by_cases c : flatW x = true ∧ ws.all flatW = true
    · simp only [if_pos c] at p
      obtain ⟨q, xs, e1, e2, e3⟩ := seq_rel S ry e
      obtain ⟨f1, f2⟩ := flats_rel rx c.1 e3 c.2
      refine ⟨q, xs, e1, e2, flat_rel rx c.1, f1, ?_⟩
      rw [f2]
      exact p _ m H Ext.refl S mkBl
    · simp only [if_neg c] at p; exact False.elim p⟩
theorem ow_notIn : OpW X (compareOp .NotIn) oNotIn := ⟨_, op_notIn_seq, fun x y a b st H m Q S rx ry p => by
  unfold oNotIn at p
  cases e : seqOf st y with
  | none => rw [e] at p; exact False.elim p
  | some ws =>
    rw [e] at p
    by_cases c : flatW x = true ∧ ws.all flatW = true
    · simp only [if_pos c] at p
      obtain ⟨q, xs, e1, e2, e3⟩ := seq_rel S ry e
      obtain ⟨f1, f2⟩ := flats_rel rx c.1 e3 c.2
      refine ⟨q, xs, e1, e2, flat_rel rx c.1, f1, ?_⟩
      rw [f2]
      exact p _ m H Ext.refl S mkBl
    · simp only [if_neg c] at p; exact False.elim p⟩

/-! ### items -/
def oIx : Op2
  | .str z, .int i, st => if z.length ≤ lim then (match atI z.cps.toList i with | some c => .ok (.str ⟨#[c]⟩) st | none => .bad) else .bad
  | x, .int i, st => match seqOf st x with
    | some ws => (match atI ws i with | some w => .ok w st | none => .bad)
    | none => .bad
  | _, _, _ => .bad
theorem atI_rel {m : Mp} {H : Hp} {ws : List Wv} {xs : List V} {i : Int} {w : Wv} (r : RelWs X.K m H ws xs) (h : atI ws i = some w) : ∃ x, atI xs i = some x ∧ RelW X.K m H w x := by
  unfold atI at h ⊢
  rw [← r.length]
  cases e : ixN ws.length i with
  | none => rw [e] at h; cases h
  | some j => rw [e] at h; exact r.get h
theorem atI_mem {α : Type} {xs : List α} {i : Int} {v : α} (h : atI xs i = some v) : v ∈ xs := by
  obtain ⟨j, _, h2, _⟩ := atI_get h
  exact List.mem_of_getElem? h2
theorem strOk_one {z : PySem.Str} {c : Nat} (h : PyData.strOk z = true) (hc : c ∈ z.cps.toList) : PyData.strOk ⟨#[c]⟩ = true := by
  unfold PyData.strOk at h ⊢
  rw [Array.all_eq_true_iff_forall_mem] at h
  have q := h c (by simpa using hc)
  simpa using q
theorem je_ix {a b : Expr} {ga gb : GE} {pos : Pos} (ha : JE X a ga) (hb : JE X b gb) (hs : PlainIx b := by exact fun _ _ => rfl) : JE X (.Subscript a b pos) (gBin oIx ga gb) :=
  JE.of (pe_ix ix_seq pe_SE pe_SE hs) fun ρ st σ H m Q S R p => read2 (op := oIx) (fun x y a b st H m Q S rx ry p => by
    have seqs : ∀ (i : Int), y = .int i → (match seqOf st x with | some ws => (match atI ws i with | some w => Re.ok w st | none => .bad) | none => .bad) = oIx x y st → rIx X.K a b H Q := fun i hy hp => by
      subst hy
      rw [← hp] at p
      cases e : seqOf st x with
      | none => rw [e] at p; exact False.elim p
      | some ws =>
        rw [e] at p
        dsimp only at p
        cases e1 : atI ws i with
        | none => rw [e1] at p; exact False.elim p
        | some w =>
          rw [e1] at p
          obtain ⟨q, xs, e2, e3, e4⟩ := seq_rel S rx e
          obtain ⟨v, f1, f2⟩ := atI_rel e4 e1
          rcases e3 with e3 | e3
          · exact .inl ⟨q, xs, i, v, e2, relInt ry, e3, f1, p v m H Ext.refl S f2⟩
          · exact .inr (.inl ⟨q, xs, i, v, e2, relInt ry, e3, f1, p v m H Ext.refl S f2⟩)
    cases y with
    | int i =>
      cases x with
      | str z =>
        dsimp only [oIx] at p
        by_cases c : z.length ≤ lim
        · simp only [if_pos c] at p
          cases e1 : atI z.cps.toList i with
          | none => rw [e1] at p; exact False.elim p
          | some ch =>
            rw [e1] at p
            exact .inr (.inr ⟨z, i, ch, (relStr rx).1, relInt ry, lim_le c, e1, p _ m H Ext.refl S (mkStr (strOk_one (relStr rx).2 (atI_mem e1)))⟩)
        · simp only [if_neg c] at p; exact False.elim p
      | _ => exact seqs i rfl rfl
    | _ => cases x <;> exact False.elim p) ha hb S R p

/-! ### slices of lists and tuples -/
abbrev GO := Rho → Hs → Re (Option Int)
def SO (X : Cx) (e : Option Expr) : TO := fun σ H Q => ∀ (pins : List (Addr × Obj)) (s : Shared), Inv X pins σ H s → wpAny (model X.prog X.w) X.A (evalPart e X.env) (fun u s' => ∃ o H', Inv X pins σ H' s' ∧ IsPart u o ∧ Q o H') X.xe s
theorem po_SO {e : Option Expr} : PO X e (SO X e) := fun pins s _ _ _ I h => h pins s I
def okO (K : PySem.W.Frag) (m : Mp) (H : Hp) (Q : Option Int → Hp → Prop) (o : Option Int) (st : Hs) : Prop := ∀ (m' : Mp) (H' : Hp), Ext K m H m' H' → Sim K m' st H' → Q o H'
def JO (X : Cx) (e : Option Expr) (g : GO) : Prop := ∀ (ρ : Rho) (st : Hs) (σ : St) (H : Hp) (m : Mp) (Q : Option Int → Hp → Prop), Sim X.K m st H → RelEnv X.K m H ρ σ → PostG X σ m H (g ρ st) (okO X.K m H Q) → SO X e σ H Q
def gNoPart : GO := fun _ st => .ok none st
def gPart (g : GE) : GO := fun ρ st => (g ρ st).bind fun w st1 => match w with
  | .int i => .ok (some i) st1
  | _ => .bad
theorem jo_none : JO X none gNoPart := fun ρ st σ H m Q S R p pins s I => po_none pins s σ H Q I (p m H Ext.refl S)
theorem jo_some {e : Expr} {g : GE} (h : JE X e g) : JO X (some e) (gPart g) := fun ρ st σ H m Q S R p pins s I =>
  po_some pe_SE pins s σ H Q I (h.go S R (PostG.bind p) fun w st1 v m1 H1 p1 e1 S1 r1 => by
    cases w with
    | int i => exact ⟨i, relInt r1, p1 m1 H1 e1 S1⟩
    | _ => exact False.elim p1)
theorem JO.go {e : Option Expr} {g : GO} {ρ : Rho} {st : Hs} {σ : St} {H : Hp} {m : Mp} {T : Option Int → Hp → Prop} {ok : Option Int → Hs → Prop} (h : JO X e g) (S : Sim X.K m st H) (R : RelEnv X.K m H ρ σ) (p : PostG X σ m H (g ρ st) ok)
    (k : ∀ (b : Option Int) (st1 : Hs) (m1 : Mp) (H1 : Hp), ok b st1 → Ext X.K m H m1 H1 → Sim X.K m1 st1 H1 → T b H1) : SO X e σ H T :=
  h ρ st σ H m T S R (p.imp Ext.refl fun b st1 q m1 H1 e1 s1 => k b st1 m1 H1 q e1 s1)
def cutW (xs : List Wv) (lo hi : Option Int) : List Wv := (xs.drop (HT.sIx xs.length 0 lo)).take (HT.sIx xs.length xs.length hi - HT.sIx xs.length 0 lo)
def oSl (x : Wv) (lo hi : Option Int) (st : Hs) : Re Wv := match x with
  | .tup ws => if HT.sIx ws.length 0 lo = 0 ∧ HT.sIx ws.length ws.length hi = ws.length then .bad else .ok (.tup (cutW ws lo hi)) st
  | .ref l => match lstOf st l with
    | some ws => .ok (.ref st.length) (st ++ [.lst (cutW ws lo hi)])
    | none => .bad
  | _ => .bad
theorem cut_rel {m : Mp} {H : Hp} {ws : List Wv} {xs : List V} {lo hi : Option Int} (r : RelWs X.K m H ws xs) : RelWs X.K m H (cutW ws lo hi) (cutV xs lo hi) := by
  unfold cutW cutV
  rw [← r.length]
  exact (r.drop _).take _
def gSlice (ga : GE) (gl gh : GO) : GE := fun ρ st => (ga ρ st).bind fun x st1 => (gl ρ st1).bind fun lo st2 => (gh ρ st2).bind fun hi st3 => oSl x lo hi st3
theorem je_slice {a : Expr} {lo hi : Option Expr} {ga : GE} {gl gh : GO} {pos p2 : Pos} (ha : JE X a ga) (hl : JO X lo gl) (hh : JO X hi gh) : JE X (.Subscript a (.Slice lo hi none p2) pos) (gSlice ga gl gh) := by
  refine JE.of (pe_slice (sl_tup.or sl_list) pe_SE po_SO po_SO) fun ρ st σ H m Q S R p => ?_
  refine ha.go S R (PostG.bind p) fun x st1 v m1 H1 p1 e1 S1 rx => ?_
  refine hl.go S1 (R.mono e1) ((PostG.bind p1).imp e1 fun _ _ q => q) fun l st2 m2 H2 p2 e2 S2 => ?_
  refine hh.go S2 (R.mono (e1.trans e2)) ((PostG.bind p2).imp (e1.trans e2) fun _ _ q => q) fun h st3 m3 H3 p3 e3 S3 => ?_
  have e13 := e1.trans (e2.trans e3)
  have rx3 := RelW.mono (e2.trans e3) _ _ rx
  cases x with
  | tup ws =>
    have p3' : PostE X σ m H (if HT.sIx ws.length 0 l = 0 ∧ HT.sIx ws.length ws.length h = ws.length then .bad else .ok (.tup (cutW ws l h)) st3) Q := p3
    by_cases c : HT.sIx ws.length 0 l = 0 ∧ HT.sIx ws.length ws.length h = ws.length
    · rw [if_pos c] at p3'; exact False.elim p3'
    · rw [if_neg c] at p3'
      unfold RelW at rx3
      obtain ⟨q, xs, rfl, f1, f2⟩ := rx3
      refine .inl ⟨q, xs, rfl, f1, by rw [← f2.length]; exact c, fun r hr => ?_⟩
      have e4 : Ext X.K m3 H3 m3 (upd H3 r (.tup (cutV xs l h))) := Ext.upd (.inl hr)
      exact p3' (.ref r) m3 _ (e13.trans e4) (S3.fresh hr) (by unfold RelW; exact ⟨r, _, rfl, SqT.of upd_same, RelWs.mono e4 _ _ (cut_rel f2)⟩)
  | ref k =>
    have p3' : PostE X σ m H (match lstOf st3 k with | some ws => .ok (.ref st3.length) (st3 ++ [.lst (cutW ws l h)]) | none => .bad) Q := p3
    unfold RelW at rx3
    obtain ⟨q, rfl, f1⟩ := rx3
    cases e : lstOf st3 k with
    | none => rw [e] at p3'; exact False.elim p3'
    | some ws =>
      rw [e] at p3'
      obtain ⟨xs, g1, g2⟩ := S3.read f1 e
      exact .inr ⟨q, xs, rfl, g1, fun r hr => new_list p3' e13 S3 (cut_rel g2) r hr⟩
  | _ => exact False.elim p3
end
end J

set_option Elab.async false
set_option linter.all false
set_option maxRecDepth 100000
set_option maxHeartbeats 4000000
namespace J
open PySem PySem.Spec PyProof.Rows L2

section
variable {X : Cx}
/-! ### builtins by values -/
def CallW (X : Cx) (f : Value) (op : List Wv → Hs → Re Wv) : Prop := ∃ r, CallR X f r ∧ ∀ (ws : List Wv) (vs : List V) (st : Hs) (H : Hp) (m : Mp) (Q : VK), Sim X.K m st H → RelWs X.K m H ws vs → PostO X.K m H (op ws st) Q → r vs H Q
def gCallB (op : List Wv → Hs → Re Wv) (g : GA) : GE := fun ρ st => (g ρ st).bind fun ws st1 => (op ws st1).nox
theorem je_callB {x : Str} {id : String} {p pos : Pos} {e : Expr} {es : List Expr} {g : GA} {op : List Wv → Hs → Re Wv} (hc : CallW X (.builtin id) op) (hg : Gl X x) (hm : X.mg x = none) (hv : bootBuiltins x = some (.builtin id)) (ha : JA X (e :: es) g)
    (hn : x ≠ "__name__" := by decide) (hdb : (x == ("__debug__" : Str)) = false := by decide) (he : starEach (e :: es) X.env = (false, eval e X.env) :: starEach es X.env := by rfl) (hpl : (backTo pos (starEach es X.env)).any (·.1) = false := by rfl) :
    JE X (.Call (.Name x p) (e :: es) [] pos) (gCallB op g) := by
  obtain ⟨r, h1, h2⟩ := hc
  refine JE.of (pe_callB h1 hg hm hv pa_SA hn hdb he hpl) fun ρ st σ H m Q S R p => ?_
  exact ha.go S R (PostG.bind p) fun ws st1 vs m1 H1 p1 e1 S1 rs => h2 ws vs st1 H1 m1 Q S1 rs (PostO.shift (PostG.nox p1) e1)
theorem je_callTy {x : Str} {T : String} {p pos : Pos} {e : Expr} {es : List Expr} {g : GA} {op : List Wv → Hs → Re Wv} (hc : CallW X (.type T) op) (hg : Gl X x) (hm : X.mg x = none) (hv : bootBuiltins x = some (.type T)) (ha : JA X (e :: es) g)
    (hn : x ≠ "__name__" := by decide) (hdb : (x == ("__debug__" : Str)) = false := by decide) (he : starEach (e :: es) X.env = (false, eval e X.env) :: starEach es X.env := by rfl) (hpl : (backTo pos (starEach es X.env)).any (·.1) = false := by rfl) :
    JE X (.Call (.Name x p) (e :: es) [] pos) (gCallB op g) := by
  obtain ⟨r, h1, h2⟩ := hc
  refine JE.of (pe_callTy h1 hg hm hv pa_SA hn hdb he hpl) fun ρ st σ H m Q S R p => ?_
  exact ha.go S R (PostG.bind p) fun ws st1 vs m1 H1 p1 e1 S1 rs => h2 ws vs st1 H1 m1 Q S1 rs (PostO.shift (PostG.nox p1) e1)
theorem rel1 {m : Mp} {H : Hp} {w : Wv} {vs : List V} (r : RelWs X.K m H [w] vs) : ∃ v, vs = [v] ∧ RelW X.K m H w v := by
  unfold RelWs at r
  obtain ⟨v, t, rfl, h1, h2⟩ := r
  unfold RelWs at h2
  subst h2
  exact ⟨v, rfl, h1⟩
theorem rel2 {m : Mp} {H : Hp} {w w' : Wv} {vs : List V} (r : RelWs X.K m H [w, w'] vs) : ∃ v v', vs = [v, v'] ∧ RelW X.K m H w v ∧ RelW X.K m H w' v' := by
  unfold RelWs at r
  obtain ⟨v, t, rfl, h1, h2⟩ := r
  obtain ⟨v', rfl, h3⟩ := rel1 h2
  exact ⟨v, v', rfl, h1, h3⟩
def oLen : List Wv → Hs → Re Wv
  | [.str z], st => if z.length ≤ lim then .ok (.int z.length) st else .bad
  | [x], st => match seqOf st x with
    | some ws => .ok (.int ws.length) st
    | none => .bad
  | _, _ => .bad
theorem cw_len : CallW X (.builtin "len") oLen := ⟨_, call_len_seq.or call_len_str, fun ws vs st H m Q S r p => by
  match ws, r, p with
  | [], r, p => exact False.elim p
  | x :: y :: t, r, p => cases x <;> exact False.elim p
  | [x], r, p =>
    obtain ⟨v, rfl, rx⟩ := rel1 r
    have seqs : (match seqOf st x with | some ws => Re.ok (Wv.int ws.length) st | none => .bad) = oLen [x] st → (∃ p ys, [v] = [V.ref p] ∧ (SqL X.K H p ys ∨ SqT X.K H p ys) ∧ Q (.int ys.length) H) := fun hp => by
      rw [← hp] at p
      cases e : seqOf st x with
      | none => rw [e] at p; exact False.elim p
      | some ws =>
        rw [e] at p
        obtain ⟨q, xs, rfl, e2, e3⟩ := seq_rel S rx e
        refine ⟨q, xs, rfl, e2, ?_⟩
        rw [← e3.length]
        exact p _ m H Ext.refl S mkInt
    cases x with
    | str z =>
      have p' : PostO X.K m H (if z.length ≤ lim then .ok (.int z.length) st else .bad) Q := p
      by_cases c : z.length ≤ lim
      · rw [if_pos c] at p'
        obtain ⟨rfl, _⟩ := relStr rx
        exact .inr ⟨z, rfl, lim_le c, p' _ m H Ext.refl S mkInt⟩
      · rw [if_neg c] at p'; exact False.elim p'
    | _ => exact .inl (seqs rfl)⟩
def oAbs : List Wv → Hs → Re Wv
  | [.int i], st => .ok (.int (if i < 0 then -i else i)) st
  | _, _ => .bad
theorem cw_abs : CallW X (.builtin "abs") oAbs := ⟨_, call_abs, fun ws vs st H m Q S r p => by
  match ws, r, p with
  | [], r, p => exact False.elim p
  | x :: y :: t, r, p => cases x <;> exact False.elim p
  | [x], r, p =>
    obtain ⟨v, rfl, rx⟩ := rel1 r
    cases x with
    | int i => cases relInt rx; exact ⟨i, rfl, p _ m H Ext.refl S mkInt⟩
    | _ => exact False.elim p⟩

/-! ### isinstance(x, T) of a type of Python's own -/
/-- what the type's name tells of a value; none: not asked -/
def isW (st : Hs) (T : String) : Wv → Option Bool
  | .non => some false
  | .bl _ => some (T == "bool" || T == "int")
  | .int _ => some (T == "int")
  | .str _ => some (T == "str")
  | .tup _ => some (T == "tuple")
  | .ref l => (lstOf st l).map fun _ => T == "list"
  | .ty _ => none
  | .cls _ => none
  | .exn _ => none
def okTy (T : String) : Bool := T == "int" || T == "str" || T == "bool" || T == "tuple" || T == "list"
def oIsI : List Wv → Hs → Re Wv
  | [x, .ty T], st => if okTy T = true then (match isW st T x with | some b => .ok (.bl b) st | none => .bad) else .bad
  | _, _ => .bad
def rIsI (K : PySem.W.Frag) : List V → Hp → VK → Prop := fun vs H Q => ∃ m st x T v b, vs = [v, .ty T] ∧ Sim K m st H ∧ RelW K m H x v ∧ okTy T = true ∧ isW st T x = some b ∧ Q (.bl b) H
theorem call_isI : CallR X (.builtin "isinstance") (rIsI X.K) := by
  intro pins s σ H xs us Q I r h
  obtain ⟨m, st, x, T, v, b, rfl, S, rx, hT, hb, q⟩ := h
  obtain ⟨u, u', rfl, r1, r2⟩ := vals2 r
  cases r2
  have fin : ∀ tk, EP X pins σ Q (.bool b) { s with toks := tk } := fun tk => ⟨.bl b, H, I.tok tk, rfl, q⟩
  have fin0 : EP X pins σ Q (.bool b) s := ⟨.bl b, H, I, rfl, q⟩
  unfold okTy at hT
  simp only [Bool.or_eq_true, beq_iff_eq] at hT
  cases x with
  | non =>
    unfold RelW at rx; subst rx; cases r1
    cases hb
    rcases hT with (((rfl | rfl) | rfl) | rfl) | rfl <;>
      exact call_isinstance (isinstance_false_none (by decide) (by kernel_rfl) (by rw [isSubtype_type]; kernel_rfl)) (fin _)
  | bl c =>
    unfold RelW at rx; subst rx; cases r1
    rcases hT with (((rfl | rfl) | rfl) | rfl) | rfl <;> cases hb <;> first
      | exact call_isinstance_yes (Tx := "bool") rfl (by kernel_rfl) (by rw [isSubtype_type]; kernel_rfl) fin0
      | exact call_isinstance (isinstance_false_bool (by decide) (by kernel_rfl) (by rw [isSubtype_type]; kernel_rfl)) (fin _)
  | int c =>
    unfold RelW at rx; subst rx; obtain ⟨t, rfl⟩ := r1
    rcases hT with (((rfl | rfl) | rfl) | rfl) | rfl <;> cases hb <;> first
      | exact call_isinstance_yes (Tx := "int") (typeIs_int s c t) (by kernel_rfl) (by rw [isSubtype_type]; kernel_rfl) fin0
      | exact call_isinstance (isinstance_false_int (by decide) (by kernel_rfl) (by rw [isSubtype_type]; kernel_rfl)) (fin _)
  | str c =>
    obtain ⟨rfl, _⟩ := relStr rx; obtain ⟨t, rfl⟩ := r1
    rcases hT with (((rfl | rfl) | rfl) | rfl) | rfl <;> cases hb <;> first
      | exact call_isinstance_yes (Tx := "str") (typeIs_str s c t) (by kernel_rfl) (by rw [isSubtype_type]; kernel_rfl) fin0
      | exact call_isinstance (isinstance_false_str (by decide) (by kernel_rfl) (by rw [isSubtype_type]; kernel_rfl)) (fin _)
  | tup ws =>
    unfold RelW at rx; obtain ⟨a, xs, rfl, h1, h2⟩ := rx; cases r1
    obtain ⟨its, rv, ht, hz⟩ := I.tuple h1
    have hty := ht.typeIs
    obtain ⟨o, ho, hc, k, hd⟩ := ht
    rcases hT with (((rfl | rfl) | rfl) | rfl) | rfl <;> cases hb <;> first
      | exact call_isinstance_yes (Tx := "tuple") hty (by kernel_rfl) (by rw [isSubtype_type]; kernel_rfl) fin0
      | exact call_isinstance (isinstance_false_tuple (by decide) (by kernel_rfl) (by rw [isSubtype_type]; kernel_rfl)) ⟨⟨o, ho, hc⟩, fin _⟩
  | ref l =>
    unfold RelW at rx; obtain ⟨a, rfl, h1⟩ := rx; cases r1
    have hb' : (lstOf st l).map (fun _ => T == "list") = some b := hb
    cases e : lstOf st l with
    | none => rw [e] at hb'; cases hb'
    | some ws =>
      rw [e] at hb'
      obtain ⟨xs, hq, h2⟩ := S.read h1 e
      obtain ⟨its, rv, ht, hz⟩ := I.list hq
      have hty := ht.isList.typeIs
      obtain ⟨o, ho, hc, k, hd⟩ := ht.isList
      rcases hT with (((rfl | rfl) | rfl) | rfl) | rfl <;> cases hb' <;> first
        | exact call_isinstance_yes (Tx := "list") hty (by kernel_rfl) (by rw [isSubtype_type]; kernel_rfl) fin0
        | exact call_isinstance (isinstance_false_list (by decide) (by kernel_rfl) (by rw [isSubtype_type]; kernel_rfl)) ⟨⟨o, ho, hc⟩, fin _⟩
  | ty t => cases hb
  | cls t => cases hb
  | exn t => cases hb
theorem cw_isI : CallW X (.builtin "isinstance") oIsI := ⟨_, call_isI, fun ws vs st H m Q S r p => by
  match ws, r, p with
  | [], r, p => exact False.elim p
  | [x], r, p => cases x <;> exact False.elim p
  | x :: y :: z :: t, r, p => cases y <;> exact False.elim p
  | [x, y], r, p =>
    obtain ⟨v, v', rfl, rx, ry⟩ := rel2 r
    cases y with
    | ty T =>
      unfold RelW at ry
      subst ry
      have p' : PostO X.K m H (if okTy T = true then (match isW st T x with | some b => .ok (.bl b) st | none => .bad) else .bad) Q := p
      by_cases c : okTy T = true
      · rw [if_pos c] at p'
        cases e : isW st T x with
        | none => rw [e] at p'; exact False.elim p'
        | some b => rw [e] at p'; exact ⟨m, st, x, T, v, b, rfl, S, rx, c, e, p' _ m H Ext.refl S mkBl⟩
      · rw [if_neg c] at p'; exact False.elim p'
    | _ => exact False.elim p⟩

/-! ### statements -/
def gNext : GS := fun ρ st => .nx ρ st
def gSeq (g h : GS) : GS := fun ρ st => match g ρ st with
  | .nx ρ' st' => h ρ' st'
  | r => r
theorem jss_nil : JSs X [] gNext := JSs.of pss_nil fun ρ st σ H m D S R p => p σ m H Ext.refl S R
theorem jss_cons {s : Stmt} {rest : List Stmt} {g h : GS} (h1 : JS X s g) (h2 : JSs X rest h) : JSs X (s :: rest) (gSeq g h) :=
  JSs.of (pss_cons ps_SS pss_SSs) fun ρ st σ H m D S R p => h1 ρ st σ H m _ S R (by
    unfold gSeq at p
    cases e : g ρ st with
    | nx ρ' st' => rw [e] at p; exact fun σ' m' H' e' S' R' => h2 ρ' st' σ' H' m' D S' R' (PostS.shift p e')
    | rt w st' => rw [e] at p; exact p
    | bk ρ' st' => rw [e] at p; exact p
    | ct ρ' st' => rw [e] at p; exact p
    | err c ρ' st' => rw [e] at p; exact p
    | bad => rw [e] at p; exact p)
theorem jss_one {s : Stmt} {g : GS} (h1 : JS X s g) : JSs X [s] g := JSs.of (pss_one ps_SS) fun ρ st σ H m D S R p => h1 ρ st σ H m D S R p
def gRet (g : GE) : GS := fun ρ st => (g ρ st).thn ρ fun w st' => .rt w st'
theorem js_ret {e : Expr} {g : GE} {pos : Pos} (h : JE X e g) : JS X (.Return (some e) pos) (gRet g) :=
  JS.of (ps_ret pe_SE) fun ρ st σ H m D S R p => h.go S R (PostS.of_thn R p) fun w st1 v m1 H1 q e1 S1 r1 => q v m1 H1 e1 S1 r1
theorem js_pass {pos : Pos} : JS X (.Pass pos) gNext := JS.of ps_pass fun ρ st σ H m D S R p => p σ m H Ext.refl S R
def gExpr (g : GE) : GS := fun ρ st => (g ρ st).thn ρ fun _ st' => .nx ρ st'
theorem js_expr {e : Expr} {g : GE} {pos : Pos} (h : JE X e g) (hs : swapsWith e none pos.line X.env = pure false := by rfl) : JS X (.Expr e pos) (gExpr g) :=
  JS.of (ps_expr pe_SE hs) fun ρ st σ H m D S R p => h.go S R (PostS.of_thn R p) fun w st1 v m1 H1 q e1 S1 r1 => q σ m1 H1 e1 S1 (R.mono e1)
def gIf (gt : GT) (ga gb : GS) : GS := fun ρ st => (gt ρ st).thn ρ fun b st' => if b = true then ga ρ st' else gb ρ st'
theorem js_if {c : Expr} {a b : List Stmt} {gt : GT} {ga gb : GS} {pos : Pos} (hc : JT X c gt) (ha : JSs X a ga) (hb : JSs X b gb) : JS X (.If c a b pos) (gIf gt ga gb) :=
  JS.of (ps_if pt_ST pss_SSs pss_SSs) fun ρ st σ H m D S R p => hc.go S R (PostS.of_thn R p) fun k st1 m1 H1 q e1 S1 => by
    cases k with
    | true => rw [if_pos rfl] at q ⊢; exact ha ρ st1 σ H1 m1 D S1 (R.mono e1) (PostS.shift q e1)
    | false => rw [if_neg Bool.false_ne_true] at q ⊢; exact hb ρ st1 σ H1 m1 D S1 (R.mono e1) (PostS.shift q e1)
def gSet (i : Nat) (g : GE) : GS := fun ρ st => (g ρ st).thn ρ fun w st' => .nx (ρ.set i (some w)) st'
theorem js_set (i : Nat) {x : Str} {e : Expr} {g : GE} {pos pos' : Pos} (hN : X.N.Nodup) (h : JE X e g) (hi : X.N[i]? = some x := by rfl) (hx : Loc X.env.scope x := by first | exact Or.inl rfl | exact Or.inr rfl) (hs : swapsWith e (some (.Name x pos')) pos.line X.env = pure false := by rfl)
    (hf : X.fn x = true ∨ X.env.scope.names.lookup x = some .local := by first | exact .inl rfl | exact .inr rfl | assumption) : JS X (.Assign [.Name x pos'] e pos) (gSet i g) :=
  JS.of (ps_set hN hi hx pe_SE hs hf) fun ρ st σ H m D S R p => h.go S R (PostS.of_thn R p) fun w st1 v m1 H1 q e1 S1 r1 => q _ m1 H1 e1 S1 ((R.mono e1).set i r1)
/-- code that is not come to -/
def gNever : GS := fun _ _ => .bad
theorem js_never {s : Stmt} : JS X s gNever := JS.of ps_never fun ρ st σ H m D S R p => p
theorem jss_never {s : List Stmt} : JSs X s gNever := JSs.of pss_never fun ρ st σ H m D S R p => p
/-- xs[i] = v -/
def oSet (o i v : Wv) (ρ : Rho) (st : Hs) : Rs := match o, i with
  | .ref l, .int k => match st[l]? with
    | some (.lst ws) => (match ixN ws.length k with | some j => .nx ρ (st.set l (.lst (ws.set j v))) | none => .bad)
    | _ => .bad
  | _, _ => .bad
def gSetI (ge go gi : GE) : GS := fun ρ st => (ge ρ st).thn ρ fun v st1 => (go ρ st1).thn ρ fun o st2 => (gi ρ st2).thn ρ fun i st3 => oSet o i v ρ st3
theorem js_setI {o i e : Expr} {go gi ge : GE} {pos pos' : Pos} (he : JE X e ge) (ho : JE X o go) (hi : JE X i gi) (hs : swapsWithSole [.Subscript o i pos'] e pos.line X.env = pure false := by rfl) (hw : swappedStores [.Subscript o i pos'] e X.env = pure none := by rfl)
    (h1 : (assignEach [.Subscript o i pos'] X.env).map (·.2) = [assign (.Subscript o i pos') X.env] := by rfl)
    (ha : ∀ v, assign (.Subscript o i pos') X.env v = (do
      let ov ← holding [v] (eval o X.env)
      let iv ← holding [v, ov] (eval i X.env)
      standAt pos'
      holding [v, ov, iv] (setItem ov iv v)
      release [v, ov, iv] []) := by intro _; rfl) : JS X (.Assign [.Subscript o i pos'] e pos) (gSetI ge go gi) := by
  refine JS.of (ps_asg pe_SE (pg_sub pe_SE pe_SE set_list ha) hs hw h1) fun ρ st σ H m D S R p => ?_
  refine he.go S R (PostS.of_thn R p) fun v st1 vv m1 H1 p1 e1 S1 rv => ?_
  refine ho.go S1 (R.mono e1) ((PostS.of_thn (m := m) (H := H) R p1).imp e1 fun _ _ q => q) fun o' st2 ov m2 H2 p2 e2 S2 ro => ?_
  refine hi.go S2 (R.mono (e1.trans e2)) ((PostS.of_thn (m := m) (H := H) R p2).imp (e1.trans e2) fun _ _ q => q) fun i' st3 iv m3 H3 p3 e3 S3 ri => ?_
  have e13 := e1.trans (e2.trans e3)
  cases o' with
  | ref l =>
    cases i' with
    | int k =>
      have p3' : PostS X m H (match st3[l]? with | some (.lst ws) => (match ixN ws.length k with | some j => .nx ρ (st3.set l (.lst (ws.set j v))) | none => .bad) | _ => .bad) D := p3
      have ro3 := RelW.mono e3 _ _ ro
      unfold RelW at ro3
      obtain ⟨a, rfl, f1⟩ := ro3
      cases e : st3[l]? with
      | none => rw [e] at p3'; exact False.elim p3'
      | some ob =>
        cases ob with
        | scr ns => rw [e] at p3'; exact False.elim p3'
        | lst ws =>
          rw [e] at p3'
          cases ej : ixN ws.length k with
          | none => simp only [ej] at p3'; exact False.elim p3'
          | some j =>
            simp only [ej] at p3'
            obtain ⟨xs, g1, g2⟩ := S3.lstAt f1 e
            refine ⟨a, xs, k, j, rfl, relInt ri, g1, by rw [← g2.length]; exact ej, ?_⟩
            have rv3 := RelW.mono (e2.trans e3) _ _ rv
            have e4 : Ext X.K m3 H3 m3 (upd H3 a (.lst (xs.set j vv))) := Ext.upd (.inr ⟨xs, g1⟩)
            exact p3' σ m3 _ (e13.trans e4) (S3.write f1 e (g2.set j rv3)) (R.mono (e13.trans e4))
    | _ => exact False.elim p3
  | _ => cases i' <;> exact False.elim p3

/-! ### for over a list (or the script), over a tuple -/
open Classical in
noncomputable def forL (i : Nat) (gb : GS) (l : Nat) (all : List Wv) : List Wv → Rho → Hs → Rs
  | [], ρ, st => .nx ρ st
  | w :: r, ρ, st => match gb (ρ.set i (some w)) st with
    | .nx ρ' st' => if lstOf st' l = some all then forL i gb l all r ρ' st' else .bad
    | .ct ρ' st' => if lstOf st' l = some all then forL i gb l all r ρ' st' else .bad
    | .bk ρ' st' => .nx ρ' st'
    | .rt w st' => .rt w st'
    | .err c ρ' st' => .err c ρ' st'
    | .bad => .bad
noncomputable def gForL (i : Nat) (gi : GE) (gb : GS) : GS := fun ρ st => (gi ρ st).thn ρ fun w st1 => match w with
  | .ref l => (match lstOf st1 l with | some ws => forL i gb l ws ws ρ st1 | none => .bad)
  | _ => .bad
theorem js_forL (i : Nat) {x : Str} {iter : Expr} {body : List Stmt} {gi : GE} {gb : GS} {pos pos' : Pos} (hN : X.N.Nodup) (hp : PassesOwn (model X.prog X.w) X.A X.env X.xe) (hc : X.calm = true) (hi : JE X iter gi) (hb : JSs X body gb)
    (hx : X.N[i]? = some x := by rfl) (hlo : Loc X.env.scope x := by first | exact Or.inl rfl | exact Or.inr rfl) (hf : X.fn x = true ∨ X.env.scope.names.lookup x = some .local := by first | exact .inl rfl | exact .inr rfl | assumption)
    (hs : ∀ x, foldedSetIterable iter X.env x = pure x := by intro _; rfl) : JS X (.For (.Name x pos') iter body [] pos) (gForL i gi gb) := by
  refine JS.of (ps_for hp hc (pi_list pe_SE) (pg_name hN hx hlo hf) pss_SSs hs) fun ρ st σ H m D S R p => ?_
  refine hi.go S R (PostS.of_thn R p) fun w st1 v m1 H1 p1 e1 S1 rw' => ?_
  cases w with
  | ref l =>
    have p1' : PostS X m H (match lstOf st1 l with | some ws => forL i gb l ws ws ρ st1 | none => .bad) D := p1
    unfold RelW at rw'
    obtain ⟨a, rfl, hla⟩ := rw'
    cases el : lstOf st1 l with
    | none => rw [el] at p1'; exact False.elim p1'
    | some ws =>
      rw [el] at p1'
      obtain ⟨xs0, q0, _⟩ := S1.read hla el
      refine ⟨a, rfl, ⟨xs0, q0⟩, ?_⟩
      let Pv : Nat → St → Hp → Prop := fun k σ H => ∃ ρ st m', Ext X.K m1 H1 m' H ∧ Sim X.K m' st H ∧ RelEnv X.K m' H ρ σ ∧ lstOf st l = some ws ∧ PostS X m' H (forL i gb l ws (ws.drop k) ρ st) D
      refine ⟨fun k n σ H => n = ws.length - k ∧ k ≤ ws.length ∧ Pv k σ H, ⟨ws.length, by simp, Nat.zero_le _, ρ, st1, m1, Ext.refl, S1, R.mono e1, el, PostS.shift p1' e1⟩, ?_⟩
      rintro k n σ2 H2 ⟨rfl, hk, ρ2, st2, m2, e2, S2, R2, l2, p2⟩
      obtain ⟨xs, hq, rws⟩ := S2.read (e2.pre _ _ hla) l2
      have hlen := rws.length
      by_cases hlt : k < ws.length
      · have hx' : k < xs.length := by omega
        refine .inr ⟨⟨xs, xs[k], hq, by simp [hx']⟩, Pv (k + 1), fun σ' H' p' => ⟨ws.length - (k + 1), by omega, rfl, hlt, p'⟩, fun x H' y => ?_⟩
        obtain ⟨ee, y⟩ := y
        subst ee
        have ey := y xs hq
        have ed : ws.drop k = ws[k] :: ws.drop (k + 1) := List.drop_eq_getElem_cons hlt
        obtain ⟨x', ex', rx'⟩ := rws.get (i := k) (w := ws[k]) (List.getElem?_eq_getElem hlt)
        rw [ey] at ex'
        cases ex'
        rw [ed] at p2
        refine hb _ st2 _ _ m2 _ S2 (R2.set i rx') ?_
        unfold forL at p2
        cases eg : gb (ρ2.set i (some ws[k])) st2 with
        | nx ρ3 st3 =>
          rw [eg] at p2
          by_cases c : lstOf st3 l = some ws
          · simp only [if_pos c] at p2
            exact fun σ3 m3 H3 e3 S3 R3 => ⟨ρ3, st3, m3, e2.trans e3, S3, R3, c, PostS.shift p2 e3⟩
          · simp only [if_neg c] at p2; exact False.elim p2
        | ct ρ3 st3 =>
          rw [eg] at p2
          by_cases c : lstOf st3 l = some ws
          · simp only [if_pos c] at p2
            exact fun σ3 m3 H3 e3 S3 R3 => ⟨ρ3, st3, m3, e2.trans e3, S3, R3, c, PostS.shift p2 e3⟩
          · simp only [if_neg c] at p2; exact False.elim p2
        | bk ρ3 st3 => rw [eg] at p2; exact p2
        | rt w3 st3 => rw [eg] at p2; exact p2
        | err c3 ρ3 st3 => rw [eg] at p2; exact p2
        | bad => rw [eg] at p2; exact p2
      · have e : k = ws.length := by omega
        subst e
        rw [List.drop_length] at p2
        exact .inl ⟨⟨xs, hq, by omega⟩, p2 σ2 m2 H2 Ext.refl S2 R2⟩
  | _ => exact False.elim p1

end
end J

set_option Elab.async false
set_option linter.all false
set_option maxRecDepth 100000
set_option maxHeartbeats 4000000
namespace J
open PySem PySem.Spec PyProof.Rows L2

/-! ### an exception leaves a frame -/
def CXJ (P : Program) (w : World) : CXT := fun outer H s E e s' => ∃ H' C, Flown P w outer H s H' (.ref C) e s' ∧ E (.ref C) none H'
section
variable {X : Cx} {pins : List (Addr × Obj)} {σ : St} {Hc H' : Hp} {sc s' : Shared} {cls e : Value} {E : Value → Shared → Prop} {Q : Unit → Shared → Prop}
/-- what is old is no frame of this one -/
theorem old_ne (I : Inv X pins σ Hc sc) {b : Addr} {o : Obj} (q : X.s₀.heap.get? b = some o) : b ≠ X.env.locals := fun z => by
  have h1 := Heap.lt_size q
  have h2 := I.ok.above
  rw [z] at h1
  exact absurd (Nat.lt_of_lt_of_le h1 h2) (Nat.lt_irrefl _)
theorem old_out (I : Inv X pins σ Hc sc) (hst : X.stack = X.env :: X.outer) (hf : X.env.frame = some X.env.locals) {b : Addr} {o : Obj} (q : X.s₀.heap.get? b = some o) (hb : b ∉ frs X.outer) : b ∉ frs X.stack := fun z => by
  rw [hst] at z
  unfold frs at z
  rw [List.filterMap_cons, hf] at z
  rcases List.mem_cons.mp z with z | z
  · exact old_ne I q z
  · exact hb z
theorem in_stack (hst : X.stack = X.env :: X.outer) (hf : X.env.frame = some X.env.locals) {b : Addr} (hb : b ∈ frs X.outer) : b ∈ frs X.stack := by
  rw [hst]
  unfold frs
  rw [List.filterMap_cons, hf]
  exact List.mem_cons_of_mem _ hb
/-- the older objects as they stand behind the frame -/
theorem un_out (hx : X.ex = []) (hst : X.stack = X.env :: X.outer) (hf : X.env.frame = some X.env.locals) (I : Inv X pins σ Hc sc) {B h2 : Heap} (un : Un (frs X.stack) [] Hc H' sc.heap s'.heap) (up : s'.heap.UpToSlots h2) (stay : B.StaysIn h2)
    (cov : ∀ b o, sc.heap.get? b = some o → b ∉ frs X.stack → ∃ o', B.get? b = some o' ∧ (Hc b = none → o' = o)) :
    Un (frs X.outer) [] X.H₀ H' X.s₀.heap h2 ∧ (∀ b o, X.s₀.heap.get? b = some o → b ∉ frs X.outer → ∃ o', B.get? b = some o' ∧ (X.H₀ b = none → o' = o)) := by
  have nx : ∀ b : Addr, b ∉ X.ex := fun b => by rw [hx]; simp
  have cov2 : ∀ b o, X.s₀.heap.get? b = some o → b ∉ frs X.outer → ∃ o', B.get? b = some o' ∧ (X.H₀ b = none → o' = o) := fun b o q hb => by
    obtain ⟨o1, q1⟩ := I.base.there b o q (nx b)
    obtain ⟨o2, q2, q3⟩ := cov b o1 q1 (old_out I hst hf q hb)
    refine ⟨o2, q2, fun n => ?_⟩
    have q4 := I.base.keep b o q n hb (nx b)
    rw [q4] at q1
    cases q1
    exact q3 (I.base.free b o q n (nx b))
  have sl : ∀ b o, X.s₀.heap.get? b = some o → X.H₀ b = none → b ∈ frs X.outer → ∃ sl, h2.get? b = some { o with slots := sl } := fun b o q n hb => by
    obtain ⟨s1, q1⟩ := I.base.slot b o q n hb (nx b)
    obtain ⟨s2, q2⟩ := un.slot b _ q1 (I.base.free b o q n (nx b)) (in_stack hst hf hb) (by simp)
    obtain ⟨_, o3, q3, q4⟩ := I.ok.funs.mem hb
    rw [q] at q3
    cases q3
    obtain ⟨s3, q5⟩ := up b _ q2 q4
    exact ⟨s3, q5⟩
  refine ⟨⟨fun b o q n hb _ => ?_, fun b o q n hb _ => sl b o q n hb, fun b o q n _ => ?_, fun b o q _ => ?_, fun b xs h => un.tups b xs (I.base.tups b xs h), fun b o u h => un.frzs b o u (I.base.frzs b o u h), fun b ps h => ?_⟩, cov2⟩
  · obtain ⟨o2, q2, q3⟩ := cov2 b o q hb
    rw [q3 n] at q2
    exact stay b o q2
  · obtain ⟨o1, q1⟩ := I.base.there b o q (nx b)
    exact un.free b o1 q1 (I.base.free b o q n (nx b)) (by simp)
  · by_cases hb : b ∈ frs X.outer
    · obtain ⟨s3, q3⟩ := sl b o q (I.ok.frf b hb) hb
      exact ⟨_, q3⟩
    · obtain ⟨o2, q2, _⟩ := cov2 b o q hb
      exact ⟨o2, stay b o2 q2⟩
  · obtain ⟨m1, t1⟩ := I.base.tbls b ps h
    obtain ⟨m2, t2⟩ := un.tbls b _ t1
    exact ⟨m1 ++ m2, by rw [← Array.append_assoc]; exact t2⟩
theorem leave_flown (hx : X.ex = []) (hst : X.stack = X.env :: X.outer) (hf : X.env.frame = some X.env.locals) (I : Inv X pins σ Hc sc) (F : Flown X.prog X.w X.stack Hc sc H' cls e s')
    (k : ∀ s2, Flown X.prog X.w X.outer X.H₀ X.s₀ H' cls e s2 → Q () s2) : wpAny (model X.prog X.w) X.A (leaving X.env e) Q E s' := by
  obtain ⟨a, a0, B, rfl, os, bare, un, hok, fl, cov⟩ := F
  have hfr : X.A.frames = some (X.env :: X.outer) := by rw [I.ok.frames, hst]
  have fl' : Heap.FlyingW B (X.env :: X.outer) a cls a0 s'.heap := by rw [← hst]; exact fl
  refine wpAny_leaves_onW hfr hf fl' fun h2 fl2 up => k _ ?_
  obtain ⟨u2, c2⟩ := un_out hx hst hf I un up fl2.1 cov
  exact ⟨a, a0, B, rfl, os.trans I.os, bare, u2, hok, fl2, c2⟩
theorem hok_hide {P : Program} {w : World} {H : Hp} {h : Heap} {l : List Addr} (ok : HOk P w H h) (fr : ∀ b ∈ l, H b = none) : HOk P w H (PySem.W.hideAll h l) := fun a o q =>
  (ok a o q).stay (fun b u hb r => PySem.W.hideAll_get _ r fun z => by
    have n := fr b z
    rcases hb with hb | hb
    · rw [hb, q] at n; cases n
    · rw [hb] at n; cases n) (fun _ r => r) fun _ _ r => r
theorem leave_made {a C : Addr} {args : List Value} (hx : X.ex = []) (hst : X.stack = X.env :: X.outer) (hf : X.env.frame = some X.env.locals) (I : Inv X pins σ Hc sc) (ho : s'.os = sc.os) (hgn : s'.gens = sc.gens)
    (M : Heap.MadeExcOf sc.heap s'.heap a (.ref C) args) (k : ∀ s2, Flown X.prog X.w X.outer X.H₀ X.s₀ Hc (.ref C) (.ref a) s2 → Q () s2) : wpAny (model X.prog X.w) X.A (leaving X.env (.ref a)) Q E s' := by
  have hfr : X.A.frames = some (X.env :: X.outer) := by rw [I.ok.frames, hst]
  have fs : sc.heap.FunFrames (PySem.W.hideAll sc.heap (frs X.stack)) (X.env :: X.outer) := by
    rw [← hst]
    exact PySem.W.funFrames_hide I.stack fun env he b hb => List.mem_filterMap.mpr ⟨env, he, hb⟩
  refine wpAny_leaves_madeW (base := PySem.W.hideAll sc.heap (frs X.stack)) hfr hf (fun b o q => PySem.W.of_hideAll _ q) fs M fun h2 t fl2 _ _ up => k _ ?_
  obtain ⟨u2, c2⟩ := un_out (H' := Hc) (s' := s') hx hst hf I (Un.kept M.keeps) up fl2.1 fun b o q hb => ⟨o, PySem.W.hideAll_get _ q hb, fun _ => rfl⟩
  exact ⟨a, .ref t, _, rfl, ho.trans I.os, by rw [show ({ s' with heap := h2 } : Shared).gens = sc.gens from hgn]; exact I.bare, u2, hok_hide I.hok I.stkFree, fl2, c2⟩
end

/-! ### calls of defs -/
def PostF (K : PySem.W.Frag) (m : Mp) (H : Hp) (r : Re Wv) (Q : VK) (E : XK) : Prop := match r with
  | .ok w st => okE K m H Q w st
  | .err c st => ∀ (m' : Mp) (H' : Hp) (C : Addr), Ext K m H m' H' → Sim K m' st H' → ClsAt K c C → E (.ref C) none H'
  | .bad => False
def spW (K : PySem.W.Frag) (n : Nat) (F : List Wv → Hs → Re Wv) : Sp := fun vs H Q E => ∃ m st ws, Sim K m st H ∧ RelWs K m H ws vs ∧ ws.length = n ∧ PostF K m H (F ws st) Q E
def gCall (n : Nat) (F : List Wv → Hs → Re Wv) (g : GA) : GE := fun ρ st => (g ρ st).bind fun ws st1 => if ws.length = n then F ws st1 else .bad
section
variable {X : Cx}
theorem je_call {k n : Nat} {f : Addr} {fd : FuncData} {ps : List Str} {F : List Wv → Hs → Re Wv} {x : Str} {p pos : Pos} {e : Expr} {es : List Expr} {g : GA}
    (G : FnOk X.prog X.w X.K X.mg X.base (CXJ X.prog X.w) k f fd ps (spW X.K n F)) (hr : Room k X.A) (hm : X.mg x = some (.ref f)) (hk : PySem.W.keepIn X.K (.ref f) = true) (hb : Binds X.K fd ps []) (ha : JA X (e :: es) g) (hg : Gl X x := by rfl)
    (hdb : (x == ("__debug__" : Str)) = false := by decide) (he : starEach (e :: es) X.env = (false, eval e X.env) :: starEach es X.env := by rfl) (hpl : (backTo pos (starEach es X.env)).any (·.1) = false := by rfl) :
    JE X (.Call (.Name x p) (e :: es) [] pos) (gCall n F g) := by
  intro ρ st σ H m Q S R p pins s I
  have args := ha.go (T := fun vs H1 => ∃ ws st1 m1, PostE X σ m H (if ws.length = n then F ws st1 else .bad) Q ∧ Ext X.K m H m1 H1 ∧ Sim X.K m1 st1 H1 ∧ RelWs X.K m1 H1 ws vs) S R (PostG.bind p)
    fun ws st1 vs m1 H1 p1 e1 S1 rs => ⟨ws, st1, m1, p1, e1, S1, rs⟩
  refine wpAny_Call_Name_kw (ld_glob I hg hm ?_ hdb)
  refine PySem.W.callWith_K (h₀ := X.base) I.ok.mod.kin hk (thn (args pos pins s I) fun us s1 ⟨vs, H1, I1, r, ws, st1, m1, p1, e1, S1, rs⟩ => ⟨I1.kIn, ?_⟩) he hpl
  by_cases c : ws.length = n
  · rw [if_pos c] at p1
    let E : XK := fun cl _ H2 => ∃ c' st2 m2 C, cl = .ref C ∧ ClsAt X.K c' C ∧ F ws st1 = .err c' st2 ∧ Ext X.K m1 H1 m2 H2 ∧ Sim X.K m2 st2 H2
    have sp : spW X.K n F vs H1 Q E := by
      refine ⟨m1, st1, ws, S1, rs, c, ?_⟩
      cases er : F ws st1 with
      | ok w st2 => rw [er] at p1; exact PostE.shift (r := .ok w st2) p1 e1
      | err c' st2 => exact fun m2 H2 C e2 S2 hC => ⟨c', st2, m2, C, rfl, hC, er, e2, S2⟩
      | bad => rw [er] at p1; exact False.elim p1
    have hl : us.length = ps.length := by rw [← r.length]; exact G.len _ _ _ _ sp
    have bd := hb s1 us I1.kIn (by rw [List.append_nil]; exact hl)
    rw [List.append_nil] at bd
    refine wpAny_call (codeAny_mono (G.run X.A X.stack s1 H1 ⟨us, []⟩ us vs Q E hr I1.env0 bd r sp) fun rr s2 hq => ?_)
    cases rr with
    | error x =>
      obtain ⟨H2, C, fl, c', st2, m2, C', ec, hC, er, e2, S2⟩ := hq
      cases ec
      rw [er] at p1
      exact p1 m2 H2 x s2 (e1.trans e2) S2 ⟨C, pins, H1, s1, hC, I1, .inl fl⟩
    | ok fw =>
      cases fw with
      | ret u => exact I1.after hq
      | next => exact False.elim hq
      | brk => exact False.elim hq
      | cont => exact False.elim hq
  · rw [if_neg c] at p1; exact False.elim p1
end

/-! ### a def of the text -/
def fnF (n : Nat) (g : GS) : List Wv → Hs → Re Wv := fun ws st => match g (ws.map some ++ List.replicate (n - ws.length) none) st with
  | .nx _ st' => .ok .non st'
  | .rt w st' => .ok w st'
  | .err c _ st' => .err c st'
  | _ => .bad
theorem startRel {K : PySem.W.Frag} {m : Mp} {H : Hp} {N : List Str} {ws : List Wv} {vs : List V} (r : RelWs K m H ws vs) (h : ws.length ≤ N.length) : RelEnv K m H (ws.map some ++ List.replicate (N.length - ws.length) none) (L2.start N vs) := by
  have hl := r.length
  refine ⟨by unfold L2.start; simp [hl], fun i w e => ?_⟩
  by_cases hi : i < ws.length
  · rw [List.getElem?_append_left (by simpa using hi), List.getElem?_map] at e
    cases q : ws[i]? with
    | none => rw [q] at e; cases e
    | some w' =>
      rw [q] at e
      cases e
      obtain ⟨x, h1, h2⟩ := r.get q
      refine ⟨x, ?_, h2⟩
      unfold L2.start
      rw [List.getElem?_append_left (by simp; omega), List.getElem?_map, h1]
      rfl
  · rw [List.getElem?_append_right (by simpa using hi), List.getElem?_replicate] at e
    split at e <;> cases e
section
variable {P : Program} {w : World} {K : PySem.W.Frag} {mg : Str → Option Value} {base : Heap}
/-- an exception that leaves a def's body -/
theorem raised_out {N : List Str} {qual : Str} {scope : Scope} {f : Addr} {cdv : Value} {A : Around} {outer : List Env} {s s' : Shared} {H H' : Hp} {E : XK} {σ : St} {c : PySem.Str} {e : Value}
    (r : Raised (cxOf (CXJ P w) P w K mg base N qual scope f cdv A outer s H E) σ H' c e s') (h : ∀ C, ClsAt K c C → E (.ref C) none H') : (cxOf (CXJ P w) P w K mg base N qual scope f cdv A outer s H E).xe e s' := by
  obtain ⟨C, pins, Hc, sc, hC, I, r⟩ := r
  rcases r with fl | ⟨rfl, a, args, rfl, ho, hg, M⟩
  · exact leave_flown (X := cxOf (CXJ P w) P w K mg base N qual scope f cdv A outer s H E) rfl rfl rfl I fl fun s2 fl2 => ⟨H', C, fl2, h C hC⟩
  · exact leave_made (X := cxOf (CXJ P w) P w K mg base N qual scope f cdv A outer s H E) rfl rfl rfl I ho hg M fun s2 fl2 => ⟨H', C, fl2, h C hC⟩
theorem fn_ok {x qual : Str} {st : Stmt} {f : Addr} {fd : FuncData} {N ps : List Str} {k : Nat} {g : GS} (F : Fun K x qual st f fd) (S : FnScope N ps (defScope st))
    (body : ∀ (cdv : Value) (A : Around) (outer : List Env) (s : Shared) (H : Hp) (E : XK), Room k (A.deeper (envOfC qual (defScope st) s.heap.objs.size f cdv)) → JSs (cxOf (CXJ P w) P w K mg base N qual (defScope st) f cdv A outer s H E) (defBody st) g) :
    FnOk P w K mg base (CXJ P w) (k + 1) f fd ps (spW K ps.length (fnF N.length g)) := by
  have hpl : ps.length ≤ N.length := by have := congrArg List.length S.pre; rw [List.length_take] at this; omega
  obtain ⟨oc, od, kV, doc, pm, an, cdv, ct, osl, rfl, lk, hcd⟩ := F.ex
  refine fn_of lk hcd S (fun vs H Q E h => ?_) fun A outer s H vs Q E hr h => ?_
  · obtain ⟨m, st', ws, _, r, hl, _⟩ := h
    rw [← r.length]; exact hl
  · obtain ⟨m, st', ws, S', r, hl, p⟩ := h
    refine ⟨_, pss_SSs, ?_⟩
    refine body cdv A outer s H E hr _ st' _ H m _ S' (startRel r (by omega)) ?_
    unfold fnF at p
    cases e : g (ws.map some ++ List.replicate (N.length - ws.length) none) st' with
    | nx ρ st2 => rw [e] at p; exact fun σ m' H' e' S2 R2 => p _ m' H' e' S2 (by unfold RelW; rfl)
    | rt w' st2 => rw [e] at p; exact p
    | bk ρ st2 => rw [e] at p; exact False.elim p
    | ct ρ st2 => rw [e] at p; exact False.elim p
    | err c ρ st2 => rw [e] at p; exact fun σ m' H' x s' e' S2 R2 rz => raised_out rz fun C hC => p m' H' C e' S2 hC
    | bad => rw [e] at p; exact False.elim p
end
/-- the law: from its function's answer True at every script -/
theorem law_sp {K : PySem.W.Frag} {F : List Wv → Hs → Re Wv} (h : ∀ ns : List Int, ns.length ≤ 63 → ∃ st, F [.ref 0] [.scr ns] = .ok (.bl true) st) (H : Hp) (a : Addr) (ns : List Int) (hl : ns.length ≤ 63) (hO : Only H) (hS : SqL K H a (ns.map V.int)) :
    spW K 1 F [.ref a] H (fun v _ => v = .bl true) fun _ _ _ => False := by
  obtain ⟨st, e⟩ := h ns hl
  refine ⟨[a], [.scr ns], [.ref 0], ⟨rfl, fun l b o h1 h2 => ?_, fun l l' b ws ws' _ _ h2 _ => ?_⟩, RelWs.cons (by unfold RelW; exact ⟨a, rfl, rfl⟩) RelWs.nil, rfl, ?_⟩
  · cases l with
    | zero =>
      simp at h1 h2
      subst h1 h2
      show ScrOk K H a ns
      rcases hS with (q | ⟨o', q⟩) | q
      · rcases hO a with z | ⟨o', xs, z⟩
        · rw [z] at q; cases q
        · rw [z] at q; cases q
      · exact .inl ⟨o', q⟩
      · exact .inr q
    | succ l => simp at h1
  · cases l with
    | zero => simp at h2
    | succ l => simp at h2
  · rw [e]
    intro v m' H' _ _ r
    unfold RelW at r
    exact r
end J

set_option Elab.async false
set_option linter.all false
set_option maxRecDepth 100000
set_option maxHeartbeats 4000000
namespace J
open PySem PySem.Spec PyProof.Rows L2

/-! ### a value's truth -/
def truW (w : Wv) (st : Hs) : Re Bool := match w with
  | .non => .ok false st
  | .bl b => .ok b st
  | .int i => .ok (i != 0) st
  | .str y => if y.length ≤ lim then .ok ((y.length : Int) != 0) st else .bad
  | .tup ws => .ok (!ws.isEmpty) st
  | .ref l => match lstOf st l with
    | some ws => .ok (!ws.isEmpty) st
    | none => .bad
  | .ty _ => .bad
  | .cls _ => .bad
  | .exn _ => .bad
def gTru (g : GE) : GT := fun ρ st => (g ρ st).bind truW
section
variable {X : Cx}
theorem isE {m : Mp} {H : Hp} {ws : List Wv} {xs : List V} (r : RelWs X.K m H ws xs) : (!ws.isEmpty) = !xs.isEmpty := by
  have h := r.length
  cases ws <;> cases xs <;> simp_all
theorem jt_tru {e : Expr} {g : GE} (h : JE X e g) (he : ∀ whole, isTrue e X.env whole = (do let v ← whole; standAt e.pos; holding [v] (truthy v))) : JT X e (gTru g) :=
  JT.of (pt_truth pe_SE he) fun ρ st σ H m Q S R p => h.go S R (PostG.bind p) fun w st1 v m1 H1 p1 e1 S1 r1 => by
    cases w with
    | non => unfold RelW at r1; subst r1; exact ⟨false, rfl, p1 m1 H1 e1 S1⟩
    | bl b => unfold RelW at r1; subst r1; exact ⟨b, rfl, p1 m1 H1 e1 S1⟩
    | int i => unfold RelW at r1; subst r1; exact ⟨_, rfl, p1 m1 H1 e1 S1⟩
    | str y =>
      obtain ⟨rfl, _⟩ := relStr r1
      have p2 : PostT X σ m H (if y.length ≤ lim then .ok ((y.length : Int) != 0) st1 else .bad) Q := p1
      by_cases c : y.length ≤ lim
      · rw [if_pos c] at p2; exact ⟨_, ⟨lim_le c, rfl⟩, p2 m1 H1 e1 S1⟩
      · rw [if_neg c] at p2; exact False.elim p2
    | tup ws =>
      unfold RelW at r1
      obtain ⟨a, xs, rfl, h1, h2⟩ := r1
      refine ⟨!xs.isEmpty, .inr (.inl ⟨xs, h1, rfl⟩), ?_⟩
      rw [← isE h2]
      exact p1 m1 H1 e1 S1
    | ref l =>
      unfold RelW at r1
      obtain ⟨a, rfl, h1⟩ := r1
      have p2 : PostT X σ m H (match lstOf st1 l with | some ws => .ok (!ws.isEmpty) st1 | none => .bad) Q := p1
      cases el : lstOf st1 l with
      | none => rw [el] at p2; exact False.elim p2
      | some ws =>
        rw [el] at p2
        obtain ⟨xs, hq, h2⟩ := S1.read h1 el
        refine ⟨!xs.isEmpty, .inl ⟨xs, hq, rfl⟩, ?_⟩
        rw [← isE h2]
        exact p2 m1 H1 e1 S1
    | ty T => exact False.elim p1
    | cls T => exact False.elim p1
    | exn T => exact False.elim p1

/-! ### a text several times -/
theorem all_fold {p : Nat → Bool} {x : Array Nat} (hx : x.all p = true) : ∀ (n : Nat) (a : Array Nat), a.all p = true → ((List.replicate n x).foldl (· ++ ·) a).all p = true
  | 0, a, h => h
  | n + 1, a, h => by
    rw [List.replicate_succ, List.foldl_cons]
    refine all_fold hx n _ ?_
    rw [Array.all_append, h, hx]
    rfl
theorem strOk_rep {x : PySem.Str} {n : Nat} (h : PyData.strOk x = true) : PyData.strOk (repS n x) = true := by
  unfold PyData.strOk at h ⊢
  unfold repS
  exact all_fold h n #[] (by simp)
theorem size_fold {x : Array Nat} : ∀ (n : Nat) (a : Array Nat), ((List.replicate n x).foldl (· ++ ·) a).size = a.size + x.size * n
  | 0, a => by simp
  | n + 1, a => by
    rw [List.replicate_succ, List.foldl_cons, size_fold n, Array.size_append, Nat.mul_succ]
    omega
theorem len_repS {x : PySem.Str} {n : Nat} : (repS n x).length = x.length * n := by
  show ((List.replicate n x.cps).foldl (· ++ ·) #[]).size = x.cps.size * n
  rw [size_fold]
  simp
def CMulS (x : PySem.Str) (n : Int) : Prop := 1 < n ∧ n ≤ 100000 ∧ x.length ≠ 0 ∧ x.length * n.toNat ≤ lim
instance {x n} : Decidable (CMulS x n) := by unfold CMulS; infer_instance
theorem op_mulS : OpR X (binaryOp .Mult) (fun x y H Q => ∃ z n, x = .str z ∧ y = .int n ∧ CMulS z n ∧ Q (.str (repS n.toNat z)) H) := by
  intro pins s σ H x y v u Q I rx ry h
  obtain ⟨z, n, rfl, rfl, ⟨h1, h2, h3, h4⟩, q⟩ := h
  obtain ⟨t, rfl⟩ := rx
  obtain ⟨t', rfl⟩ := ry
  have n1 : ¬ n < 1 := by omega
  have hlen : z.length ≤ lim := by
    refine Nat.le_trans ?_ h4
    exact Nat.le_mul_of_pos_right _ (by omega)
  have hne : (n == 1 || z.length == 0) = false := by
    have e1 : (n == 1) = false := by rw [beq_eq_false_iff_ne]; omega
    have e2 : (z.length == 0) = false := by rw [beq_eq_false_iff_ne]; exact h3
    rw [e1, e2]; rfl
  have hl : PySem.Builtin.Str.tooLong (z.length * n.toNat) = false := by
    unfold PySem.Builtin.Str.tooLong
    have q := lim_le h4
    first
      | exact decide_eq_false (by omega)
      | simp only [decide_eq_false_iff_not]; omega
  refine PySem.P.mul_str (by
      have e1 : ¬ n < -(2 ^ 63 : Int) := by omega
      have e2 : ¬ n ≥ 2 ^ 63 := by omega
      rw [decide_eq_false e1, decide_eq_false e2]; rfl) (fun _ _ => ?_) (fun _ _ => hl) ?_
  · have e : ((2 : Int) ^ 63 - 1) / 100000 ≤ (2 ^ 63 - 1) / n := by
      refine Int.le_ediv_of_mul_le (by omega) ?_
      have : ((2 : Int) ^ 63 - 1) / 100000 * n ≤ ((2 : Int) ^ 63 - 1) / 100000 * 100000 := Int.mul_le_mul_of_nonneg_left h2 (by decide)
      exact Int.le_trans this (by decide)
    have e' : (1000000 : Int) ≤ (2 ^ 63 - 1) / 100000 := by decide
    unfold lim at hlen
    omega
  · rw [if_neg n1, if_neg (by rw [hne]; exact Bool.false_ne_true)]
    exact ⟨by show (repS n.toNat z).length ≤ _; rw [len_repS]; exact lim_le h4, .str (repS n.toNat z), H, I.tok _, ⟨_, rfl⟩, q⟩
def oMulS : Op2
  | .int i, .int j, st => if IntMulOk i j then .ok (.int (i * j)) st else .bad
  | .str z, .int n, st => if CMulS z n then .ok (.str (repS n.toNat z)) st else .bad
  | _, _, _ => .bad
theorem ow_mulS : OpW X (binaryOp .Mult) oMulS := ⟨_, OpR.or op_mulG op_mulS, fun x y a b st H m Q S rx ry p => by
  cases x with
  | int i =>
    cases y with
    | int j =>
      cases relInt rx; cases relInt ry
      have p' : PostO X.K m H (if IntMulOk i j then .ok (.int (i * j)) st else .bad) Q := p
      by_cases c : IntMulOk i j
      · rw [if_pos c] at p'; exact .inl ⟨i, j, rfl, rfl, c, p' _ m H Ext.refl S mkInt⟩
      · rw [if_neg c] at p'; exact False.elim p'
    | _ => exact False.elim p
  | str z =>
    cases y with
    | int n =>
      obtain ⟨rfl, hz⟩ := relStr rx
      cases relInt ry
      have p' : PostO X.K m H (if CMulS z n then .ok (.str (repS n.toNat z)) st else .bad) Q := p
      by_cases c : CMulS z n
      · rw [if_pos c] at p'; exact .inr ⟨z, n, rfl, rfl, c, p' _ m H Ext.refl S (mkStr (strOk_rep hz))⟩
      · rw [if_neg c] at p'; exact False.elim p'
    | _ => exact False.elim p
  | _ => exact False.elim p⟩

/-! ### what is not read -/
def gBad : GE := fun _ _ => .bad
def gBadT : GT := fun _ _ => .bad
theorem je_bad {e : Expr} : JE X e gBad := fun ρ st σ H m Q S R p => False.elim p
theorem jt_bad {e : Expr} : JT X e gBadT := fun ρ st σ H m Q S R p => False.elim p
def gBadA : GA := fun _ _ => .bad
theorem ja_bad {es : List Expr} : JA X es gBadA := fun ρ st σ H m Q S R p => False.elim p
def gBadO : GO := fun _ _ => .bad
theorem jo_bad {e : Option Expr} : JO X e gBadO := fun ρ st σ H m Q S R p => False.elim p
end

/-! ### the defs of the top -/
def Has (P : Program) (w : World) (K : PySem.W.Frag) (mg : Str → Option Value) (base : Heap) (k : Nat) (x : Str) (n : Nat) (F : List Wv → Hs → Re Wv) : Prop :=
  ∃ f fd ps, FnOk P w K mg base (CXJ P w) k f fd ps (spW K n F) ∧ mg x = some (.ref f) ∧ PySem.W.keepIn K (.ref f) = true ∧ Binds K fd ps []
theorem Has.mono {P : Program} {w : World} {K : PySem.W.Frag} {mg : Str → Option Value} {base : Heap} {j k : Nat} {x : Str} {n : Nat} {F : List Wv → Hs → Re Wv} (h : Has P w K mg base j x n F) (l : j ≤ k) : Has P w K mg base k x n F := by
  obtain ⟨f, fd, ps, G, r⟩ := h
  exact ⟨f, fd, ps, G.mono l, r⟩
/-- a def as it stands behind the top -/
def DefAt (K : PySem.W.Frag) (x : Str) (st : Stmt) : Prop := ∃ f fd, PySem.W.nsIn K mainGlobals x = some (some (.ref f)) ∧ Fun K x x st f fd
theorem def_at {K : PySem.W.Frag} {x : Str} {st : Stmt} {f : Addr} {oc : Value} {od an : Option Addr} {osl : Array (Option Value)} {kV doc pm cdv ct : Value} (a : PySem.W.nsIn K mainGlobals x = some (some (.ref f)))
    (l : K.lookup f = some ⟨oc, od, .func (PySem.W.fnOf x x (defArgs st) (defBody st) (defScope st) .none kV doc pm an cdv ct), osl⟩) (c : PySem.W.codeIn K cdv x = true) (k : PySem.W.keepIn K (.ref f) = true) : DefAt K x st := ⟨f, _, a, fun_mk l c k⟩
theorem boot_isI : bootBuiltins "isinstance" = some (.builtin "isinstance") := by decide +kernel
theorem boot_absJ : bootBuiltins "abs" = some (.builtin "abs") := by decide +kernel
theorem boot_lenJ : bootBuiltins "len" = some (.builtin "len") := by decide +kernel
theorem boot_tyI : bootBuiltins "int" = some (.type "int") := by decide +kernel
theorem boot_tyS : bootBuiltins "str" = some (.type "str") := by decide +kernel
theorem boot_tyB : bootBuiltins "bool" = some (.type "bool") := by decide +kernel
theorem boot_tyT : bootBuiltins "tuple" = some (.type "tuple") := by decide +kernel
theorem boot_tyL : bootBuiltins "list" = some (.type "list") := by decide +kernel
end J

set_option Elab.async false
set_option linter.all false
set_option maxRecDepth 100000
set_option maxHeartbeats 4000000
namespace J
open PySem PySem.Spec PyProof.Rows L2

/-! ### for over what does not change: a tuple, a range -/
def forT (i : Nat) (gb : GS) : List Wv → Rho → Hs → Rs
  | [], ρ, st => .nx ρ st
  | w :: r, ρ, st => match gb (ρ.set i (some w)) st with
    | .nx ρ' st' => forT i gb r ρ' st'
    | .ct ρ' st' => forT i gb r ρ' st'
    | .bk ρ' st' => .nx ρ' st'
    | .rt w st' => .rt w st'
    | .err c ρ' st' => .err c ρ' st'
    | .bad => .bad
section
variable {X : Cx}
theorem for_core (i : Nat) {body : List Stmt} {gb : GS} (hb : JSs X body gb) {J' : It} {ws : List Wv} {m1 : Mp} {H1 : Hp} {st1 : Hs} {ρ : Rho} {σ : St} {D : Ends} (S1 : Sim X.K m1 st1 H1) (R : RelEnv X.K m1 H1 ρ σ) (p1 : PostS X m1 H1 (forT i gb ws ρ st1) D)
    (hgo : ∀ (k : Nat) (H : Hp) (m' : Mp), Ext X.K m1 H1 m' H → k < ws.length → J'.go k H) (hstop : ∀ (k : Nat) (H : Hp) (m' : Mp), Ext X.K m1 H1 m' H → k = ws.length → J'.stop k H)
    (hy : ∀ (k : Nat) (hk : k < ws.length) (H : Hp) (x : V) (H' : Hp) (m' : Mp), Ext X.K m1 H1 m' H → J'.yld k H x H' → H' = H ∧ RelW X.K m' H ws[k] x) :
    ∃ W : Nat → Nat → St → Hp → Prop, (∃ m, W 0 m σ H1) ∧ ∀ k n σ H, W k n σ H →
      (J'.stop k H ∧ D.nx σ H) ∨ (J'.go k H ∧ ∃ N : St → Hp → Prop, (∀ σ' H', N σ' H' → ∃ m', m' < n ∧ W (k + 1) m' σ' H') ∧ ∀ x H', J'.yld k H x H' → gName i x σ H' fun σ2 H2 => SSs X body { D with nx := N, ct := N, bk := D.nx } σ2 H2) := by
  let Pv : Nat → St → Hp → Prop := fun k σ H => ∃ ρ st m', Ext X.K m1 H1 m' H ∧ Sim X.K m' st H ∧ RelEnv X.K m' H ρ σ ∧ PostS X m' H (forT i gb (ws.drop k) ρ st) D
  refine ⟨fun k n σ H => n = ws.length - k ∧ k ≤ ws.length ∧ Pv k σ H, ⟨ws.length, by simp, Nat.zero_le _, ρ, st1, m1, Ext.refl, S1, R, p1⟩, ?_⟩
  rintro k n σ2 H2 ⟨rfl, hk, ρ2, st2, m2, e2, S2, R2, p2⟩
  by_cases hlt : k < ws.length
  · refine .inr ⟨hgo k H2 m2 e2 hlt, Pv (k + 1), fun σ' H' p' => ⟨ws.length - (k + 1), by omega, rfl, hlt, p'⟩, fun x H' y => ?_⟩
    obtain ⟨ee, rx'⟩ := hy k hlt H2 x H' m2 e2 y
    subst ee
    have ed : ws.drop k = ws[k] :: ws.drop (k + 1) := List.drop_eq_getElem_cons hlt
    rw [ed] at p2
    refine hb _ st2 _ _ m2 _ S2 (R2.set i rx') ?_
    unfold forT at p2
    cases eg : gb (ρ2.set i (some ws[k])) st2 with
    | nx ρ3 st3 => rw [eg] at p2; exact fun σ3 m3 H3 e3 S3 R3 => ⟨ρ3, st3, m3, e2.trans e3, S3, R3, PostS.shift p2 e3⟩
    | ct ρ3 st3 => rw [eg] at p2; exact fun σ3 m3 H3 e3 S3 R3 => ⟨ρ3, st3, m3, e2.trans e3, S3, R3, PostS.shift p2 e3⟩
    | bk ρ3 st3 => rw [eg] at p2; exact p2
    | rt w3 st3 => rw [eg] at p2; exact p2
    | err c3 ρ3 st3 => rw [eg] at p2; exact p2
    | bad => rw [eg] at p2; exact p2
  · have e : k = ws.length := by omega
    subst e
    rw [List.drop_length] at p2
    exact .inl ⟨hstop _ H2 m2 e2 rfl, p2 σ2 m2 H2 Ext.refl S2 R2⟩

/-- a list or a tuple -/
def iSeq (K : PySem.W.Frag) (tl : TE) : TI := fun σ H R => tl σ H fun x H1 => ∃ a, x = .ref a ∧ (((∃ xs, SqL K H1 a xs) ∧ R (Itl K a) H1) ∨ ((∃ xs, SqT K H1 a xs) ∧ R (Itt K a) H1))
theorem pi_seq {tg l : Expr} {tl : TE} (hl : PE X l tl) : PI X tg l (iSeq X.K tl) := by
  intro pins s σ H R I h
  refine thn (hl pins s σ H _ I h) fun v s1 ⟨x, H1, I1, r1, q1⟩ => ?_
  obtain ⟨a, e, q1⟩ := q1
  subst e
  cases r1
  have frs : ∀ b ∈ [s1.heap.objs.size], FpOk X pins H1 b := fun b hb => by
    have e : b = s1.heap.objs.size := by simpa using hb
    subst e
    exact I1.fpOk (Nat.le_refl _) (I1.hok.fresh (Nat.le_refl _))
  rcases q1 with ⟨⟨xs, hq⟩, q⟩ | ⟨⟨xs, hq⟩, q⟩
  · obtain ⟨its, rv, p, hz⟩ := I1.list hq
    refine wpAny_pyIter_list p.isList ?_
    exact ⟨s1.heap.objs.size, [s1.heap.objs.size], _, _, H1, rfl, I1.kept (t' := s1.toks) fun b o e => Heap.get?_push_of_some _ e, turn_list a _, ⟨_, Heap.get?_push_size _ rfl, rfl, rfl⟩, frs, q⟩
  · obtain ⟨its, rv, p, hz⟩ := I1.tuple hq
    refine wpAny_pyIter_tuple (show s1.heap.IsTuple a its.toArray from p) ?_
    exact ⟨s1.heap.objs.size, [s1.heap.objs.size], _, _, H1, rfl, I1.kept (t' := s1.toks) fun b o e => Heap.get?_push_of_some _ e, turn_tuple a _, ⟨_, Heap.get?_push_size _ rfl, rfl, rfl⟩, frs, q⟩
noncomputable def gFor (i : Nat) (gi : GE) (gb : GS) : GS := fun ρ st => (gi ρ st).thn ρ fun w st1 => match w with
  | .ref l => (match lstOf st1 l with | some ws => forL i gb l ws ws ρ st1 | none => .bad)
  | .tup ws => forT i gb ws ρ st1
  | _ => .bad
theorem js_for (i : Nat) {x : Str} {iter : Expr} {body : List Stmt} {gi : GE} {gb : GS} {pos pos' : Pos} (hN : X.N.Nodup) (hp : PassesOwn (model X.prog X.w) X.A X.env X.xe) (hc : X.calm = true) (hi : JE X iter gi) (hb : JSs X body gb)
    (hx : X.N[i]? = some x) (hlo : Loc X.env.scope x) (hlf : X.fn x = true ∨ X.env.scope.names.lookup x = some .local)
    (hs : ∀ x, foldedSetIterable iter X.env x = pure x) : JS X (.For (.Name x pos') iter body [] pos) (gFor i gi gb) := by
  refine JS.of (ps_for hp hc (pi_seq pe_SE) (pg_name hN hx hlo hlf) pss_SSs hs) fun ρ st σ H m D S R p => ?_
  refine hi.go S R (PostS.of_thn R p) fun w st1 v m1 H1 p1 e1 S1 rw' => ?_
  cases w with
  | ref l =>
    have p1' : PostS X m H (match lstOf st1 l with | some ws => forL i gb l ws ws ρ st1 | none => .bad) D := p1
    unfold RelW at rw'
    obtain ⟨a, rfl, hla⟩ := rw'
    cases el : lstOf st1 l with
    | none => rw [el] at p1'; exact False.elim p1'
    | some ws =>
      rw [el] at p1'
      obtain ⟨xs0, q0, _⟩ := S1.read hla el
      refine ⟨a, rfl, .inl ⟨⟨xs0, q0⟩, ?_⟩⟩
      let Pv : Nat → St → Hp → Prop := fun k σ H => ∃ ρ st m', Ext X.K m1 H1 m' H ∧ Sim X.K m' st H ∧ RelEnv X.K m' H ρ σ ∧ lstOf st l = some ws ∧ PostS X m' H (forL i gb l ws (ws.drop k) ρ st) D
      refine ⟨fun k n σ H => n = ws.length - k ∧ k ≤ ws.length ∧ Pv k σ H, ⟨ws.length, by simp, Nat.zero_le _, ρ, st1, m1, Ext.refl, S1, R.mono e1, el, PostS.shift p1' e1⟩, ?_⟩
      rintro k n σ2 H2 ⟨rfl, hk, ρ2, st2, m2, e2, S2, R2, l2, p2⟩
      obtain ⟨xs, hq, rws⟩ := S2.read (e2.pre _ _ hla) l2
      have hlen := rws.length
      by_cases hlt : k < ws.length
      · have hx' : k < xs.length := by omega
        refine .inr ⟨⟨xs, xs[k], hq, by simp [hx']⟩, Pv (k + 1), fun σ' H' p' => ⟨ws.length - (k + 1), by omega, rfl, hlt, p'⟩, fun x H' y => ?_⟩
        obtain ⟨ee, y⟩ := y
        subst ee
        have ey := y xs hq
        have ed : ws.drop k = ws[k] :: ws.drop (k + 1) := List.drop_eq_getElem_cons hlt
        obtain ⟨x', ex', rx'⟩ := rws.get (i := k) (w := ws[k]) (List.getElem?_eq_getElem hlt)
        rw [ey] at ex'
        cases ex'
        rw [ed] at p2
        refine hb _ st2 _ _ m2 _ S2 (R2.set i rx') ?_
        unfold forL at p2
        cases eg : gb (ρ2.set i (some ws[k])) st2 with
        | nx ρ3 st3 =>
          rw [eg] at p2
          by_cases c : lstOf st3 l = some ws
          · simp only [if_pos c] at p2
            exact fun σ3 m3 H3 e3 S3 R3 => ⟨ρ3, st3, m3, e2.trans e3, S3, R3, c, PostS.shift p2 e3⟩
          · simp only [if_neg c] at p2; exact False.elim p2
        | ct ρ3 st3 =>
          rw [eg] at p2
          by_cases c : lstOf st3 l = some ws
          · simp only [if_pos c] at p2
            exact fun σ3 m3 H3 e3 S3 R3 => ⟨ρ3, st3, m3, e2.trans e3, S3, R3, c, PostS.shift p2 e3⟩
          · simp only [if_neg c] at p2; exact False.elim p2
        | bk ρ3 st3 => rw [eg] at p2; exact p2
        | rt w3 st3 => rw [eg] at p2; exact p2
        | err c3 ρ3 st3 => rw [eg] at p2; exact p2
        | bad => rw [eg] at p2; exact p2
      · have e : k = ws.length := by omega
        subst e
        rw [List.drop_length] at p2
        exact .inl ⟨⟨xs, hq, by omega⟩, p2 σ2 m2 H2 Ext.refl S2 R2⟩
  | tup ws =>
    unfold RelW at rw'
    obtain ⟨a, xs, rfl, hq, rws⟩ := rw'
    have hlen := rws.length
    refine ⟨a, rfl, .inr ⟨⟨xs, hq⟩, ?_⟩⟩
    refine for_core i hb (ws := ws) S1 (R.mono e1) (PostS.shift p1 e1) (fun k H m' e hk => ?_) (fun k H m' e hk => ?_) fun k hk H x H' m' e y => ?_
    · have hx' : k < xs.length := by omega
      exact ⟨xs, xs[k], e.tup _ _ hq, by simp [hx']⟩
    · exact ⟨xs, e.tup _ _ hq, by omega⟩
    · obtain ⟨ee, y⟩ := y
      refine ⟨ee, ?_⟩
      obtain ⟨x', ex', rx'⟩ := (RelWs.mono e _ _ rws).get (i := k) (w := ws[k]) (List.getElem?_eq_getElem hk)
      rw [y xs (e.tup _ _ hq)] at ex'
      cases ex'
      exact rx'
  | _ => exact False.elim p1

/-! ### for over a range -/
def rngW (lo : Int) (n : Nat) : List Wv := (List.range n).map fun k : Nat => Wv.int (lo + k)
theorem rngW_get? {lo : Int} {n k : Nat} (h : k < n) : (rngW lo n)[k]? = some (.int (lo + k)) := by
  unfold rngW
  rw [List.getElem?_map, List.getElem?_range h]
  rfl
theorem rngW_get {lo : Int} {n k : Nat} (h : k < (rngW lo n).length) : (rngW lo n)[k] = .int (lo + k) := by
  have q := rngW_get? (lo := lo) (n := n) (k := k) (by unfold rngW at h; simpa using h)
  rw [List.getElem?_eq_getElem h] at q
  exact Option.some.inj q
theorem rngW_len {lo : Int} {n : Nat} : (rngW lo n).length = n := by unfold rngW; simp
def CRng (i : Int) : Prop := -(2 ^ 62) ≤ i ∧ i < 2 ^ 62
noncomputable instance {i} : Decidable (CRng i) := Classical.propDecidable _
noncomputable def gForR1 (i : Nat) (ga : GA) (gb : GS) : GS := fun ρ st => (ga ρ st).thn ρ fun ws st1 => match ws with
  | [.int j] => if CRng j then forT i gb (rngW 0 j.toNat) ρ st1 else .bad
  | _ => .bad
noncomputable def gForR2 (i : Nat) (ga : GA) (gb : GS) : GS := fun ρ st => (ga ρ st).thn ρ fun ws st1 => match ws with
  | [.int a, .int j] => if CRng a ∧ CRng j then forT i gb (rngW a (j - a).toNat) ρ st1 else .bad
  | _ => .bad
theorem for_rng (i : Nat) {body : List Stmt} {gb : GS} (hb : JSs X body gb) {lo : Int} {n : Nat} {m1 : Mp} {H1 : Hp} {st1 : Hs} {ρ : Rho} {σ : St} {D : Ends} (S1 : Sim X.K m1 st1 H1) (R : RelEnv X.K m1 H1 ρ σ) (p1 : PostS X m1 H1 (forT i gb (rngW lo n) ρ st1) D) :
    ∃ W : Nat → Nat → St → Hp → Prop, (∃ m, W 0 m σ H1) ∧ ∀ k n' σ H, W k n' σ H →
      ((Itr lo n).stop k H ∧ D.nx σ H) ∨ ((Itr lo n).go k H ∧ ∃ N : St → Hp → Prop, (∀ σ' H', N σ' H' → ∃ m', m' < n' ∧ W (k + 1) m' σ' H') ∧ ∀ x H', (Itr lo n).yld k H x H' → gName i x σ H' fun σ2 H2 => SSs X body { D with nx := N, ct := N, bk := D.nx } σ2 H2) :=
  for_core i hb S1 R p1 (fun k H m' e hk => by rw [rngW_len] at hk; exact hk) (fun k H m' e hk => by rw [rngW_len] at hk; exact Nat.le_of_eq hk.symm) fun k hk H x H' m' e y => by
    obtain ⟨y1, y2⟩ := y
    refine ⟨y1, ?_⟩
    rw [rngW_get, y2]
    exact mkInt
theorem js_forR1 (i : Nat) {x : Str} {a : Expr} {body : List Stmt} {ga : GA} {gb : GS} {pos pos' p q : Pos} (hN : X.N.Nodup) (hp : PassesOwn (model X.prog X.w) X.A X.env X.xe) (hc : X.calm = true) (hg : Gl X "range") (hm : X.mg "range" = none) (ha : JA X [a] ga) (hb : JSs X body gb)
    (hx : X.N[i]? = some x) (hlo : Loc X.env.scope x) (hlf : X.fn x = true ∨ X.env.scope.names.lookup x = some .local) (hst : starEach [a] X.env = [(false, eval a X.env)]) : JS X (.For (.Name x pos') (.Call (.Name "range" p) [a] [] q) body [] pos) (gForR1 i ga gb) := by
  refine JS.of (ps_for hp hc (pi_range1 hg hm pa_SA hst) (pg_name hN hx hlo hlf) pss_SSs (fun _ => rfl)) fun ρ st σ H m D S R p => ?_
  refine ha.go S R (PostS.of_thn R p) fun ws st1 vs m1 H1 p1 e1 S1 rs => ?_
  match ws, rs, p1 with
  | [], rs, p1 => exact False.elim p1
  | x :: y :: t, rs, p1 => cases x <;> exact False.elim p1
  | [x], rs, p1 =>
    obtain ⟨v, rfl, r1⟩ := rel1 rs
    cases x with
    | int j =>
      cases relInt r1
      have p2 : PostS X m H (if CRng j then forT i gb (rngW 0 j.toNat) ρ st1 else .bad) D := p1
      by_cases c : CRng j
      · rw [if_pos c] at p2
        exact ⟨j, rfl, c.1, c.2, for_rng i hb S1 (R.mono e1) (PostS.shift p2 e1)⟩
      · rw [if_neg c] at p2; exact False.elim p2
    | _ => exact False.elim p1
theorem js_forR2 (i : Nat) {x : Str} {a b : Expr} {body : List Stmt} {ga : GA} {gb : GS} {pos pos' p q : Pos} (hN : X.N.Nodup) (hp : PassesOwn (model X.prog X.w) X.A X.env X.xe) (hc : X.calm = true) (hg : Gl X "range") (hm : X.mg "range" = none) (ha : JA X [a, b] ga) (hb : JSs X body gb)
    (hx : X.N[i]? = some x) (hlo : Loc X.env.scope x) (hlf : X.fn x = true ∨ X.env.scope.names.lookup x = some .local) (hst : starEach [a, b] X.env = [(false, eval a X.env), (false, eval b X.env)]) (hst2 : starEach [b] X.env = [(false, eval b X.env)]) : JS X (.For (.Name x pos') (.Call (.Name "range" p) [a, b] [] q) body [] pos) (gForR2 i ga gb) := by
  refine JS.of (ps_for hp hc (pi_range2 hg hm pa_SA hst hst2) (pg_name hN hx hlo hlf) pss_SSs (fun _ => rfl)) fun ρ st σ H m D S R p => ?_
  refine ha.go S R (PostS.of_thn R p) fun ws st1 vs m1 H1 p1 e1 S1 rs => ?_
  match ws, rs, p1 with
  | [], rs, p1 => exact False.elim p1
  | [x], rs, p1 => cases x <;> exact False.elim p1
  | x :: y :: z :: t, rs, p1 => cases x <;> cases y <;> exact False.elim p1
  | [x, y], rs, p1 =>
    obtain ⟨v, v', rfl, r1, r2⟩ := rel2 rs
    cases x with
    | int a =>
      cases y with
      | int j =>
        cases relInt r1; cases relInt r2
        have p2 : PostS X m H (if CRng a ∧ CRng j then forT i gb (rngW a (j - a).toNat) ρ st1 else .bad) D := p1
        by_cases c : CRng a ∧ CRng j
        · rw [if_pos c] at p2
          exact ⟨a, j, rfl, ⟨c.1.1, c.1.2, c.2.1, c.2.2⟩, for_rng i hb S1 (R.mono e1) (PostS.shift p2 e1)⟩
        · rw [if_neg c] at p2; exact False.elim p2
      | _ => exact False.elim p1
    | _ => cases y <;> exact False.elim p1
/-! ### small statements -/
theorem js_retN {pos : Pos} : JS X (.Return none pos) (gRet (gC .non)) := JS.of ps_retN fun ρ st σ H m D S R p => p .non m H Ext.refl S mkNon
def gBrk : GS := fun ρ st => .bk ρ st
def gCnt : GS := fun ρ st => .ct ρ st
theorem js_brk {pos : Pos} : JS X (.Break pos) gBrk := JS.of ps_break fun ρ st σ H m D S R p => p σ m H Ext.refl S R
theorem js_cnt {pos : Pos} : JS X (.Continue pos) gCnt := JS.of ps_continue fun ρ st σ H m D S R p => p σ m H Ext.refl S R
end
end J

set_option Elab.async false
set_option linter.all false
set_option maxRecDepth 100000
set_option maxHeartbeats 4000000
namespace J
open PySem PySem.Spec PyProof.Rows L2

/-! ### classes of refusals: under ValueError, without an __init__ of their own -/
abbrev bmV : List Value := [.type "ValueError", .type "Exception", .type "BaseException", .type "object"]
abbrev nwV : String := "ValueError.__new__"
/-- the class c as the written part tells it -/
structure ExcC (K : PySem.W.Frag) (c : PySem.Str) (C : Addr) : Prop where
  cls : ClsAt K c C
  exc : PySem.W.excIn K C bmV nwV = true
theorem exc_obj {K : PySem.W.Frag} {h : Heap} {C : Addr} (KX : K.In h) (q : PySem.W.excIn K C bmV nwV = true) :
    ∃ (bm : List Value) (N : Addr) (nm qn : Str) (bs : List Value) (hd : Bool) (sn : List Str) (sub : List Value) (ab : Bool) (col : Option Bool) (dd : Option Addr) (k0 k1 k2 k3 k5 : Option Value) (mN : Str → Option Value),
      h.get? C = some (excClassObj nm qn C N bs bm hd sn sub ab col dd k0 k1 k2 k3 k5 nwV) ∧ h.Ns N mN ∧ mN "__init__" = none ∧ OwnTail h bmV bm ∧ (∀ v r, PySem.W.mroIn K C v = some r → (Value.ref C :: bm).contains v = r) := by
  unfold PySem.W.excIn at q
  split at q
  · rename_i dd cd sl lk
    split at q
    · rename_i C1 bm k0 k1 k2 k3 n1 k5 em es
      simp only [Bool.and_eq_true, beq_iff_eq, Bool.not_eq_true'] at q
      obtain ⟨⟨⟨⟨⟨q1, q2⟩, q3⟩, q4⟩, q5⟩, q6⟩ := q
      subst q1 q2
      obtain ⟨nm, bs, mro, N, qn, hd, sn, sub, ab, col, del⟩ := cd
      dsimp only at em q3 q5 q6
      subst em q3
      have esl : sl = #[k0, k1, k2, k3, some (.builtin nwV), k5] := by
        cases sl with
        | mk l => exact congrArg Array.mk es
      subst esl
      refine ⟨bm, N, nm, qn, bs, hd, sn, sub, ab, col, dd, k0, k1, k2, k3, k5, _, KX _ _ lk, .of_isNs (PySem.W.isNs_of_in KX q5), PySem.W.nsMap_none_of_in KX q5 q6, PySem.W.tail_of_in KX q4, fun v r e => ?_⟩
      unfold PySem.W.mroIn PySem.W.clsIn at e
      rw [lk] at e
      first
        | exact Option.some.inj e
        | (simp at e; exact e)
    · cases q
  · cases q
section
variable {X : Cx}
def gRaise (c : PySem.Str) (ga : GA) : GS := fun ρ st => (ga ρ st).thn ρ fun ws st1 => if ws.length ≤ lim then .err c ρ st1 else .bad
theorem js_raise {c : Str} {C : Addr} {e : Expr} {es : List Expr} {ga : GA} {np cpos pos : Pos} (hc : X.calm = true) (O : ExcC X.K c C) (hg : Gl X c) (hm : X.mg c = some (.ref C)) (ha : JA X (e :: es) ga) (hd : (c == ("__debug__" : Str)) = false)
    (he : starEach (e :: es) X.env = (false, eval e X.env) :: starEach es X.env) (hpl : (backTo cpos (starEach es X.env)).any (·.1) = false) : JS X (.Raise (some (.Call (.Name c np) (e :: es) [] cpos)) none pos) (gRaise c ga) := by
  intro ρ st σ H m D S R p pins s I
  have args := ha.go (T := fun vs H1 => ∃ ws st1 m1, PostS X m H (if ws.length ≤ lim then .err c ρ st1 else .bad) D ∧ Ext X.K m H m1 H1 ∧ Sim X.K m1 st1 H1 ∧ RelWs X.K m1 H1 ws vs) S R (PostS.of_thn R p)
    fun ws st1 vs m1 H1 p1 e1 S1 rs => ⟨ws, st1, m1, p1, e1, S1, rs⟩
  obtain ⟨bm, N, nm, qn, bs, hdd, sn, sub, ab, col, dd, k0, k1, k2, k3, k5, mN, hC, hN, hni, T, _⟩ := exc_obj I.ok.mod.kin O.exc
  refine wpAny_Raise_call_subU (C := C) (nm := nm) (q := qn) (N := N) (bs := bs) (bm := bm) (hdct := hdd) (sn := sn) (sub := sub) (ab := ab) (col := col) (dd := dd) (k0 := k0) (k1 := k1) (k2 := k2) (k3 := k3) (k5 := k5) (bmB := bmV)
    F.excBase_ValueError (by decide) F.excBase_ValueError (mN := mN) (T.hasType F.excBase_ValueError.hasBase) (I.ok.hd hc) ?_ hni (ld_glob I hg hm ⟨rfl, ?_⟩ hd)
  · rw [he]
    show (false || (backTo cpos (starEach es X.env)).any (·.1)) = false
    rw [hpl]
    rfl
  · have go := args cpos pins s I
    rw [he] at go ⊢
    refine Calls.evalArgs_plain (thn go fun us s1 ⟨vs, H1, I1, r, ws, st1, m1, p1, e1, S1, rs⟩ => ?_)
    by_cases cl : ws.length ≤ lim
    · rw [if_pos cl] at p1
      refine ⟨rfl, by rw [← r.length, ← rs.length]; exact lim_le cl, I1.bk _ _ hC, hN.keeps I1.bk, T.keeps I1.bk, fun h2 a M => ?_⟩
      exact p1 σ m1 H1 _ _ e1 S1 (R.mono e1) ⟨C, pins, H1, s1, O.cls, I1, .inr ⟨rfl, a, us, rfl, rfl, rfl, M⟩⟩
    · rw [if_neg cl] at p1; exact False.elim p1
end
end J

set_option Elab.async false
set_option linter.all false
set_option maxRecDepth 100000
set_option maxHeartbeats 4000000
namespace J
open PySem PySem.Spec PyProof.Rows L2

/-! ### the class of an exception, asked by isinstance -/
/-- what the written part tells of a class of refusals -/
structure ExcK (K : PySem.W.Frag) (C : Addr) : Prop where
  exc : PySem.W.excIn K C bmV nwV = true
  ga : PySem.W.findIn K (.ref C) "__getattribute__" = some (some (.builtin "BaseException.__getattribute__"))
  gx : PySem.W.findIn K (.ref C) "__getattr__" = some none
  cl : PySem.W.findIn K (.ref C) "__class__" = some (some (.builtin "object.__class__"))
section
variable {prog : Program} {w : World} {A : Around} {E : Value → Shared → Prop} {h : Heap} {g : Array GenState} {d : Drawn} {t : Nat} {os : OsState} {a C : Addr} {o : Obj} {K : PySem.W.Frag}
theorem xc_get {R : Result → Shared → Prop} (Y : K.In h) (Z : ExcK K C) (ha : h.get? a = some o) (hc : o.cls = .ref C) (k : R (.ok (.ret (.ref C))) ⟨h, g, d, t, os⟩) :
    codeAny (model prog w) A (.call (.builtin "getset_descriptor.__get__") ⟨[.builtin "object.__class__", .ref a, .ref C], []⟩) R ⟨h, g, d, t, os⟩ := by
  obtain ⟨bm, N, nm, qn, bs, hdd, sn, sub, ab, col, dd, k0, k1, k2, k3, k5, mN, hC, hN, hni, T, _⟩ := exc_obj Y Z.exc
  have ty : (⟨h, g, d, t, os⟩ : Shared).TypeIs (.builtin "object.__class__") "getset_descriptor" := F.typeOf_object_class
  have own : (Value.ref C :: bm).contains (.type (".".intercalate ("object.__class__".cutAt '.').dropLast)) = true := by
    rw [F.owner_object_class, List.contains_cons, T.hasType (X := "object") (b := true) (by decide)]; rfl
  refine codeAny_call_builtin F.slot_gs_get.plain F.entry_gs_get (F.slot_gs_get.check _ _ _ _ _ _ _ _ ty (F.args_gs_get _ _ _) ?_)
  repeat (any_goals (first | assumption | (with_reducible refine wpAny_loadPart_at ha ?_; rw [hc]) | (with_reducible refine wpAny_isSubtype_exc hC ?_; rw [own]) | wp_step))
  refine ⟨Code.quiet_builtin _ (by decide +kernel), codeAny_builtin F.entry_object_class ?_⟩
  repeat (any_goals (first | assumption | (with_reducible refine wpAny_loadPart_at ha ?_; rw [hc]) | wp_step))
theorem xc_entry {tk : Tok} {Q : Fin → Shared → Prop} (Y : K.In h) (Z : ExcK K C) (ha : h.get? a = some o) (hc : o.cls = .ref C) (k : Q (.done (.ret (.ref C))) ⟨h, g, d, t, os⟩) :
    wpAny (model prog w) A (Builtin.«object.__getattribute__» ⟨[.ref a, .str "__class__" tk], []⟩) Q E ⟨h, g, d, t, os⟩ := by
  have ty : (⟨h, g, d, t, os⟩ : Shared).TypeIs (.builtin "object.__class__") "getset_descriptor" := F.typeOf_object_class
  have t1 := F.typeOf_object_class
  have t2 := F.slot_gs_get.lookup
  have t3 := F.slot_gs_set.lookup
  have L := PySem.W.looks_findIn (M := model prog w) Y Z.cl
  repeat (any_goals (first | assumption | (with_reducible refine wpAny_loadPart_at ha ?_; rw [hc]) | with_reducible refine L.at ?_ | wp_step))
  refine xc_get Y Z ha hc ?_
  repeat (any_goals (first | assumption | wp_step))
theorem xc_check {M : Model} {nv : Value} {Q : Unit → Shared → Prop} (Y : K.In h) (Z : ExcK K C) (ha : h.get? a = some o) (hc : o.cls = .ref C) (k : Q () ⟨h, g, d, t, os⟩) :
    wpAny M A (checkBuiltinCall "BaseException.__getattribute__" ⟨[.ref a, nv], []⟩) Q E ⟨h, g, d, t, os⟩ := by
  obtain ⟨bm, N, nm, qn, bs, hdd, sn, sub, ab, col, dd, k0, k1, k2, k3, k5, mN, hC, hN, hni, T, _⟩ := exc_obj Y Z.exc
  have u1 : builtinKind "BaseException.__getattribute__" = some .slot := by decide +kernel
  have u2 : splitId "BaseException.__getattribute__" = some ("BaseException", "__getattribute__") := by decide +kernel
  have u3 : (Value.ref C :: bm).contains (.type "BaseException") = true := by rw [List.contains_cons, T.hasType (X := "BaseException") (b := true) (by decide)]; rfl
  have u4 := F.args_bexc_ga (.ref a) nv
  simp only [checkBuiltinCall, u1, u2]
  refine wpAny_bind ?_
  unfold isInstance
  repeat (first | (with_reducible refine wpAny_loadPart_at ha ?_; rw [hc]) | (with_reducible refine wpAny_isSubtype_exc hC ?_; rw [u3]) | wp_step)
  exact k
theorem xc_by {tk : Tok} {Q : Value → Shared → Prop} (Y : K.In h) (Z : ExcK K C) (ha : h.get? a = some o) (hc : o.cls = .ref C) (k : Q (.ref C) ⟨h, g, d, t, os⟩) :
    wpAny (model prog w) A (getAttrBy (.ref a) (.str "__class__" tk) false) Q E ⟨h, g, d, t, os⟩ := by
  have v1 := F.excAttr_ValueError.ga.bind (.ref a)
  have v2 : (Value.builtin "BaseException.__getattribute__" == Value.builtin "object.__getattribute__") = false := by decide +kernel
  have v3 : (onTheHeap (Value.ref C) && Value.builtin "BaseException.__getattribute__" == Value.builtin "object.__getattribute__") = false := by rw [v2]; rfl
  have v4 : (false && onTheHeap (Value.builtin "BaseException.__getattribute__")) = false := rfl
  have L1 := PySem.W.looks_findIn (M := model prog w) Y Z.ga
  have L2 := PySem.W.looks_findIn (M := model prog w) Y Z.gx
  repeat (any_goals (first | assumption | (with_reducible refine wpAny_loadPart_at ha ?_; rw [hc]) | with_reducible refine L1.at ?_ | with_reducible refine L2.at ?_ | wp_step))
  refine codeAny_call_builtin F.excAttr_ValueError.ga.plain F.entry_bexc_ga (xc_check Y Z ha hc (xc_entry Y Z ha hc ?_))
  repeat (any_goals (first | assumption | wp_step))
theorem xc_attr {Q : Option Value → Shared → Prop} (Y : K.In h) (Z : ExcK K C) (ha : h.get? a = some o) (hc : o.cls = .ref C) (k : Q (some (.ref C)) ⟨h, g, d, t + 1, os⟩) :
    wpAny (model prog w) A (getAttr? (.ref a) "__class__") Q E ⟨h, g, d, t, os⟩ := by
  unfold getAttr? getAttrBy?
  repeat (any_goals (first | assumption | with_reducible apply xc_by Y Z ha hc | wp_step))
end
end J

set_option Elab.async false
set_option linter.all false
set_option maxRecDepth 100000
set_option maxHeartbeats 4000000
namespace J
open PySem PySem.Spec PyProof.Rows L2

/-! ### an exception lands in a frame -/
structure Stk (X : Cx) : Prop where
  st : X.stack = X.env :: X.outer
  fr : X.env.frame = some X.env.locals
  ex : X.ex = []
theorem objOk_get {P : Program} {w : World} {H : Hp} {h : Heap} {a : Addr} {o : HO} (x : ObjOk P w H h a o) : ∃ u, h.get? a = some u := by
  cases o with
  | lst xs => obtain ⟨_, _, _, _, e⟩ := x; exact ⟨_, e⟩
  | tup xs => obtain ⟨_, _, _, ob, e, _⟩ := x; exact ⟨_, e⟩
  | dK kvs => obtain ⟨_, _, _, _, ob, _, _, e, _⟩ := x; exact ⟨_, e⟩
  | dT kvs => obtain ⟨_, _, _, _, ob, _, _, e, _⟩ := x; exact ⟨_, e⟩
  | set S n => obtain ⟨ob, _, _, _, e, _⟩ := x; exact ⟨_, e⟩
  | ins C dx fs => obtain ⟨_, _, _, e, _⟩ := x; exact ⟨_, e⟩
  | own y => exact x
  | xd fs => obtain ⟨_, ⟨_, _, _, e, _⟩, _⟩ := x; exact ⟨_, e⟩
  | rng lo hi => obtain ⟨_, _, _, e⟩ := x; exact ⟨_, e⟩
  | frz ob u => obtain ⟨e, _⟩ := x; exact ⟨_, e⟩
  | tbl ps => exact ⟨_, x⟩
  | met f y => exact ⟨_, x⟩
  | ext φ => exact x.2.1
section
variable {X : Cx} {pins : List (Addr × Obj)} {σ : St} {Hc H' : Hp} {sc s' : Shared} {B h2 : Heap} {a C : Addr} {a0 : Value}
/-- the state behind the landing, the exception known by its class -/
theorem exn_inv (I : Inv X pins σ Hc sc) (os : s'.os = sc.os) (bare : AllBare s'.gens) (un : Un (frs X.stack) [] Hc H' sc.heap s'.heap) (hok : HOk X.prog X.w H' B) (fl : Heap.FlyingW B X.stack a (.ref C) a0 h2) (up : s'.heap.UpToSlots h2)
    (cov : ∀ b o, sc.heap.get? b = some o → b ∉ frs X.stack → ∃ o', B.get? b = some o' ∧ (Hc b = none → o' = o)) {tk : Nat} :
    Inv X pins σ (upd H' a (.ext (ExnAt a C))) { s' with heap := h2, toks := tk } ∧ H' a = none := by
  have stay := fl.1
  obtain ⟨oe, vs, hoe, hcl, hda, _⟩ := fl.first
  have isx : ExnAt a C h2 := ⟨oe, hoe, hcl, vs, hda⟩
  have ha : H' a = none := by
    cases q : H' a with
    | none => rfl
    | some u =>
      obtain ⟨z, e⟩ := objOk_get (hok a u q)
      rw [fl.2.1] at e
      cases e
  have nfr : a ∉ frs X.stack := fun z => by
    obtain ⟨_, o1, e1, d1⟩ := fl.2.2.1.mem z
    rw [hoe] at e1
    cases e1
    exact d1 vs hda
  have new : ∀ o, sc.heap.get? a ≠ some o := fun o e => by
    obtain ⟨o1, e1, _⟩ := cov a o e nfr
    rw [fl.2.1] at e1
    cases e1
  have ne : ∀ b u, H' b = some u → b ≠ a := fun b u e => ne_of_none e ha
  have sl : ∀ b o, sc.heap.get? b = some o → Hc b = none → b ∈ frs X.stack → ∃ sl, h2.get? b = some { o with slots := sl } := fun b o e n hb => by
    obtain ⟨s1, e1⟩ := un.slot b o e n hb (by simp)
    obtain ⟨_, o1, e2, d1⟩ := I.stack.mem hb
    rw [e] at e2
    cases e2
    obtain ⟨s2, e3⟩ := up b _ e1 d1
    exact ⟨s2, e3⟩
  refine ⟨?_, ha⟩
  refine I.call' (s' := { s' with heap := h2, toks := tk }) (ch := []) os ?_ ?_ bare (fun b z => absurd z (by simp))
  · refine ⟨fun b o e n hb _ => ?_, fun b o e n hb _ => sl b o e n hb, fun b o e n _ => ?_, fun b o e _ => ?_, fun b xs h => ?_, fun b o u h => ?_, fun b ps h => ?_⟩
    · obtain ⟨o1, e1, e2⟩ := cov b o e hb
      rw [e2 n] at e1
      exact stay b o e1
    · have ba : b ≠ a := fun z => by subst z; exact new o e
      rw [upd_ne ba]
      exact un.free b o e n (by simp)
    · by_cases hb : b ∈ frs X.stack
      · obtain ⟨s2, e2⟩ := sl b o e (I.stkFree b hb) hb
        exact ⟨_, e2⟩
      · obtain ⟨o1, e1, _⟩ := cov b o e hb
        exact ⟨o1, stay b o1 e1⟩
    · have q := un.tups b xs h
      rw [upd_ne (ne b _ q)]
      exact q
    · have q := un.frzs b o u h
      rw [upd_ne (ne b _ q)]
      exact q
    · obtain ⟨m1, q⟩ := un.tbls b ps h
      refine ⟨m1, ?_⟩
      rw [upd_ne (ne b _ q)]
      exact q
  · intro b u e
    by_cases hb : b = a
    · subst hb
      rw [upd_same] at e
      cases e
      exact ⟨isx, ⟨oe, hoe⟩, fun h3 h4 p k => let ⟨o1, q1, q2, q3⟩ := p; ⟨o1, k o1 q1, q2, q3⟩⟩
    · rw [upd_ne hb] at e
      exact (hok b u e).stay (fun c v _ q => stay c v q) (fun c q => by rw [upd_ne (ne c _ q)]; exact q) fun c xs q => by rw [upd_ne (ne c _ q)]; exact q
end
/-- the exception as a value -/
theorem sim_exn {K : PySem.W.Frag} {m : Mp} {st : Hs} {H : Hp} {p : Addr} {o : HO} (S : Sim K m st H) (hp : H p = none) : Sim K m st (upd H p o) := S.fresh hp

/-! ### which classes an exception's class stands under -/
theorem catch_own {M : Model} {A : Around} {E : Value → Shared → Prop} {s : Shared} {K : PySem.W.Frag} {a C D : Addr} {o : Obj} {b : Bool} {Q : Bool → Shared → Prop} (Y : K.In s.heap) (ZC : PySem.W.excIn K C bmV nwV = true) (ZD : PySem.W.excIn K D bmV nwV = true)
    (hm : PySem.W.mroIn K C (.ref D) = some b) (ha : s.heap.get? a = some o) (hc : o.cls = .ref C) (k : Q b s) : wpAny M A (excMatches (.ref a) (.ref D)) Q E s := by
  obtain ⟨h, g, d, t, os⟩ := s
  obtain ⟨bm, N, nm, qn, bs, hdd, sn, sub, ab, col, dd, k0, k1, k2, k3, k5, mN, hC, hN, hni, T, mr⟩ := exc_obj Y ZC
  obtain ⟨bm', N', nm', qn', bs', hdd', sn', sub', ab', col', dd', k0', k1', k2', k3', k5', mN', hD, hN', hni', T', mr'⟩ := exc_obj Y ZD
  have e1 : (Value.ref C :: bm).contains (.ref D) = b := mr _ _ hm
  have e2 : (Value.ref D :: bm').contains (.type "BaseException") = true := by rw [List.contains_cons, T'.hasType (X := "BaseException") (b := true) (by decide)]; rfl
  have f := tc_notTuple
  unfold excMatches
  repeat (first | (with_reducible refine wpAny_loadPart_at ha ?_; rw [hc]) | with_reducible refine wpAny_loadPart_at hD ?_ | (with_reducible refine wpAny_isSubtype_exc hD ?_; rw [e2]) | (with_reducible refine wpAny_isSubtype_exc hC ?_; rw [e1]) | wp_step)
  cases b <;> (wp_walk; exact k)
end J

set_option Elab.async false
set_option linter.all false
set_option maxRecDepth 100000
set_option maxHeartbeats 4000000
namespace J
open PySem PySem.Spec PyProof.Rows L2

/-! ### isinstance of an exception -/
theorem kitx_exn {K : PySem.W.Frag} {a C : Addr} (Z : ExcK K C) : PySem.W.KitX K (.ref a) (.ref C) (ExnAt a C) where
  ty := fun M h _ p => by
    obtain ⟨o, h1, h2, _⟩ := p
    rw [← h2]
    exact (PySem.W.Looks.ld h1).andThen .now
  it := fun M h Y _ => by
    obtain ⟨bm, N, nm, qn, bs, hdd, sn, sub, ab, col, dd, k0, k1, k2, k3, k5, mN, hC, _⟩ := exc_obj Y Z.exc
    intro A' Q' E' s' k q
    unfold isType loadHead
    exact wpAny_bind (wpAny_loadPart (k _ _ hC) (wpAny_pure q))
  ne := fun h tp dd its n sl Y e => by
    obtain ⟨bm, N, nm, qn, bs, hdd, sn, sub, ab, col, dd', k0, k1, k2, k3, k5, mN, hC, _⟩ := exc_obj Y Z.exc
    refine Bool.eq_false_iff.mpr fun q => ?_
    have z : C = tp := Value.ref.inj (beq_iff_eq.mp q)
    subst z
    rw [hC] at e
    have z2 : Value.type "type" = Value.type "tuple" := congrArg Obj.cls (Option.some.inj e)
    exact absurd z2 (by decide)
  ca := fun {prog w A E Q s} Y p k => by
    obtain ⟨o, h1, h2, _⟩ := p
    obtain ⟨h, g, d, t, os⟩ := s
    exact xc_attr Y Z h1 h2 k
abbrev Tab := List ((PySem.Str × PySem.Str) × Bool)
abbrev TabT := List ((PySem.Str × String) × Bool)
/-- the tables hold of the written part -/
structure TabOk (K : PySem.W.Frag) (tb : Tab) (tt : TabT) : Prop where
  own : ∀ c d b C D, tb.lookup (c, d) = some b → ClsAt K c C → ClsAt K d D → ExcK K C ∧ ExcK K D ∧ PySem.W.kitOne K (.ref C) (.ref D) = some b ∧ PySem.W.mroIn K C (.ref D) = some b
  typ : ∀ c T b C, tt.lookup (c, T) = some b → ClsAt K c C → ExcK K C ∧ PySem.W.kitOne K (.ref C) (.type T) = some b
def oIsA (tb : Tab) (tt : TabT) : List Wv → Hs → Re Wv
  | [.exn c, .cls d], st => (match tb.lookup (c, d) with | some b => .ok (.bl b) st | none => .bad)
  | [.exn c, .ty T], st => (match tt.lookup (c, T) with | some b => .ok (.bl b) st | none => .bad)
  | ws, st => oIsI ws st
section
variable {X : Cx}
theorem call_isA : CallR X (.builtin "isinstance") (fun vs H Q => ∃ a C v c b, vs = [.ref a, v] ∧ H a = some (.ext (ExnAt a C)) ∧ ExcK X.K C ∧ RelV v c ∧ PySem.W.kitOne X.K (.ref C) c = some b ∧ Q (.bl b) H) := by
  intro pins s σ H xs us Q I r h
  obtain ⟨a, C, v, c, b, rfl, ha, Z, rc, e, q⟩ := h
  obtain ⟨u, u', rfl, r1, r2⟩ := vals2 r
  cases r1
  have uc : u' = c := by
    cases v with
    | int i => obtain ⟨t, rfl⟩ := rc; cases e
    | str i => obtain ⟨t, rfl⟩ := rc; cases e
    | byt i => obtain ⟨t, rfl⟩ := rc; cases e
    | flt i => obtain ⟨t, rfl⟩ := rc; cases e
    | non => cases rc; cases r2; rfl
    | bl i => cases rc; cases r2; rfl
    | ref i => cases rc; cases r2; rfl
    | ty i => cases rc; cases r2; rfl
  subst uc
  exact PySem.W.kia_one (kitx_exn Z) I.kIn (I.hok a _ ha).1 e (by intro z; cases z) fun tk => ⟨.bl b, H, I.tok tk, rfl, q⟩
theorem cw_isA {tb : Tab} {tt : TabT} (O : TabOk X.K tb tt) : CallW X (.builtin "isinstance") (oIsA tb tt) := by
  obtain ⟨r, h1, h2⟩ := cw_isI (X := X)
  refine ⟨_, call_isA.or h1, fun ws vs st H m Q S rs p => ?_⟩
  unfold oIsA at p
  split at p
  · rename_i _ c d
    cases e : tb.lookup (c, d) with
    | none => rw [e] at p; exact False.elim p
    | some b =>
      rw [e] at p
      obtain ⟨v, v', rfl, r1, r2⟩ := rel2 rs
      unfold RelW at r1 r2
      obtain ⟨a, C, rfl, hC, ha⟩ := r1
      obtain ⟨D, rfl, hD⟩ := r2
      obtain ⟨z1, z2, z3, _⟩ := O.own c d b C D e hC hD
      exact .inl ⟨a, C, .ref D, .ref D, b, rfl, ha, z1, rfl, z3, p _ m H Ext.refl S mkBl⟩
  · rename_i _ c T
    cases e : tt.lookup (c, T) with
    | none => rw [e] at p; exact False.elim p
    | some b =>
      rw [e] at p
      obtain ⟨v, v', rfl, r1, r2⟩ := rel2 rs
      unfold RelW at r1 r2
      obtain ⟨a, C, rfl, hC, ha⟩ := r1
      subst r2
      obtain ⟨z1, z3⟩ := O.typ c T b C e hC
      exact .inl ⟨a, C, .ty T, .type T, b, rfl, ha, z1, rfl, z3, p _ m H Ext.refl S mkBl⟩
  · exact .inr (h2 ws vs st H m Q S rs p)
end

/-! ### other contexts -/
section
variable {X : Cx} {pins : List (Addr × Obj)} {σ : St} {H : Hp} {s : Shared}
/-- within the frame: other wishes, other pins; within an except suite: another surrounding -/
abbrev reX (X : Cx) (A' : Around) (cm : Bool) (pn : List (Addr × Obj)) (E : Value → Shared → Prop) : Cx := { X with A := A', calm := cm, pn := pn, xe := E }
theorem ok_re {A' : Around} {cm : Bool} {pn : List (Addr × Obj)} {E : Value → Shared → Prop} (ok : X.Ok) (hf : A'.frames = X.A.frames) (hd : cm = true → A'.handled = none) : (reX X A' cm pn E).Ok :=
  ⟨ok.mod, ok.kind, ok.glob, ok.blt, ok.above, ok.inj, ok.has, ok.cab, hd, hf.trans ok.frames, ok.stk, ok.exf, ok.bs, ok.bsz, ok.noex, ok.exfs, ok.funs, ok.frf⟩
theorem inv_re {A' : Around} {cm : Bool} {E : Value → Shared → Prop} (I : Inv X pins σ H s) (hf : A'.frames = X.A.frames) (hd : cm = true → A'.handled = none) : Inv (reX X A' cm (X.pn ++ pins) E) [] σ H s :=
  ⟨ok_re I.ok hf hd, I.os, I.bare, I.base, I.loc, I.cell, I.free, I.freeC, fun p hp => I.pin p (by simpa using hp), I.hok, I.len⟩
theorem inv_er {A' : Around} {cm : Bool} {E : Value → Shared → Prop} {pins' : List (Addr × Obj)} (ok : X.Ok) (I : Inv (reX X A' cm (X.pn ++ pins) E) pins' σ H s) : Inv X pins σ H s :=
  ⟨ok, I.os, I.bare, I.base, I.loc, I.cell, I.free, I.freeC, fun p hp => I.pin p (List.mem_append_left _ hp), I.hok, I.len⟩
theorem sp_er {A' : Around} {cm : Bool} {E : Value → Shared → Prop} {D : Ends} {f : Flow} (ok : X.Ok) (h : SP (reX X A' cm (X.pn ++ pins) E) [] D f s) : SP X pins D f s := by
  cases f with
  | next => obtain ⟨σ', H', I, q⟩ := h; exact ⟨σ', H', inv_er ok I, q⟩
  | brk => obtain ⟨σ', H', I, q⟩ := h; exact ⟨σ', H', inv_er ok I, q⟩
  | cont => obtain ⟨σ', H', I, q⟩ := h; exact ⟨σ', H', inv_er ok I, q⟩
  | ret u => obtain ⟨v, σ', H', I, r, q⟩ := h; exact ⟨v, σ', H', inv_er ok I, r, q⟩
end

/-! ### the name behind an except suite -/
theorem name_gone {X : Cx} {pins : List (Addr × Obj)} {σ : St} {H : Hp} {s : Shared} {M : Model} {A : Around} {E : Value → Shared → Prop} {i : Nat} {n : Str} {pos : Pos} {Q : Unit → Shared → Prop} (I : Inv X pins σ H s) (hN : X.N.Nodup) (hi : X.N[i]? = some n) (hx : X.env.scope.names.lookup n = some .local)
    (k : ∀ s', Inv X pins (σ.set i none) H s' → Q () s') : wpAny M A (do bindName X.env n .none; unbindBehindTheSuite X.env n pos) Q E s := by
  obtain ⟨m, ns, lk⟩ := id I.loc
  have pl : (X.env.scope.kind == .class || (X.env.scope.kind == .module && X.env.locals != X.env.globals)) = false := by rw [I.ok.kind]; rfl
  have up : ∀ b o, X.s₀.heap.get? b = some o → b ≠ X.env.locals := fun b o e => old_ne I e
  refine wpAny_nameGoes_keeps hx ns pl fun h2 v ns2 sb => k _ ?_
  obtain ⟨oL, _, _, hoL, _⟩ := id ns
  refine ⟨I.ok, I.os, I.bare, ⟨fun b o e f hb hx => (sb.2 b (up b o e)).trans (I.base.keep b o e f hb hx), fun b o e f hb hx => ?_, I.base.free, fun b o e hx => ?_, I.base.tups, I.base.frzs, I.base.tbls⟩, ⟨_, ns2, fun j y w e1 e2 e3 => ?_⟩, fun y c e => ?_, I.free, I.freeC, fun p hp => ?_, fun b u e => ?_, by simpa using I.len⟩
  · obtain ⟨sl, e1⟩ := I.base.slot b o e f hb hx
    exact ⟨sl, (sb.2 b (up b o e)).trans e1⟩
  · obtain ⟨o1, e1⟩ := I.base.there b o e hx
    exact ⟨o1, (sb.2 b (up b o e)).trans e1⟩
  · have ji : j ≠ i := fun z => by
      subst z
      have : j < σ.length := by have q := (List.getElem?_eq_some_iff.mp e2).1; simpa using q
      rw [List.getElem?_set_self this] at e2
      cases e2
    rw [List.getElem?_set_ne (Ne.symm ji)] at e2
    obtain ⟨u, r, q⟩ := lk j y w e1 e2 e3
    refine ⟨u, r, ?_⟩
    rcases q with ⟨q1, q2⟩ | ⟨q1, c, q2, z⟩
    · have yn : y ≠ n := fun z => ji (nodup_ix hN e1 (z ▸ hi))
      exact .inl ⟨q1, by simp [yn, q2]⟩
    · exact .inr ⟨q1, c, q2, z.sameBut sb (I.cne y c q2)⟩
  · obtain ⟨w, z⟩ := I.cell y c e
    exact ⟨w, z.sameBut sb (I.cne y c e)⟩
  · obtain ⟨e, f, ne, nf, d⟩ := I.pin p hp
    exact ⟨(sb.2 p.1 ne).trans e, f, ne, nf, d⟩
  · refine (I.hok b u e).stay (fun c w hc q => (sb.2 c fun z => ?_).trans q) (fun _ q => q) fun _ _ q => q
    have fr := I.free
    rcases hc with hc | hc
    · rw [← z, hc, e] at fr; cases fr
    · rw [← z, hc] at fr; cases fr
end J

set_option Elab.async false
set_option linter.all false
set_option maxRecDepth 100000
set_option maxHeartbeats 4000000
namespace J
open PySem PySem.Spec PyProof.Rows L2

/-! ### try .. except C as n -/
def gTry (cat : PySem.Str → Option Bool) (i : Nat) (gb gs : GS) : GS := fun ρ st => match gb ρ st with
  | .err c ρ' st' => (match cat c with
    | some true => (match gs (ρ'.set i (some (.exn c))) st' with
      | .nx ρ2 st2 => .nx (ρ2.set i none) st2
      | .rt w st2 => .rt w st2
      | _ => .bad)
    | _ => .bad)
  | r => r
theorem RelEnv.unset {K : PySem.W.Frag} {m : Mp} {H : Hp} {ρ : Rho} {σ : St} (R : RelEnv K m H ρ σ) (i : Nat) : RelEnv K m H (ρ.set i none) (σ.set i none) := by
  refine ⟨by simp [R.len], fun j w e => ?_⟩
  have ji : i ≠ j := fun z => by
    subst z
    have : i < ρ.length := by have q := (List.getElem?_eq_some_iff.mp e).1; simpa using q
    rw [List.getElem?_set_self this] at e
    cases e
  rw [List.getElem?_set_ne ji] at e ⊢
  exact R.get j w e
section
variable {X : Cx}
/-- a new exception looked at in its frame -/
theorem land_made {M : Model} {A : Around} {E : Value → Shared → Prop} {s : Shared} {base h : Heap} {env : Env} {outer : List Env} {L a : Addr} {cls : Value} {args : List Value} {Q : Unit → Shared → Prop} (hfr : A.frames = some (env :: outer)) (hf : env.frame = some L)
    (st : base.StaysIn h) (fs : h.FunFrames base (env :: outer)) (mk : Heap.MadeExcOf h s.heap a cls args) (k : ∀ h' a0, Heap.FlyingW base (env :: outer) a cls a0 h' → s.heap.UpToSlots h' → Q () { s with heap := h' }) :
    wpAny M A (noteFrame (.ref a) env) (fun _ s2 => wpAny M A (setFlight (.ref a) none) Q E s2) E s := by
  obtain ⟨t, e1, e2, e3⟩ := mk.there
  have fresh : ∀ b, h.get? b = none → base.get? b = none := fun b hb => by
    cases q : base.get? b with
    | none => rfl
    | some o' => have z := st b o' q; rw [hb] at z; cases z
  have fs' := fs.of_keeps (h' := s.heap) fun b o hb _ => ⟨o, mk.keeps b o hb, rfl⟩
  unfold noteFrame
  simp only [hf]
  refine wpAny_bind (wpAny_field e1 rfl (x := .none) rfl ?_)
  rw [if_neg (by decide)]
  refine wpAny_newEntryW hfr fs' hf e1 (fun b o hb => mk.keeps b o (st b o hb)) (fresh a mk.new) rfl (by simp) (a0 := .ref t) rfl fun h' lw => ?_
  obtain ⟨l1, l2, l3, l4⟩ := lw
  exact k h' (.ref t) ⟨l1, fresh a mk.new, l2, l3⟩ l4
/-- it lands: what is then known -/
theorem land {pins : List (Addr × Obj)} {σ : St} {Hc H' : Hp} {sc s' : Shared} {C : Addr} {e : Value} {E : Value → Shared → Prop} {Q : Unit → Shared → Prop} (K0 : Stk X) (I : Inv X pins σ Hc sc)
    (r : Flown X.prog X.w X.stack Hc sc H' (.ref C) e s' ∨ (H' = Hc ∧ ∃ a args, e = .ref a ∧ s'.os = sc.os ∧ s'.gens = sc.gens ∧ Heap.MadeExcOf sc.heap s'.heap a (.ref C) args))
    (k : ∀ (a : Addr) (a0 : Value) (B h5 : Heap), e = .ref a → Heap.FlyingW B X.stack a (.ref C) a0 h5 → (∀ h6 tk, Heap.FlyingW B X.stack a (.ref C) a0 h6 → h5.UpToSlots h6 → Inv X pins σ (upd H' a (.ext (ExnAt a C))) { s' with heap := h6, toks := tk }) → H' a = none → Q () { s' with heap := h5 }) :
    wpAny (model X.prog X.w) X.A (noteFrame e X.env) (fun _ s2 => wpAny (model X.prog X.w) X.A (setFlight e none) Q E s2) E s' := by
  have hfr : X.A.frames = some (X.env :: X.outer) := by rw [I.ok.frames, K0.st]
  rcases r with ⟨a, a0, B, rfl, os, bare, un, hok, fl, cov⟩ | ⟨rfl, a, args, rfl, ho, hg, M⟩
  · have fl' : Heap.FlyingW B (X.env :: X.outer) a (.ref C) a0 s'.heap := by rw [← K0.st]; exact fl
    refine wpAny_looks_onW hfr K0.fr fl' fun h4 hd4 up4 => ?_
    refine wpAny_landsW hd4 fun h5 fl5 up5 => ?_
    rw [← K0.st] at fl5
    exact k a a0 B h5 rfl fl5 (fun h6 tk fl6 up6 => (exn_inv I os bare un hok fl6 ((up4.trans up5).trans up6) cov).1) (exn_inv (tk := 0) I os bare un hok fl5 (up4.trans up5) cov).2
  · have fs : sc.heap.FunFrames (PySem.W.hideAll sc.heap (frs X.stack)) (X.env :: X.outer) := by
      rw [← K0.st]
      exact PySem.W.funFrames_hide I.stack fun env he b hb => List.mem_filterMap.mpr ⟨env, he, hb⟩
    refine land_made (base := PySem.W.hideAll sc.heap (frs X.stack)) hfr K0.fr (fun b o q => PySem.W.of_hideAll _ q) fs M fun h5 a0 fl5 up5 => ?_
    rw [← K0.st] at fl5
    have bare : AllBare s'.gens := by rw [hg]; exact I.bare
    have hok : HOk X.prog X.w H' (PySem.W.hideAll sc.heap (frs X.stack)) := hok_hide I.hok I.stkFree
    have cov : ∀ b o, sc.heap.get? b = some o → b ∉ frs X.stack → ∃ o', (PySem.W.hideAll sc.heap (frs X.stack)).get? b = some o' ∧ (H' b = none → o' = o) := fun b o q hb => ⟨o, PySem.W.hideAll_get _ q hb, fun _ => rfl⟩
    exact k a a0 _ h5 rfl fl5 (fun h6 tk fl6 up6 => (exn_inv I ho bare (Un.kept M.keeps) hok fl6 (up5.trans up6) cov).1) (exn_inv (tk := 0) I ho bare (Un.kept M.keeps) hok fl5 up5 cov).2
theorem js_try {x n : Str} {D : Addr} {i : Nat} {body suite : List Stmt} {b₀ : Stmt} {gb gs : GS} {np hp pos : Pos} {tb : Tab} {tt : TabT} (K0 : Stk X) (hN : X.N.Nodup) (hi : X.N[i]? = some n) (hx : X.env.scope.names.lookup n = some .local) (hc : X.calm = true) (O : TabOk X.K tb tt)
    (hg : Gl X x) (hm : X.mg x = some (.ref D)) (hD : ClsAt X.K x D) (hd : (x == ("__debug__" : Str)) = false)
    (hb : ∀ (pn : List (Addr × Obj)) (E : Value → Shared → Prop), JSs (reX X X.A true pn E) body gb) (hs : ∀ (e : Value) (pn : List (Addr × Obj)) (E : Value → Shared → Prop), JSs (reX X (X.A.mark (some e)) false pn E) (b₀ :: suite) gs) :
    JS X (.Try body [.ExceptHandler (some (.Name x np)) (some n) (b₀ :: suite) hp] [] [] pos) (gTry (fun c => tb.lookup (c, x)) i gb gs) := by
  intro ρ st σ H m D' S R p pins s I
  refine wpAny_Try_except ?_
  let hx' : Value → Shared → Prop := fun e s1 => wpAny (model X.prog X.w) X.A (noteFrame e X.env) (fun _ s2 => wpAny (model X.prog X.w) X.A (setFlight e none) (fun _ s3 =>
    wpAny (model X.prog X.w) X.A (handleBy e X.env [.ExceptHandler (some (.Name x np)) (some n) (b₀ :: suite) hp]) (SP X pins D') X.xe s3) X.xe s2) X.xe s1
  have hA : X.A.handled = none := I.ok.hd hc
  have Ib : Inv (reX X X.A true (X.pn ++ pins) hx') [] σ H s := inv_re I rfl fun _ => hA
  have post : PostS (reX X X.A true (X.pn ++ pins) hx') m H (gb ρ st) D' := by
    unfold gTry at p
    cases eb : gb ρ st with
    | nx ρ1 st1 => rw [eb] at p; exact p
    | rt w1 st1 => rw [eb] at p; exact p
    | bk ρ1 st1 => rw [eb] at p; exact p
    | ct ρ1 st1 => rw [eb] at p; exact p
    | bad => rw [eb] at p; exact p
    | err c ρ1 st1 =>
      rw [eb] at p
      dsimp only at p
      cases ec : tb.lookup (c, x) with
      | none => rw [ec] at p; exact False.elim p
      | some bc =>
        cases bc with
        | false => rw [ec] at p; exact False.elim p
        | true =>
          rw [ec] at p
          dsimp only at p
          intro σ1 m1 H1 e s1 e1 S1 R1 rz
          obtain ⟨C, pins', Hc, sc, hC, Ic, rz⟩ := rz
          obtain ⟨zC, zD, _, hmro⟩ := O.own c x true C D ec hC hD
          refine land K0 (inv_er I.ok Ic) rz fun a a0 B h5 ea fl5 inv hn => ?_
          subst ea
          have I5 : Inv X pins σ1 (upd H1 a (.ext (ExnAt a C))) { s1 with heap := h5 } := inv h5 s1.toks fl5 (Heap.UpToSlots.refl _)
          obtain ⟨o5, ho5, hc5, _⟩ := (I5.hok a _ upd_same).1
          have Im : Inv (reX X (X.A.mark (some (.ref a))) false (X.pn ++ pins) fun _ _ => False) [] σ1 (upd H1 a (.ext (ExnAt a C))) { s1 with heap := h5 } := inv_re I5 rfl (fun z => by cases z)
          refine wpAny_handleBy_cons (codeAny_handlers_test (ld_glob Im hg hm ?_ hd)) (by intro q; cases q)
          refine catch_own (b := true) Im.kIn zC.exc zD.exc hmro ho5 hc5 ?_
          refine codeAny_handlers_suite_as ?_
          refine lands_againW fl5 fun h6 fl6 up6 => ?_
          have I6 := inv h6 s1.toks fl6 up6
          have e6 : Ext X.K m1 H1 m1 (upd H1 a (.ext (ExnAt a C))) := Ext.upd (.inl hn)
          have S6 : Sim X.K m1 st1 (upd H1 a (.ext (ExnAt a C))) := S1.fresh hn
          have rv : RelW X.K m1 (upd H1 a (.ext (ExnAt a C))) (.exn c) (.ref a) := by unfold RelW; exact ⟨a, C, rfl, hC, upd_same⟩
          refine store_ok (v := .ref a) I6 hN hi (.inl hx) rfl (fun s7 I7 => ?_) (.inr hx)
          have I7' : Inv (reX X (X.A.mark (some (.ref a))) false (X.pn ++ pins) fun _ _ => False) [] (σ1.set i (some (.ref a))) (upd H1 a (.ext (ExnAt a C))) s7 := inv_re I7 rfl (fun z => by cases z)
          cases es : gs (ρ1.set i (some (.exn c))) st1 with
          | nx ρ2 st2 =>
            rw [es] at p
            let D2 : Ends := { nx := fun σ' H' => D'.nx (σ'.set i none) H', rt := fun _ _ => False, bk := fun _ _ => False, ct := fun _ _ => False }
            have go := hs (.ref a) (X.pn ++ pins) (fun _ _ => False) (ρ1.set i (some (.exn c))) st1 (σ1.set i (some (.ref a))) _ m1 D2 S6 ((R1.mono e6).set i rv) (by
              rw [es]
              exact fun σ' m' H' e' S' R' => p (σ'.set i none) m' H' (e1.trans (e6.trans e')) S' (RelEnv.unset R' i)) [] s7 I7'
            refine wpAny_mono go (fun f s8 h8 => ?_) fun _ _ z => z.elim
            cases f with
            | next =>
              obtain ⟨σ8, H8, I8, q8⟩ := h8
              exact name_gone (inv_er I.ok I8) hN hi hx fun s9 I9 => ⟨_, H8, I9, q8⟩
            | brk => obtain ⟨_, _, _, q8⟩ := h8; exact q8.elim
            | cont => obtain ⟨_, _, _, q8⟩ := h8; exact q8.elim
            | ret u => obtain ⟨_, _, _, _, _, q8⟩ := h8; exact q8.elim
          | rt w2 st2 =>
            rw [es] at p
            let D2 : Ends := { nx := fun _ _ => False, rt := D'.rt, bk := fun _ _ => False, ct := fun _ _ => False }
            have go := hs (.ref a) (X.pn ++ pins) (fun _ _ => False) (ρ1.set i (some (.exn c))) st1 (σ1.set i (some (.ref a))) _ m1 D2 S6 ((R1.mono e6).set i rv) (by
              rw [es]
              exact fun v' m' H' e' S' R' => p v' m' H' (e1.trans (e6.trans e')) S' R') [] s7 I7'
            refine wpAny_mono go (fun f s8 h8 => ?_) fun _ _ z => z.elim
            cases f with
            | next => obtain ⟨_, _, _, q8⟩ := h8; exact q8.elim
            | brk => obtain ⟨_, _, _, q8⟩ := h8; exact q8.elim
            | cont => obtain ⟨_, _, _, q8⟩ := h8; exact q8.elim
            | ret u =>
              obtain ⟨v8, σ8, H8, I8, r8, q8⟩ := h8
              exact name_gone (inv_er I.ok I8) hN hi hx fun s9 I9 => ⟨v8, _, H8, I9, r8, q8⟩
          | bk ρ2 st2 => rw [es] at p; exact False.elim p
          | ct ρ2 st2 => rw [es] at p; exact False.elim p
          | err c2 ρ2 st2 => rw [es] at p; exact False.elim p
          | bad => rw [es] at p; exact False.elim p
  refine wpAny_mono (hb (X.pn ++ pins) hx' ρ st σ H m D' S R post [] s Ib) (fun f s1 h1 => ?_) fun e s1 h1 => h1
  have h2 := sp_er I.ok h1
  cases f with
  | next => exact wpAny_execs_nil h2
  | brk => exact h2
  | cont => exact h2
  | ret u => exact h2
end
end J

set_option Elab.async false
set_option linter.all false
set_option maxRecDepth 100000
set_option maxHeartbeats 4000000
namespace J
open PySem PySem.Spec PyProof.Rows L2

/-! ### str(i) -/
theorem strOk_of (x : String) : PyData.strOk (Str.ofString x) = true := by
  unfold PyData.strOk
  rw [Array.all_eq_true_iff_forall_mem]
  intro c hc
  have : ∃ ch : Char, c = ch.toNat := by
    rw [Str.ofString_eq_toList] at hc
    simp at hc
    obtain ⟨ch, _, e⟩ := hc
    exact ⟨ch, e.symm⟩
  obtain ⟨ch, rfl⟩ := this
  have h := ch.valid
  simp only [decide_eq_true_eq]
  rcases h with h | ⟨_, h⟩
  · exact Nat.lt_trans h (by decide)
  · exact h
section
variable {X : Cx}
def oStr : List Wv → Hs → Re Wv
  | [.int i], st => if i.natAbs.log2 < 1920 then .ok (.str (toString i : String)) st else .bad
  | _, _ => .bad
theorem cw_str : CallW X (.type "str") oStr := ⟨_, call_str_int, fun ws vs st H m Q S r p => by
  match ws, r, p with
  | [], r, p => exact False.elim p
  | x :: y :: t, r, p => cases x <;> exact False.elim p
  | [x], r, p =>
    obtain ⟨v, rfl, rx⟩ := rel1 r
    cases x with
    | int i =>
      cases relInt rx
      have p' : PostO X.K m H (if i.natAbs.log2 < 1920 then .ok (.str (toString i : String)) st else .bad) Q := p
      by_cases c : i.natAbs.log2 < 1920
      · rw [if_pos c] at p'
        exact ⟨i, rfl, c, p' _ m H Ext.refl S (mkStr (strOk_of _))⟩
      · rw [if_neg c] at p'; exact False.elim p'
    | _ => exact False.elim p⟩

/-! ### xs.append(v), xs.extend(ys) -/
def mApp (o v : Wv) (st : Hs) : Re Wv := match o with
  | .ref l => (match st[l]? with
    | some (.lst ws) => if ws.length < lim then .ok .non (st.set l (.lst (ws ++ [v]))) else .bad
    | _ => .bad)
  | _ => .bad
def mExt (o v : Wv) (st : Hs) : Re Wv := match o, v with
  | .ref l, .ref k => (match st[l]?, st[k]? with
    | some (.lst ws), some (.lst zs) => if ws.length + zs.length ≤ lim then .ok .non (st.set l (.lst (ws ++ zs))) else .bad
    | _, _ => .bad)
  | _, _ => .bad
/-- o.m(e): o a list -/
def gMeth (mt : Wv → Wv → Hs → Re Wv) (go ga : GE) : GE := fun ρ st => (go ρ st).bind fun o st1 => match o with
  | .ref l => (match lstOf st1 l with
    | some _ => (ga ρ st1).bind fun v st2 => (mt o v st2).nox
    | none => .bad)
  | _ => .bad
/-- a list's method of one argument, by values -/
def MtW (X : Cx) (id : String) (mt : Wv → Wv → Hs → Re Wv) : Prop := ∃ r, MtR X id r ∧ ∀ (o w : Wv) (x v : V) (st : Hs) (H : Hp) (m : Mp) (Q : VK), Sim X.K m st H → RelW X.K m H o x → RelW X.K m H w v → PostO X.K m H (mt o w st) Q → r x [v] H Q
theorem mw_app : MtW X "list.append" mApp := ⟨_, mt_append, fun o w x v st H m Q S ro rw' p => by
  cases o with
  | ref l =>
    unfold RelW at ro
    obtain ⟨a, rfl, ha⟩ := ro
    have p' : PostO X.K m H (match st[l]? with | some (.lst ws) => if ws.length < lim then .ok .non (st.set l (.lst (ws ++ [w]))) else .bad | _ => .bad) Q := p
    cases e : st[l]? with
    | none => rw [e] at p'; exact False.elim p'
    | some ob =>
      cases ob with
      | scr ns => rw [e] at p'; exact False.elim p'
      | lst ws =>
        rw [e] at p'
        dsimp only at p'
        by_cases c : ws.length < lim
        · rw [if_pos c] at p'
          obtain ⟨xs, h1, h2⟩ := S.lstAt ha e
          have e4 : Ext X.K m H m (upd H a (.lst (xs ++ [v]))) := Ext.upd (.inr ⟨xs, h1⟩)
          exact ⟨a, xs, v, rfl, rfl, h1, by rw [← h2.length]; exact lim_lt c, p' _ m _ e4 (S.write ha e (h2.append (RelWs.cons rw' RelWs.nil))) mkNon⟩
        · rw [if_neg c] at p'; exact False.elim p'
  | _ => exact False.elim p⟩
theorem mw_ext : MtW X "list.extend" mExt := ⟨_, mt_extend, fun o w x v st H m Q S ro rw' p => by
  cases o with
  | ref l =>
    cases w with
    | ref k =>
      unfold RelW at ro rw'
      obtain ⟨a, rfl, ha⟩ := ro
      obtain ⟨b, rfl, hb⟩ := rw'
      have p' : PostO X.K m H (match st[l]?, st[k]? with | some (.lst ws), some (.lst zs) => if ws.length + zs.length ≤ lim then .ok .non (st.set l (.lst (ws ++ zs))) else .bad | _, _ => .bad) Q := p
      cases e : st[l]? with
      | none => rw [e] at p'; exact False.elim p'
      | some ob =>
        cases ob with
        | scr ns => rw [e] at p'; exact False.elim p'
        | lst ws =>
          cases e2 : st[k]? with
          | none => rw [e, e2] at p'; exact False.elim p'
          | some ob2 =>
            cases ob2 with
            | scr ns => rw [e, e2] at p'; exact False.elim p'
            | lst zs =>
              rw [e, e2] at p'
              dsimp only at p'
              by_cases c : ws.length + zs.length ≤ lim
              · rw [if_pos c] at p'
                obtain ⟨xs, h1, h2⟩ := S.lstAt ha e
                obtain ⟨ys, g1, g2⟩ := S.lstAt hb e2
                have e4 : Ext X.K m H m (upd H a (.lst (xs ++ ys))) := Ext.upd (.inr ⟨xs, h1⟩)
                exact ⟨a, b, xs, ys, rfl, rfl, h1, g1, by rw [← h2.length, ← g2.length]; exact lim_le c, p' _ m _ e4 (S.write ha e (h2.append g2)) mkNon⟩
              · rw [if_neg c] at p'; exact False.elim p'
    | _ => exact False.elim p
  | _ => exact False.elim p⟩
theorem je_meth {x name : Str} {id : String} {e : Expr} {go ga : GE} {p apos cpos : Pos} {mt : Wv → Wv → Hs → Re Wv} (hm : MtW X id mt) (slot : Slot "list" name id) (hty : typeOf (.builtin id) = pure (.type "method_descriptor")) (ho : JE X (.Name x p) go) (ha : JE X e ga)
    (hst : starEach [e] X.env = [(false, eval e X.env)]) (hline : (apos.endLine == cpos.line) = true) : JE X (.Call (.Attribute (.Name x p) name apos) [e] [] cpos) (gMeth mt go ga) := by
  obtain ⟨r, h1, h2⟩ := hm
  have hfew : ((backTo cpos (starEach [e] X.env)).all (fun x => !x.1) && (backToKw cpos (keywordEach [] X.env)).all (fun x => x.1.isSome) && decide ([e].length + ([] : List Keyword).length + (if ([] : List Keyword).isEmpty then 0 else 1) < 30)) = true := by
    rw [hst]; rfl
  refine JE.of (pe_bm PySem.F.plainAttrs_list slot hty h1 pe_SE pa_SA rfl hfew hline hst rfl) fun ρ st σ H m Q S R p => ?_
  refine ho.go S R (PostG.bind p) fun o st1 v m1 H1 p1 e1 S1 ro => ?_
  cases o with
  | ref l =>
    dsimp only at p1
    cases el : lstOf st1 l with
    | none => rw [el] at p1; exact False.elim p1
    | some ws0 =>
      rw [el] at p1
      dsimp only at p1
      have ro' := ro
      unfold RelW at ro'
      obtain ⟨a, rfl, hla⟩ := ro'
      obtain ⟨xs, hq, _⟩ := S1.read hla el
      refine ⟨.inl ⟨rfl, xs, hq⟩, ?_⟩
      refine (ja_cons ha ja_nil hst).go S1 (R.mono e1) (ok := fun ws st2 => PostG X σ m H (match ws with | [w] => (mt (.ref l) w st2).nox | _ => .bad) (okE X.K m H Q)) ?_ fun ws st2 vs m2 H2 p2 e2 S2 rs => ?_
      · have p3 := (PostG.bind p1).imp e1 (fun _ _ q => q)
        show PostG X σ m1 H1 ((ga ρ st1).bind fun x st1 => (gNil ρ st1).bind fun xs st2 => .ok (x :: xs) st2) _
        cases eg : ga ρ st1 with
        | ok w st2 => rw [eg] at p3; exact p3
        | err c st2 => rw [eg] at p3; exact p3
        | bad => rw [eg] at p3; exact p3
      · match ws, rs, p2 with
        | [], rs, p2 => exact False.elim p2
        | [w], rs, p2 =>
          obtain ⟨v2, rfl, rw2⟩ := rel1 rs
          exact h2 (.ref l) w (.ref a) v2 st2 H2 m2 Q S2 (RelW.mono e2 _ _ ro) rw2 (PostO.shift (PostG.nox p2) (e1.trans e2))
        | _ :: _ :: _, rs, p2 => exact False.elim p2
  | _ => exact False.elim p1
end
end J

set_option Elab.async false
set_option linter.all false
set_option maxRecDepth 100000
set_option maxHeartbeats 4000000
namespace J
open PySem PySem.Spec PyProof.Rows L2

section
variable {X : Cx}
/-! ### str, int, divmod, min and max of two -/
def oStr2 : List Wv → Hs → Re Wv
  | [.str z], st => .ok (.str z) st
  | ws, st => oStr ws st
theorem call_str_s : CallR X (.type "str") (fun xs H Q => ∃ z, xs = [.str z] ∧ Q (.str z) H) := by
  intro pins s σ H xs us Q I r h
  obtain ⟨z, rfl, q⟩ := h
  obtain ⟨u, rfl, t, rfl⟩ := vals1 r
  exact PySem.P.str_of_str ⟨.str z, H, I, ⟨t, rfl⟩, q⟩
theorem cw_str2 : CallW X (.type "str") oStr2 := by
  obtain ⟨r, h1, h2⟩ := cw_str (X := X)
  refine ⟨_, call_str_s.or h1, fun ws vs st H m Q S rs p => ?_⟩
  unfold oStr2 at p
  split at p
  · obtain ⟨v, rfl, r1⟩ := rel1 rs
    obtain ⟨rfl, hz⟩ := relStr r1
    exact .inl ⟨_, rfl, p _ m H Ext.refl S (mkStr hz)⟩
  · exact .inr (h2 ws vs st H m Q S rs p)
def oInt : List Wv → Hs → Re Wv
  | [.int i], st => .ok (.int i) st
  | [.bl b], st => .ok (.int (if b then 1 else 0)) st
  | _, _ => .bad
theorem cw_int : CallW X (.type "int") oInt := ⟨_, call_int1, fun ws vs st H m Q S rs p => by
  match ws, rs, p with
  | [], rs, p => exact False.elim p
  | x :: y :: t, rs, p => cases x <;> exact False.elim p
  | [x], rs, p =>
    obtain ⟨v, rfl, r1⟩ := rel1 rs
    cases x with
    | int i => cases relInt r1; exact .inl ⟨i, rfl, p _ m H Ext.refl S mkInt⟩
    | bl b => cases relBl r1; exact .inr ⟨b, rfl, p _ m H Ext.refl S mkInt⟩
    | _ => exact False.elim p⟩
def oDm : List Wv → Hs → Re Wv
  | [.int i, .int j], st => if j ≠ 0 ∧ j.natAbs.log2 < 9000 then .ok (.tup [.int (i.fdiv j), .int (i.fmod j)]) st else .bad
  | _, _ => .bad
theorem call_dm : CallR X (.builtin "divmod") (fun xs H Q => ∃ i j, xs = [.int i, .int j] ∧ j ≠ 0 ∧ j.natAbs.log2 < 9000 ∧ ∀ p, H p = none → Q (.ref p) (upd H p (.tup [.int (i.fdiv j), .int (i.fmod j)]))) := by
  intro pins s σ H xs us Q I r h
  obtain ⟨i, j, rfl, h1, h2, q⟩ := h
  obtain ⟨u, u2, rfl, ⟨t, rfl⟩, ⟨t2, rfl⟩⟩ := vals2 r
  refine divmod_int h1 ?_ (.inl (PyProof.noPylong_of_log2 h2))
  have fresh : H s.heap.objs.size = none := I.hok.fresh (Nat.le_refl _)
  refine ⟨.ref s.heap.objs.size, _, ?_, rfl, q _ fresh⟩
  refine I.laid (fun b o e => Heap.get?_push_of_some _ e) (Nat.le_refl _) ⟨(by show 2 ≤ sizeLine; decide), [.int (i.fdiv j) s.toks, .int (i.fmod j) (s.toks + 1)], .cons ⟨_, rfl⟩ (.cons ⟨_, rfl⟩ .nil), ?_⟩
  exact ⟨_, Heap.get?_push_size s.heap rfl, rfl, 0, rfl⟩
theorem cw_dm : CallW X (.builtin "divmod") oDm := ⟨_, call_dm, fun ws vs st H m Q S rs p => by
  match ws, rs, p with
  | [], rs, p => exact False.elim p
  | [x], rs, p => cases x <;> exact False.elim p
  | x :: y :: z :: t, rs, p => cases x <;> cases y <;> exact False.elim p
  | [x, y], rs, p =>
    obtain ⟨v, v', rfl, r1, r2⟩ := rel2 rs
    cases x with
    | int i =>
      cases y with
      | int j =>
        cases relInt r1; cases relInt r2
        have p' : PostO X.K m H (if j ≠ 0 ∧ j.natAbs.log2 < 9000 then .ok (.tup [.int (i.fdiv j), .int (i.fmod j)]) st else .bad) Q := p
        by_cases c : j ≠ 0 ∧ j.natAbs.log2 < 9000
        · rw [if_pos c] at p'
          refine ⟨i, j, rfl, c.1, c.2, fun q hq => ?_⟩
          have e2 : Ext X.K m H m (upd H q (.tup [.int (i.fdiv j), .int (i.fmod j)])) := Ext.upd (.inl hq)
          exact p' (.ref q) m _ e2 (S.fresh hq) (by unfold RelW; exact ⟨q, _, rfl, SqT.of upd_same, RelWs.cons mkInt (RelWs.cons mkInt RelWs.nil)⟩)
        · rw [if_neg c] at p'; exact False.elim p'
      | _ => exact False.elim p
    | _ => cases y <;> exact False.elim p⟩
def oMax : List Wv → Hs → Re Wv
  | [.int i, .int j], st => .ok (.int (if j > i then j else i)) st
  | _, _ => .bad
def oMin : List Wv → Hs → Re Wv
  | [.int i, .int j], st => .ok (.int (if j < i then j else i)) st
  | _, _ => .bad
theorem cw_max (hc : X.calm = true) : CallW X (.builtin "max") oMax := ⟨_, call_max2 hc, fun ws vs st H m Q S rs p => by
  match ws, rs, p with
  | [], rs, p => exact False.elim p
  | [x], rs, p => cases x <;> exact False.elim p
  | x :: y :: z :: t, rs, p => cases x <;> cases y <;> exact False.elim p
  | [x, y], rs, p =>
    obtain ⟨v, v', rfl, r1, r2⟩ := rel2 rs
    cases x with
    | int i =>
      cases y with
      | int j => cases relInt r1; cases relInt r2; exact ⟨i, j, rfl, p _ m H Ext.refl S mkInt⟩
      | _ => exact False.elim p
    | _ => cases y <;> exact False.elim p⟩
theorem cw_min (hc : X.calm = true) : CallW X (.builtin "min") oMin := ⟨_, call_min2 hc, fun ws vs st H m Q S rs p => by
  match ws, rs, p with
  | [], rs, p => exact False.elim p
  | [x], rs, p => cases x <;> exact False.elim p
  | x :: y :: z :: t, rs, p => cases x <;> cases y <;> exact False.elim p
  | [x, y], rs, p =>
    obtain ⟨v, v', rfl, r1, r2⟩ := rel2 rs
    cases x with
    | int i =>
      cases y with
      | int j => cases relInt r1; cases relInt r2; exact ⟨i, j, rfl, p _ m H Ext.refl S mkInt⟩
      | _ => exact False.elim p
    | _ => cases y <;> exact False.elim p⟩

/-! ### a, b, .. = a tuple; for a, b, .. in a list of tuples -/
def setL : List Nat → List Wv → Rho → Option Rho
  | [], [], ρ => some ρ
  | i :: is, w :: ws, ρ => setL is ws (ρ.set i (some w))
  | _, _, _ => none
def bdT (is : List Nat) (w : Wv) (ρ : Rho) : Option Rho := match w with
  | .tup ws => setL is ws ρ
  | _ => none
def tgs : List Nat → TGs
  | [] => L2.gNil
  | i :: is => L2.gCons (gName i) (tgs is)
theorem setL_run {m : Mp} {H : Hp} {Q : St → Hp → Prop} : ∀ {is : List Nat} {ws : List Wv} {xs : List V} {ρ ρ' : Rho} {σ : St}, RelWs X.K m H ws xs → RelEnv X.K m H ρ σ → setL is ws ρ = some ρ' → (∀ σ', RelEnv X.K m H ρ' σ' → Q σ' H) → tgs is xs σ H Q
  | [], [], xs, ρ, ρ', σ, r, R, e, k => by
    unfold RelWs at r
    subst r
    cases e
    exact ⟨rfl, k σ R⟩
  | i :: is, w :: ws, xs, ρ, ρ', σ, r, R, e, k => by
    unfold RelWs at r
    obtain ⟨x, rr, rfl, h1, h2⟩ := r
    exact ⟨x, rr, rfl, setL_run (is := is) h2 (R.set i h1) e k⟩
  | [], _ :: _, _, _, _, _, _, _, e, _ => by cases e
  | _ :: _, [], _, _, _, _, _, _, e, _ => by cases e
theorem setL_len : ∀ {is : List Nat} {ws : List Wv} {ρ ρ' : Rho}, setL is ws ρ = some ρ' → ws.length = is.length
  | [], [], _, _, _ => rfl
  | _ :: is, _ :: ws, _, _, e => congrArg (· + 1) (setL_len (is := is) (ws := ws) e)
  | [], _ :: _, _, _, e => by cases e
  | _ :: _, [], _, _, e => by cases e
/-- the names of a tuple target, in their slots -/
inductive Slots (X : Cx) : List Expr → List Nat → Prop
  | nil : Slots X [] []
  | cons {x : Str} {p : Pos} {i : Nat} {es : List Expr} {is : List Nat} : X.N[i]? = some x → (Loc X.env.scope x ∧ (X.fn x = true ∨ X.env.scope.names.lookup x = some .local)) → Slots X es is → Slots X (.Name x p :: es) (i :: is)
theorem pgs_slots (hN : X.N.Nodup) : ∀ {es : List Expr} {is : List Nat}, Slots X es is → PGs X es (tgs is)
  | _, _, .nil => pgs_nil
  | _, _, .cons h1 h2 r => pgs_cons (pg_name hN h1 h2.1 h2.2) (pgs_slots hN r) rfl
theorem each_len : ∀ {es : List Expr} {is : List Nat}, Slots X es is → (assignEach es X.env).length = is.length
  | _, _, .nil => rfl
  | _, _, .cons _ _ r => congrArg (· + 1) (each_len r)
theorem each_star : ∀ {es : List Expr} {is : List Nat}, Slots X es is → (assignEach es X.env).findIdx? (·.1) = none
  | _, _, .nil => rfl
  | _, _, .cons (x := x) (p := p) (es := es) _ _ r => by
    have q := each_star r
    show List.findIdx? _ ((false, assign (.Name x p) X.env) :: assignEach es X.env) = none
    rw [List.findIdx?_cons]
    simp [q]
def gSetT (is : List Nat) (g : GE) : GS := fun ρ st => (g ρ st).thn ρ fun w st' => match bdT is w ρ with
  | some ρ' => .nx ρ' st'
  | none => .bad
theorem js_setT {es : List Expr} {is : List Nat} {k : Nat} {e : Expr} {g : GE} {pos pos' : Pos} (hN : X.N.Nodup) (hc : X.calm = true) (sl : Slots X es is) (h : JE X e g) (hs : swapsWith e (some (.Tuple es k pos')) pos.line X.env = pure false) (hw : swappedStores [.Tuple es k pos'] e X.env = pure none) :
    JS X (.Assign [.Tuple es k pos'] e pos) (gSetT is g) :=
  JS.of (ps_asg pe_SE (pg_tup hc (pgs_slots hN sl) (each_len sl) (each_star sl)) (by unfold swapsWithSole; exact hs) hw rfl) fun ρ st σ H m D S R p => h.go S R (PostS.of_thn R p) fun w st1 v m1 H1 q e1 S1 r1 => by
    cases w with
    | tup ws =>
      have q' : PostS X m H (match setL is ws ρ with | some ρ' => .nx ρ' st1 | none => .bad) D := q
      cases e2 : setL is ws ρ with
      | none => rw [e2] at q'; exact False.elim q'
      | some ρ' =>
        rw [e2] at q'
        unfold RelW at r1
        obtain ⟨a, xs, rfl, f1, f2⟩ := r1
        exact ⟨a, xs, rfl, f1, by rw [← f2.length]; exact setL_len e2, setL_run f2 (R.mono e1) e2 fun σ' R' => q' σ' m1 H1 e1 S1 R'⟩
    | _ => exact False.elim q
open Classical in
noncomputable def forLB (is : List Nat) (gb : GS) (l : Nat) (all : List Wv) : List Wv → Rho → Hs → Rs
  | [], ρ, st => .nx ρ st
  | w :: r, ρ, st => match bdT is w ρ with
    | none => .bad
    | some ρ1 => match gb ρ1 st with
      | .nx ρ' st' => if lstOf st' l = some all then forLB is gb l all r ρ' st' else .bad
      | .ct ρ' st' => if lstOf st' l = some all then forLB is gb l all r ρ' st' else .bad
      | .bk ρ' st' => .nx ρ' st'
      | .rt w st' => .rt w st'
      | .err c ρ' st' => .err c ρ' st'
      | .bad => .bad
noncomputable def gForB (is : List Nat) (gi : GE) (gb : GS) : GS := fun ρ st => (gi ρ st).thn ρ fun w st1 => match w with
  | .ref l => (match lstOf st1 l with | some ws => forLB is gb l ws ws ρ st1 | none => .bad)
  | _ => .bad
theorem js_forB {es : List Expr} {is : List Nat} {k : Nat} {iter : Expr} {body : List Stmt} {gi : GE} {gb : GS} {pos pos' : Pos} (hN : X.N.Nodup) (hp : PassesOwn (model X.prog X.w) X.A X.env X.xe) (hc : X.calm = true) (sl : Slots X es is) (hi : JE X iter gi) (hb : JSs X body gb)
    (hs : ∀ x, foldedSetIterable iter X.env x = pure x) : JS X (.For (.Tuple es k pos') iter body [] pos) (gForB is gi gb) := by
  refine JS.of (ps_for hp hc (pi_list pe_SE) (pg_tup hc (pgs_slots hN sl) (each_len sl) (each_star sl)) pss_SSs hs) fun ρ st σ H m D S R p => ?_
  refine hi.go S R (PostS.of_thn R p) fun w st1 v m1 H1 p1 e1 S1 rw' => ?_
  cases w with
  | ref l =>
    have p1' : PostS X m H (match lstOf st1 l with | some ws => forLB is gb l ws ws ρ st1 | none => .bad) D := p1
    unfold RelW at rw'
    obtain ⟨a, rfl, hla⟩ := rw'
    cases el : lstOf st1 l with
    | none => rw [el] at p1'; exact False.elim p1'
    | some ws =>
      rw [el] at p1'
      obtain ⟨xs0, q0, _⟩ := S1.read hla el
      refine ⟨a, rfl, ⟨xs0, q0⟩, ?_⟩
      let Pv : Nat → St → Hp → Prop := fun k σ H => ∃ ρ st m', Ext X.K m1 H1 m' H ∧ Sim X.K m' st H ∧ RelEnv X.K m' H ρ σ ∧ lstOf st l = some ws ∧ PostS X m' H (forLB is gb l ws (ws.drop k) ρ st) D
      refine ⟨fun k n σ H => n = ws.length - k ∧ k ≤ ws.length ∧ Pv k σ H, ⟨ws.length, by simp, Nat.zero_le _, ρ, st1, m1, Ext.refl, S1, R.mono e1, el, PostS.shift p1' e1⟩, ?_⟩
      rintro k n σ2 H2 ⟨rfl, hk, ρ2, st2, m2, e2, S2, R2, l2, p2⟩
      obtain ⟨xs, hq, rws⟩ := S2.read (e2.pre _ _ hla) l2
      have hlen := rws.length
      by_cases hlt : k < ws.length
      · have hx' : k < xs.length := by omega
        refine .inr ⟨⟨xs, xs[k], hq, by simp [hx']⟩, Pv (k + 1), fun σ' H' p' => ⟨ws.length - (k + 1), by omega, rfl, hlt, p'⟩, fun x H' y => ?_⟩
        obtain ⟨ee, y⟩ := y
        subst ee
        have ey := y xs hq
        have ed : ws.drop k = ws[k] :: ws.drop (k + 1) := List.drop_eq_getElem_cons hlt
        obtain ⟨x', ex', rx'⟩ := rws.get (i := k) (w := ws[k]) (List.getElem?_eq_getElem hlt)
        rw [ey] at ex'
        cases ex'
        rw [ed] at p2
        unfold forLB at p2
        cases eb : ws[k] with
        | tup us =>
          rw [eb] at p2 rx'
          dsimp only [bdT] at p2
          cases e5 : setL is us ρ2 with
          | none => rw [e5] at p2; exact False.elim p2
          | some ρ5 =>
            rw [e5] at p2
            dsimp only at p2
            unfold RelW at rx'
            obtain ⟨b, ys, rfl, f1, f2⟩ := rx'
            refine ⟨b, ys, rfl, f1, by rw [← f2.length]; exact setL_len e5, setL_run f2 R2 e5 fun σ5 R5 => ?_⟩
            refine hb _ st2 _ _ m2 _ S2 R5 ?_
            cases eg : gb ρ5 st2 with
            | nx ρ3 st3 =>
              rw [eg] at p2
              by_cases c : lstOf st3 l = some ws
              · simp only [if_pos c] at p2
                exact fun σ3 m3 H3 e3 S3 R3 => ⟨ρ3, st3, m3, e2.trans e3, S3, R3, c, PostS.shift p2 e3⟩
              · simp only [if_neg c] at p2; exact False.elim p2
            | ct ρ3 st3 =>
              rw [eg] at p2
              by_cases c : lstOf st3 l = some ws
              · simp only [if_pos c] at p2
                exact fun σ3 m3 H3 e3 S3 R3 => ⟨ρ3, st3, m3, e2.trans e3, S3, R3, c, PostS.shift p2 e3⟩
              · simp only [if_neg c] at p2; exact False.elim p2
            | bk ρ3 st3 => rw [eg] at p2; exact p2
            | rt w3 st3 => rw [eg] at p2; exact p2
            | err c3 ρ3 st3 => rw [eg] at p2; exact p2
            | bad => rw [eg] at p2; exact p2
        | _ => rw [eb] at p2; exact False.elim p2
      · have e : k = ws.length := by omega
        subst e
        rw [List.drop_length] at p2
        exact .inl ⟨⟨xs, hq, by omega⟩, p2 σ2 m2 H2 Ext.refl S2 R2⟩
  | _ => exact False.elim p1
end
end J

set_option Elab.async false
set_option linter.all false
set_option maxRecDepth 100000
set_option maxHeartbeats 4000000
namespace J
open PySem PySem.Spec PyProof.Rows L2

/-! ### names of the def around a comprehension -/
def clF (env : Env) : List (Str × NameKind) → List (Str × Addr) → List (Str × Addr)
  | [], acc => acc
  | (n, k) :: r, acc => if k = .free then clF env r ((n, (env.cells.lookup n).getD 0) :: acc) else clF env r acc
theorem clos_run (env : Env) : ∀ (names : List (Str × NameKind)) (acc : List (Str × Addr)), (∀ y ∈ names, y.2 = .free → ∃ c, env.cells.lookup y.1 = some c) →
    (forIn names acc fun x r => match x with
      | (name, kind) => if (kind == NameKind.free) = true then do let c ← cellOf env name; pure (ForInStep.yield ((name, c) :: r)) else (pure (ForInStep.yield r) : Sem _)) = pure (clF env names acc)
  | [], acc, _ => rfl
  | (n, k) :: r, acc, h => by
    have ih := fun acc => clos_run env r acc fun y hy => h y (List.mem_cons_of_mem _ hy)
    rw [List.forIn_cons]
    by_cases hk : k = .free
    · subst hk
      obtain ⟨c, e⟩ := h (n, .free) List.mem_cons_self rfl
      have e' : env.cells.lookup n = some c := e
      have cc : cellOf env n = pure c := by unfold cellOf; rw [e']
      simp only [beq_self_eq_true, if_true, cc]
      have q : clF env ((n, .free) :: r) acc = clF env r ((n, c) :: acc) := by
        show (if NameKind.free = .free then clF env r ((n, (env.cells.lookup n).getD 0) :: acc) else _) = _
        rw [if_pos rfl, e']
        rfl
      rw [q, ← ih]
      rfl
    · have hb : (k == NameKind.free) = false := by simpa using hk
      simp only [hb, Bool.false_eq_true, if_false]
      have q : clF env ((n, k) :: r) acc = clF env r acc := by
        show (if k = .free then _ else clF env r acc) = _
        rw [if_neg hk]
      rw [q, ← ih]
      rfl
theorem clos_is {env : Env} {scope : Scope} (h : ∀ y ∈ scope.names, y.2 = .free → ∃ c, env.cells.lookup y.1 = some c) : closureFor scope env = pure (clF env scope.names []) := by
  have q := clos_run env scope.names [] h
  unfold closureFor
  first
    | (rw [← q]; rfl)
    | (simp only [bind_pure]; exact q)
theorem clF_sub {env : Env} : ∀ {names : List (Str × NameKind)} {acc : List (Str × Addr)} {y : Str} {c : Addr}, (∀ y ∈ names, y.2 = .free → ∃ c, env.cells.lookup y.1 = some c) → (∀ y c, acc.lookup y = some c → env.cells.lookup y = some c) → (clF env names acc).lookup y = some c → env.cells.lookup y = some c
  | [], acc, y, c, _, ha, e => ha y c e
  | (n, k) :: r, acc, y, c, h, ha, e => by
    unfold clF at e
    by_cases hk : k = .free
    · rw [if_pos hk] at e
      subst hk
      obtain ⟨c0, e0⟩ := h (n, .free) List.mem_cons_self rfl
      have e0' : env.cells.lookup n = some c0 := e0
      refine clF_sub (fun y hy => h y (List.mem_cons_of_mem _ hy)) (fun y' c' e' => ?_) e
      rw [List.lookup_cons] at e'
      cases q : y' == n with
      | true =>
        rw [q] at e'
        have q' := eq_of_beq q
        subst q'
        rw [e0'] at e' ⊢
        exact e'
      | false => rw [q] at e'; exact ha y' c' e'
    · rw [if_neg hk] at e
      exact clF_sub (fun y hy => h y (List.mem_cons_of_mem _ hy)) ha e
theorem clF_has {env : Env} {y : Str} : ∀ {names : List (Str × NameKind)} {acc : List (Str × Addr)}, ((∃ c, acc.lookup y = some c) ∨ (y, NameKind.free) ∈ names) → ∃ c, (clF env names acc).lookup y = some c
  | [], acc, h => by
    rcases h with h | h
    · exact h
    · cases h
  | (n, k) :: r, acc, h => by
    unfold clF
    by_cases hk : k = .free
    · rw [if_pos hk]
      refine clF_has ?_
      rw [List.lookup_cons]
      cases q : y == n with
      | true => exact .inl ⟨_, rfl⟩
      | false =>
        rcases h with h | h
        · exact .inl h
        · rcases List.mem_cons.mp h with h | h
          · cases h; simp at q
          · exact .inr h
    · rw [if_neg hk]
      refine clF_has ?_
      rcases h with h | h
      · exact .inl h
      · rcases List.mem_cons.mp h with h | h
        · cases h; exact absurd rfl hk
        · exact .inr h
theorem lookup_mem {α β : Type} [BEq α] [LawfulBEq α] {y : α} {k : β} : ∀ {names : List (α × β)}, names.lookup y = some k → (y, k) ∈ names
  | [], h => by cases h
  | (n, j) :: r, h => by
    rw [List.lookup_cons] at h
    cases q : y == n with
    | true =>
      rw [q] at h
      cases h
      have q' := eq_of_beq q
      subst q'
      exact List.mem_cons_self
    | false => rw [q] at h; exact List.mem_cons_of_mem _ (lookup_mem h)
/-- how a name is seen within the block -/
theorem rel_look {env : Env} : ∀ {names : List (Str × NameKind)} {y : Str}, (names.map fun (n, k) => if (k == NameKind.free && env.scope.kind == .function && env.kindOf n == some .cell) then (n, NameKind.cell) else (n, k)).lookup y =
    (names.lookup y).map fun k => if (k == NameKind.free && env.scope.kind == .function && env.kindOf y == some .cell) = true then NameKind.cell else k
  | [], y => rfl
  | (n, k) :: r, y => by
    have ih := rel_look (env := env) (names := r) (y := y)
    show List.lookup y ((if (k == NameKind.free && env.scope.kind == .function && env.kindOf n == some .cell) = true then (n, NameKind.cell) else (n, k)) :: _) = _
    cases q : y == n with
    | true =>
      have q' := eq_of_beq q
      subst q'
      by_cases hc : (k == NameKind.free && env.scope.kind == .function && env.kindOf y == some .cell) = true
      · rw [if_pos hc]
        simp only [List.lookup_cons, beq_self_eq_true, Option.map_some]
        rw [if_pos hc]
      · rw [if_neg hc]
        simp only [List.lookup_cons, beq_self_eq_true, Option.map_some]
        rw [if_neg hc]
    | false =>
      by_cases hc : (k == NameKind.free && env.scope.kind == .function && env.kindOf n == some .cell) = true
      · rw [if_pos hc]; simp only [List.lookup_cons, q]; exact ih
      · rw [if_neg hc]; simp only [List.lookup_cons, q]; exact ih
/-! ### a list comprehension of one clause -/
open Classical in
noncomputable def compG (ck : Hs → Prop) (gt : Wv → Hs → Re Bool) (ge : Wv → Hs → Re Wv) (l : Nat) : List Wv → Hs → Option Hs
  | [], st => some st
  | w :: r, st => match gt w st with
    | .ok false st1 => if ck st1 then compG ck gt ge l r st1 else none
    | .ok true st1 => (match ge w st1 with
      | .ok v st2 => (match mApp (.ref l) v st2 with
        | .ok _ st3 => if ck st3 then compG ck gt ge l r st3 else none
        | _ => none)
      | _ => none)
    | _ => none
abbrev Caps := List (Str × Nat)
def capR (cs : Caps) (ρ : Rho) : Rho := cs.map fun p => (ρ[p.2]?).getD none
def capS (cs : Caps) (σ : St) : St := cs.map fun p => (σ[p.2]?).getD none
theorem cap_rel {K : PySem.W.Frag} {m : Mp} {H : Hp} {ρ : Rho} {σ : St} (cs : Caps) (R : RelEnv K m H ρ σ) : RelEnv K m H (capR cs ρ) (capS cs σ) := by
  refine ⟨by unfold capR capS; simp, fun i w e => ?_⟩
  unfold capR at e
  rw [List.getElem?_map] at e
  cases q : cs[i]? with
  | none => rw [q] at e; cases e
  | some p =>
    rw [q] at e
    have e' : (ρ[p.2]?).getD none = some w := by simpa using e
    cases q2 : ρ[p.2]? with
    | none => rw [q2] at e'; cases e'
    | some o =>
      rw [q2] at e'
      have e2 : o = some w := e'
      subst e2
      obtain ⟨v, h1, h2⟩ := R.get _ _ q2
      refine ⟨v, ?_, h2⟩
      unfold capS
      rw [List.getElem?_map, q]
      simp [h1]
/-- the block's context -/
def compX (X : Cx) (scope : Scope) (x : Str) (cs : Caps) (C : Addr) (s0 : Shared) (H0 : Hp) (fp : List Addr) (pn : List (Addr × Obj)) : Cx where
  prog := X.prog
  w := X.w
  K := X.K
  mg := X.mg
  base := X.base
  A := X.A
  N := x :: cs.map (·.1)
  s₀ := s0
  H₀ := H0
  env := compEnvC scope (clF X.env scope.names []) C X.env
  outer := X.stack
  stack := X.stack
  ex := fp
  fn := fun _ => false
  calm := true
  pn := pn
  xe := fun _ _ => False
structure CScope (X : Cx) (scope : Scope) (x : Str) (cs : Caps) : Prop where
  kind : scope.kind = .function
  look : ∀ y ∈ scope.names, scope.names.lookup y.1 = some y.2
  cell : ∀ y ∈ scope.names, y.2 ≠ .cell
  var : scope.names.lookup x = some .local
  cap : ∀ y ∈ scope.names, y.2 = .free → X.env.kindOf y.1 = some .cell ∨ X.env.kindOf y.1 = some .free
  at_ : ∀ p ∈ cs, X.N[p.2]? = some p.1 ∧ scope.names.lookup p.1 = some .free
  nd : (x :: cs.map (·.1)).Nodup
section
variable {X : Cx} {pins : List (Addr × Obj)} {σ : St} {H : Hp} {s : Shared} {scope : Scope} {x : Str} {cs : Caps}
theorem fp_stack (I : Inv X pins σ H s) {b : Addr} (f : FpOk X pins H b) : b ∉ frs X.stack := fun z => by
  rcases List.mem_cons.mp (I.stkSub b z) with q | q
  · exact f.2.1 q
  · exact f.2.2.1 q
theorem CScope.has (S : CScope X scope x cs) (ok : X.Ok) : ∀ y ∈ scope.names, y.2 = .free → ∃ c, X.env.cells.lookup y.1 = some c := fun y hy e => ok.has y.1 (S.cap y hy e)
theorem CScope.sub (S : CScope X scope x cs) (ok : X.Ok) {y : Str} {c : Addr} (e : (clF X.env scope.names []).lookup y = some c) : X.env.cells.lookup y = some c :=
  clF_sub (S.has ok) (fun _ _ z => by cases z) e
theorem CScope.kindIn (S : CScope X scope x cs) (ok : X.Ok) {C : Addr} {y : Str} (h : (compEnvC scope (clF X.env scope.names []) C X.env).kindOf y = some .cell ∨ (compEnvC scope (clF X.env scope.names []) C X.env).kindOf y = some .free) : scope.names.lookup y = some .free := by
  have q : (compEnvC scope (clF X.env scope.names []) C X.env).kindOf y = (scope.names.lookup y).map fun k => if (k == NameKind.free && X.env.scope.kind == .function && X.env.kindOf y == some .cell) = true then NameKind.cell else k := rel_look
  rw [q] at h
  cases e : scope.names.lookup y with
  | none => rw [e] at h; simp at h
  | some k =>
    rw [e] at h
    simp only [Option.map_some, Option.some.injEq] at h
    by_cases hk : k = .free
    · rw [hk]
    · have hb : (k == NameKind.free) = false := by simpa using hk
      rw [hb] at h
      simp only [Bool.false_and, Bool.false_eq_true, if_false] at h
      rcases h with h | h
      · exact absurd h (S.cell (y, k) (lookup_mem e))
      · exact absurd h hk
theorem CScope.free_vis (S : CScope X scope x cs) {C : Addr} {y : Str} (e : scope.names.lookup y = some .free) : (compEnvC scope (clF X.env scope.names []) C X.env).kindOf y = some .cell ∨ (compEnvC scope (clF X.env scope.names []) C X.env).kindOf y = some .free := by
  have q : (compEnvC scope (clF X.env scope.names []) C X.env).kindOf y = (scope.names.lookup y).map fun k => if (k == NameKind.free && X.env.scope.kind == .function && X.env.kindOf y == some .cell) = true then NameKind.cell else k := rel_look
  rw [q, e]
  simp only [Option.map_some]
  split
  · exact .inl rfl
  · exact .inr rfl
theorem comp_inv {fp : List Addr} {h2 : Heap} {tk : Nat} (S : CScope X scope x cs) (hc : X.calm = true) (I : Inv X pins σ H s) (hf : ∀ b ∈ fp, FpOk X pins H b) (hl : ∀ b ∈ fp, b < s.heap.objs.size)
    (ns : h2.Ns s.heap.objs.size (fun y => ([] : List (Str × Value)).reverse.lookup y)) (sb : Heap.SameBut s.heap.objs.size (s.heap.push { cls := .type "dict", data := .dict #[] }) h2) :
    Inv (compX X scope x cs s.heap.objs.size s H fp (X.pn ++ pins)) [] (none :: capS cs σ) H { s with heap := h2, toks := tk } := by
  have keep : ∀ b o, s.heap.get? b = some o → h2.get? b = some o := fun b o e => (sb.2 b (Nat.ne_of_lt (Heap.lt_size e))).trans (Heap.get?_push_of_some _ e)
  have sub : ∀ {y : Str} {c : Addr}, (clF X.env scope.names []).lookup y = some c → X.env.cells.lookup y = some c := fun e => S.sub I.ok e
  have cellK : ∀ y c, X.env.cells.lookup y = some c → ∀ v, s.heap.IsCell c v → h2.IsCell c v := fun y c _ v ⟨o, ho, hd⟩ => ⟨o, keep c o ho, hd⟩
  refine ⟨⟨I.ok.mod, S.kind, I.ok.glob, I.ok.blt, Nat.le_refl _, (fun y z c e1 e2 => I.ok.inj y z c (sub e1) (sub e2)), fun y h => clF_has (.inr (lookup_mem (S.kindIn I.ok h))), (fun y c e => by cases e), fun _ => I.ok.hd hc, I.ok.frames, .inl rfl, fun b hb => ⟨Nat.ne_of_lt (hl b hb), fun y c e => (hf b hb).2.2.2.2.1 y c (sub e)⟩, I.bs, Nat.le_trans I.ok.bsz I.sz, fun b o e hb => ?_, fun b hb => fp_stack I (hf b hb), I.stack, I.stkFree⟩, rfl, I.bare, Un.kept keep, ⟨_, ns, fun i y v e1 e2 e3 => ?_⟩, (fun y c e => ?_), I.fresh, (fun y c e => I.freeC y c (sub e)), fun p hp => ?_, I.hok.kept keep, by unfold compX capS; simp⟩
  · rcases (hf b hb).2.2.2.1 with z | z
    · exact I.ok.noex b o e z
    · exact absurd (Nat.lt_of_lt_of_le (Heap.lt_size e) (Nat.le_trans I.ok.bsz z)) (Nat.lt_irrefl _)
  · cases i with
    | zero => cases e2
    | succ i =>
      have e1' : (cs.map (·.1))[i]? = some y := e1
      have e2' : (capS cs σ)[i]? = some (some v) := e2
      unfold capS at e2'
      rw [List.getElem?_map] at e1' e2'
      cases q : cs[i]? with
      | none => rw [q] at e1'; cases e1'
      | some p =>
        rw [q] at e1' e2'
        have y1 : p.1 = y := by simpa using e1'
        have e4 : (σ[p.2]?).getD none = some v := by simpa using e2'
        have e5 : σ[p.2]? = some (some v) := by
          cases q2 : σ[p.2]? with
          | none => rw [q2] at e4; cases e4
          | some o =>
            rw [q2] at e4
            have : o = some v := e4
            rw [this]
        have hp := S.at_ p (List.mem_iff_getElem?.mpr ⟨i, q⟩)
        rw [y1] at hp
        have kd := S.cap (y, .free) (lookup_mem hp.2) rfl
        obtain ⟨m, hn, hl'⟩ := I.loc
        obtain ⟨u, r, l⟩ := hl' p.2 y v hp.1 e5 (.inr kd)
        refine ⟨u, r, .inr ⟨S.free_vis hp.2, ?_⟩⟩
        rcases l with ⟨l, _⟩ | ⟨_, c, e, z⟩
        · rcases kd with kd | kd
          · have kd' : X.env.kindOf y = some .cell := kd
            rw [kd'] at l; cases l
          · have kd' : X.env.kindOf y = some .free := kd
            rw [kd'] at l; cases l
        · obtain ⟨c', e'⟩ := clF_has (env := X.env) (y := y) (names := scope.names) (acc := []) (.inr (lookup_mem hp.2))
          have := sub e'
          rw [e] at this
          cases this
          exact ⟨c, e', cellK y c e _ z⟩
  · obtain ⟨v, z⟩ := I.cell y c (sub e)
    exact ⟨v, cellK y c (sub e) v z⟩
  · rw [List.append_nil] at hp
    obtain ⟨e, n, ne, nf, d⟩ := I.pin p hp
    refine ⟨keep _ _ e, n, Nat.ne_of_lt (Heap.lt_size e), fun z => ?_, d⟩
    rcases List.mem_cons.mp (I.stkSub p.1 z) with q | q
    · exact ne q
    · exact nf q
/-- behind the block -/
theorem comp_end {fp : List Addr} {Hb He : Hp} {sb se : Shared} {C : Addr} {σ' : St} {pins' : List (Addr × Obj)} (I : Inv X pins σ Hb sb) (hf : ∀ b ∈ fp, FpOk X pins Hb b) (J : Inv (compX X scope x cs C sb Hb fp (X.pn ++ pins)) pins' σ' He se) : Inv X pins σ He se := by
  have un : Un (frs X.stack) fp Hb He sb.heap se.heap := J.base
  exact I.call' (ch := fp) J.os un J.hok J.bare fun b hb => ⟨(hf b hb).2.2.2.1, (hf b hb).2.1, (hf b hb).2.2.2.2.1, fun p hp => (hf b hb).2.2.2.2.2 p hp⟩
/-- the block's names let go -/
theorem comp_gone {He : Hp} {se : Shared} {C : Addr} {h2 : Heap} (I : Inv X pins σ He se) (f : FpOk X pins He C) (same : Heap.SameBut C se.heap h2) : Inv X pins σ He { se with heap := h2 } :=
  I.turned (t' := se.toks) (it := C) (fun b o hb e => (same.2 b hb).trans e) f.1 f.2.1 f.2.2.2.1 f.2.2.2.2.1 f.2.2.2.2.2
end
def JTs (X : Cx) (ifs : List Expr) (g : GT) : Prop := ∀ (ρ : Rho) (st : Hs) (σ : St) (H : Hp) (m : Mp) (Q : Bool → Hp → Prop), Sim X.K m st H → RelEnv X.K m H ρ σ → PostT X σ m H (g ρ st) Q → ∀ (pins : List (Addr × Obj)) (s : Shared), Inv X pins σ H s →
  wpAny (model X.prog X.w) X.A (forIn ifs true fun c r => if r = true then do let ok ← isTrue c X.env (eval c X.env); pure (ForInStep.yield ok) else pure (ForInStep.yield r)) (TP X pins σ Q) X.xe s
section
variable {X : Cx}
theorem jts_nil : JTs X [] (fun _ st => .ok true st) := fun ρ st σ H m Q S R p pins s I => wpAny_tests_nil ⟨H, I, p m H Ext.refl S⟩
theorem jts_one {c : Expr} {g : GT} (h : JT X c g) : JTs X [c] g := fun ρ st σ H m Q S R p pins s I => wpAny_tests_one (h ρ st σ H m Q S R p pins s I)
/-- the block, by its iterator's turns -/
theorem comp_block {pins : List (Addr × Obj)} {σ : St} {ρ : Rho} {scope : Scope} {x : Str} {cs : Caps} {px pos : Pos} {elt iter : Expr} {ifs : List Expr} {gt : GT} {ge : GE} {ck : Hs → Prop} {ws : List Wv} {E : Value → Shared → Prop}
    {RR : Value → Addr → Result → Shared → Prop}
    {it : Addr} {fp : List Addr} {tn : Nat → Heap → Prop} {J' : It} {H2 : Hp} {s2 : Shared} {m1 : Mp} {st1 stF : Hs} (S : CScope X scope x cs) (hc : X.calm = true) (I2 : Inv X pins σ H2 s2) (T : Turn X.prog X.w X.K (.Name x px) J' fp it tn) (t0 : tn 0 s2.heap) (f2 : ∀ b ∈ fp, FpOk X pins H2 b)
    (S1 : Sim X.K m1 st1 H2) (R : RelEnv X.K m1 H2 ρ σ) (hck : ck (st1 ++ [.lst []])) (run : compG ck (fun w => gt (some w :: capR cs ρ)) (fun w => ge (some w :: capR cs ρ)) st1.length ws (st1 ++ [.lst []]) = some stF)
    (hE : ∀ C s0 H0 pn, JE (compX X scope x cs C s0 H0 fp pn) elt ge) (hT : ∀ C s0 H0 pn, JTs (compX X scope x cs C s0 H0 fp pn) ifs gt)
    (hgo : ∀ (k : Nat) (H : Hp) (m' : Mp) (st : Hs), Ext X.K m1 H2 m' H → Sim X.K m' st H → ck st → k < ws.length → J'.go k H) (hstop : ∀ (k : Nat) (H : Hp) (m' : Mp) (st : Hs), Ext X.K m1 H2 m' H → Sim X.K m' st H → ck st → k = ws.length → J'.stop k H)
    (hy : ∀ (k : Nat) (hk : k < ws.length) (H : Hp) (v : V) (H' : Hp) (m' : Mp) (st : Hs), Ext X.K m1 H2 m' H → Sim X.K m' st H → ck st → J'.yld k H v H' → H' = H ∧ RelW X.K m' H ws[k] v)
    (fin : ∀ (D C : Addr) (mm : Str → Option Value) (m' : Mp) (H' : Hp) (s' : Shared), Ext X.K m1 H2 m' H' → Sim X.K m' stF H' → m'[st1.length]? = some D → Inv X pins σ H' s' → FpOk X pins H' C → s'.heap.Ns C mm → (∀ y c, X.env.cells.lookup y = some c → c ≠ C) → RR (.ref D) C (.ok .next) s') :
    wpAny (model X.prog X.w) X.A (newList []) (fun acc s3 => wpAny (model X.prog X.w) X.A (newFunctionEnv scope X.env.globals (clF X.env scope.names []) [] X.env.qual none .none (some X.env)) (fun cenv s4 =>
      codeAny (model X.prog X.w) X.A (.compStart (.ListComp elt [⟨.Name x px, iter, ifs, 0⟩] scope pos) 0 (.ref it) acc { cenv with scope := relabel scope X.env }) (RR acc cenv.locals) s4) E s3) E s2 := by
  refine wpAny_newList ?_
  have I3 : Inv X pins σ (upd H2 s2.heap.objs.size (.lst [])) { s2 with heap := s2.heap.push { cls := .type "list", data := .seq ([] : List Value).toArray } } := I2.lnew (ys := []) (its := []) (t' := s2.toks) .nil (Nat.zero_le _)
  have lt2 : ∀ b ∈ fp, b < s2.heap.objs.size := fun b hb => by
    obtain ⟨o, e, _⟩ := T.obj _ _ t0 b hb
    exact Heap.lt_size e
  have hD : H2 s2.heap.objs.size = none := I2.fresh
  have f3 : ∀ b ∈ fp, FpOk X pins (upd H2 s2.heap.objs.size (.lst [])) b := fun b hb => ⟨by rw [upd_ne (Nat.ne_of_lt (lt2 b hb))]; exact (f2 b hb).1, (f2 b hb).2⟩
  have S3 := S1.alloc (ws := []) (xs := []) hD RelWs.nil
  have e3 : Ext X.K m1 H2 (m1 ++ [s2.heap.objs.size]) (upd H2 s2.heap.objs.size (.lst [])) := Ext.more.trans (Ext.upd (.inl hD))
  have lab : (m1 ++ [s2.heap.objs.size])[st1.length]? = some s2.heap.objs.size := by
    rw [← S1.len, List.getElem?_append_right (Nat.le_refl _), Nat.sub_self]; rfl
  generalize hs3 : ({ s2 with heap := s2.heap.push { cls := .type "list", data := .seq ([] : List Value).toArray } } : Shared) = s3 at I3
  have k23 : ∀ b o, s2.heap.get? b = some o → s3.heap.get? b = some o := fun b o e => by rw [← hs3]; exact Heap.get?_push_of_some _ e
  have lt3 : ∀ b ∈ fp, b < s3.heap.objs.size := fun b hb => by
    obtain ⟨o, e, _⟩ := T.obj _ _ t0 b hb
    exact Heap.lt_size (k23 b o e)
  generalize hDD : s2.heap.objs.size = D at *
  generalize hH3 : upd H2 D (.lst []) = H3 at *
  generalize hm3 : m1 ++ [D] = m3 at *
  have R3 : RelEnv X.K m3 H3 (capR cs ρ) (capS cs σ) := (cap_rel cs R).mono e3
  generalize hrr : capR cs ρ = ρc at *
  generalize hss : capS cs σ = σc at *
  refine wpAny_newFunctionEnv S.cell (fun _ z => nomatch z) (fun h4 ns4 sb4 => ?_) S.kind
  have Ic := comp_inv (tk := s3.toks + ([] : List (Str × Value)).length) S hc I3 f3 lt3 ns4 sb4
  rw [hss] at Ic
  have k34 : ∀ b o, s3.heap.get? b = some o → h4.get? b = some o := fun b o e => (sb4.2 b (Nat.ne_of_lt (Heap.lt_size e))).trans (Heap.get?_push_of_some _ e)
  have t4 : tn 0 h4 := T.keep _ _ _ t0 fun b _ o e => k34 b o (k23 b o e)
  let Xc := compX X scope x cs s3.heap.objs.size s3 H3 fp (X.pn ++ pins)
  have vis : Xc.env.scope.names.lookup x = some .local := lookup_relabel_local S.var
  have fpc : ∀ (H' : Hp), (∀ b ∈ fp, H' b = none) → ∀ b ∈ fp, FpOk Xc [] H' b := fun H' hn b hb => ⟨hn b hb, Nat.ne_of_lt (lt3 b hb), fp_stack I3 (f3 b hb), .inl hb, fun y c e => (f3 b hb).2.2.2.2.1 y c (S.sub I3.ok e), fun p hp => (f2 b hb).2.2.2.2.2 p (by have hp' : p ∈ (X.pn ++ pins) ++ [] := hp; rw [List.append_nil] at hp'; exact hp')⟩
  let Pv : Nat → Shared → Prop := fun k s' => ∃ z H' st m', Inv Xc [] (z :: σc) H' s' ∧ tn k s'.heap ∧ (∀ b ∈ fp, H' b = none) ∧ Ext X.K m3 H3 m' H' ∧ Sim X.K m' st H' ∧ ck st ∧ compG ck (fun w => gt (some w :: ρc)) (fun w => ge (some w :: ρc)) st1.length (ws.drop k) st = some stF
  have loop : ∀ s4 : Shared, Pv 0 s4 → codeAny (model X.prog X.w) X.A (.compLoop (.ListComp elt [⟨.Name x px, iter, ifs, 0⟩] scope pos) 0 (.ref it) (.ref D) (compEnvC scope (clF X.env scope.names []) s3.heap.objs.size X.env)) (RR (.ref D) s3.heap.objs.size) s4 := fun s4 p0 => by
    refine codeAny_compLoop_tests (fun n s' => ∃ k, n = ws.length - k ∧ k ≤ ws.length ∧ Pv k s') ?_ ws.length ⟨0, by simp, Nat.zero_le _, p0⟩
    rintro n s5 ⟨k, rfl, hk, z5, H5, st5, m5, I5, tn5, fr5, e5, S5, c5, run5⟩
    have e15 := e3.trans e5
    by_cases hlt : k < ws.length
    · refine thn (T.item Xc rfl rfl rfl rfl k [] s5 (z5 :: σc) H5 _ I5 (fpc H5 fr5) tn5 (hgo k H5 m5 st5 e15 S5 c5 hlt)) fun r s6 h6 => ?_
      obtain ⟨u, rfl, h6⟩ := h6
      show wpAny (model X.prog X.w) X.A (pure () >>= fun _ => assign (.Name x px) Xc.env u) _ _ s6
      refine wpAny_bind (thn h6 fun _ s7 h7 => ?_)
      obtain ⟨v, H7, I7, rv, yl, tn7, fr7⟩ := h7
      obtain ⟨rfl, rw7⟩ := hy k hlt H5 v H7 m5 st5 e15 S5 c5 yl
      have I7' := I7.pinned (fpc H7 fr7) (T.obj _ _ tn7)
      refine wpAny_assign_Name (store_ok (i := 0) I7' S.nd rfl (.inl vis) rv (fun s8 I8 => ?_) (.inr vis))
      have I8' : Inv Xc ([] ++ pinsAt fp s7.heap) (some v :: σc) H7 s8 := I8
      have R8 : RelEnv X.K m5 H7 (some ws[k] :: ρc) (some v :: σc) := by
        have R5 := R3.mono e5
        refine ⟨by simp [R5.len], fun i w e => ?_⟩
        cases i with
        | zero =>
          cases e
          exact ⟨v, rfl, rw7⟩
        | succ i => exact R5.get i w e
      have ed : ws.drop k = ws[k] :: ws.drop (k + 1) := List.drop_eq_getElem_cons hlt
      rw [ed] at run5
      unfold compG at run5
      have back : ∀ {H' : Hp} {s' : Shared} {m' : Mp} {st : Hs}, Inv Xc ([] ++ pinsAt fp s7.heap) (some v :: σc) H' s' → Ext X.K m3 H3 m' H' → Sim X.K m' st H' → ck st → compG ck (fun w => gt (some w :: ρc)) (fun w => ge (some w :: ρc)) st1.length (ws.drop (k + 1)) st = some stF → ∃ n', n' < ws.length - k ∧ ∃ k', n' = ws.length - k' ∧ k' ≤ ws.length ∧ Pv k' s' :=
        fun {H' s' m' st} I' e' S' c' r' => ⟨ws.length - (k + 1), by omega, k + 1, rfl, hlt, some v, H', st, m', I'.unpinned, T.keep _ _ _ tn7 fun b hb o e => (I'.pin (b, o) (List.mem_append_right _ (List.mem_append_right _ (mem_pinsAt hb e)))).1, fun b hb => by
          obtain ⟨o, e, _⟩ := T.obj _ _ tn7 b hb
          exact (I'.pin (b, o) (List.mem_append_right _ (List.mem_append_right _ (mem_pinsAt hb e)))).2.1, e', S', c', r'⟩
      cases eg : gt (some ws[k] :: ρc) st5 with
      | err c st6 => rw [eg] at run5; cases run5
      | bad => rw [eg] at run5; cases run5
      | ok b st6 =>
        rw [eg] at run5
        have tst := hT s3.heap.objs.size s3 H3 (X.pn ++ pins) (some ws[k] :: ρc) st5 (some v :: σc) H7 m5 (fun b' H' => b' = b ∧ ∃ m', Ext X.K m5 H7 m' H' ∧ Sim X.K m' st6 H') S5 R8 (by rw [eg]; exact fun m' H' e' S' => ⟨rfl, m', e', S'⟩) ([] ++ pinsAt fp s7.heap) s8 I8'
        refine wpAny_mono tst (fun ok s9 h9 => ?_) fun _ _ z => False.elim z
        obtain ⟨H9, I9, rfl, m9, e9, S9⟩ := h9
        cases ok with
        | false =>
          dsimp only at run5
          by_cases c6 : ck st6
          · rw [if_pos c6] at run5
            rw [if_neg Bool.false_ne_true]
            exact back I9 (e5.trans e9) S9 c6 run5
          · rw [if_neg c6] at run5; cases run5
        | true =>
          dsimp only at run5
          rw [if_pos rfl]
          cases ee : ge (some ws[k] :: ρc) st6 with
          | err c st7 => rw [ee] at run5; cases run5
          | bad => rw [ee] at run5; cases run5
          | ok w st7 =>
            rw [ee] at run5
            dsimp only at run5
            cases ea : mApp (.ref st1.length) w st7 with
            | err c st8 => rw [ea] at run5; cases run5
            | bad => rw [ea] at run5; cases run5
            | ok w2 st8 =>
              rw [ea] at run5
              dsimp only at run5
              by_cases c8 : ck st8
              · rw [if_pos c8] at run5
                have el := hE s3.heap.objs.size s3 H3 (X.pn ++ pins) (some ws[k] :: ρc) st6 (some v :: σc) H9 m9 (fun v' H' => ∃ m', Ext X.K m9 H9 m' H' ∧ Sim X.K m' st7 H' ∧ RelW X.K m' H' w v') S9 (R8.mono e9) (by rw [ee]; exact fun v' m' H' e' S' r' => ⟨m', e', S', r'⟩) ([] ++ pinsAt fp s7.heap) s9 I9
                refine wpAny_mono el (fun u2 s10 h10 => ?_) fun _ _ z => False.elim z
                obtain ⟨v2, H10, I10, r2, m10, e10, S10, rw10⟩ := h10
                obtain ⟨r, h1, h2⟩ := mw_app (X := Xc)
                have eA := (e5.trans e9).trans e10
                have ro : RelW X.K m10 H10 (.ref st1.length) (.ref D) := by unfold RelW; exact ⟨D, rfl, eA.pre _ _ lab⟩
                have rd := h2 (.ref st1.length) w (.ref D) v2 st7 H10 m10 (fun _ H' => ∃ m', Ext X.K m10 H10 m' H' ∧ Sim X.K m' st8 H') S10 ro rw10 (by rw [ea]; exact fun v' m' H' e' S' r' => ⟨m', e', S'⟩)
                refine wpAny_mono (h1 ([] ++ pinsAt fp s7.heap) s10 (some v :: σc) H10 (.ref D) [v2] (.ref D) [u2] _ I10 rfl (.cons r2 .nil) rd) (fun _ s11 h11 => ?_) fun _ _ z => False.elim z
                obtain ⟨_, H11, I11, _, m11, e11, S11⟩ := h11
                exact back I11 (eA.trans e11) S11 c8 run5
              · rw [if_neg c8] at run5; cases run5
    · have ek : k = ws.length := by omega
      subst ek
      refine thn (T.done Xc rfl rfl rfl rfl _ [] s5 (z5 :: σc) H5 _ I5 (fpc H5 fr5) tn5 (hstop _ H5 m5 st5 e15 S5 c5 rfl)) fun r s6 h6 => ?_
      obtain ⟨rfl, I6⟩ := h6
      rw [List.drop_length] at run5
      cases run5
      obtain ⟨mm, ns6, _⟩ := id I6.loc
      have fC := I3.fpOk (H' := H5) (Nat.le_refl _) I6.free
      exact fin D _ mm m5 H5 _ e15 S5 (e5.pre _ _ lab) (comp_end I3 f3 I6) fC ns6 fC.2.2.2.2.1
  have p0 : Pv 0 { s3 with heap := h4, toks := s3.toks + ([] : List (Str × Value)).length } := ⟨none, H3, st1 ++ [Ob.lst []], m3, Ic, t4, fun b hb => (f3 b hb).1, Ext.refl, S3, hck, by rw [List.drop_zero]; exact run⟩
  exact codeAny_compStart_list (loop _ p0) (T.self X.A 0 _ _ _ t4 (loop _ p0))
end
end J

set_option Elab.async false
set_option linter.all false
set_option maxRecDepth 100000
set_option maxHeartbeats 4000000
namespace J
open PySem PySem.Spec PyProof.Rows L2

/-! ### what is walked: a list as it stands (it must stay), or what cannot turn -/
abbrev Wk := Option Nat × List Wv
def ckOf (w : Wk) (st : Hs) : Prop := match w.1 with
  | some l => lstOf st l = some w.2
  | none => True
structure ItFor (X : Cx) (w : Wk) (m1 : Mp) (H1 : Hp) (J' : It) : Prop where
  go : ∀ (k : Nat) (H : Hp) (m' : Mp) (st : Hs), Ext X.K m1 H1 m' H → Sim X.K m' st H → ckOf w st → k < w.2.length → J'.go k H
  stop : ∀ (k : Nat) (H : Hp) (m' : Mp) (st : Hs), Ext X.K m1 H1 m' H → Sim X.K m' st H → ckOf w st → k = w.2.length → J'.stop k H
  yld : ∀ (k : Nat) (hk : k < w.2.length) (H : Hp) (v : V) (H' : Hp) (m' : Mp) (st : Hs), Ext X.K m1 H1 m' H → Sim X.K m' st H → ckOf w st → J'.yld k H v H' → H' = H ∧ RelW X.K m' H w.2[k] v
abbrev GI := Rho → Hs → Re Wk
def JI (X : Cx) (tg iter : Expr) (gi : GI) : Prop := ∃ wi, PI X tg iter wi ∧ ∀ (ρ : Rho) (st : Hs) (σ : St) (H : Hp) (m : Mp) (R : It → Hp → Prop), Sim X.K m st H → RelEnv X.K m H ρ σ →
  PostG X σ m H (gi ρ st) (fun w st1 => ∀ (m1 : Mp) (H1 : Hp) (J' : It), Ext X.K m H m1 H1 → Sim X.K m1 st1 H1 → ckOf w st1 → ItFor X w m1 H1 J' → R J' H1) → wi σ H R
def seqW (w : Wv) (st : Hs) : Re Wk := match w with
  | .ref l => (match lstOf st l with | some ws => .ok (some l, ws) st | none => .bad)
  | .tup ws => .ok (none, ws) st
  | _ => .bad
def giSeq (g : GE) : GI := fun ρ st => (g ρ st).bind seqW
section
variable {X : Cx}
theorem ji_seq {tg iter : Expr} {g : GE} (h : JE X iter g) : JI X tg iter (giSeq g) := by
  refine ⟨_, pi_seq pe_SE, fun ρ st σ H m Q S R p => ?_⟩
  refine h.go S R (PostG.bind p) fun w st1 v m1 H1 p1 e1 S1 rw' => ?_
  cases w with
  | ref l =>
    unfold RelW at rw'
    obtain ⟨a, rfl, hla⟩ := rw'
    unfold seqW at p1
    cases el : lstOf st1 l with
    | none => simp only [el] at p1; exact False.elim p1
    | some ws =>
      simp only [el] at p1
      obtain ⟨xs0, q0, _⟩ := S1.read hla el
      refine ⟨a, rfl, .inl ⟨⟨xs0, q0⟩, p1 m1 H1 _ e1 S1 el ⟨fun k H' m' st' e S' c hk => ?_, fun k H' m' st' e S' c hk => ?_, fun k hk H' v H'' m' st' e S' c y => ?_⟩⟩⟩
      · obtain ⟨xs, hq, rws⟩ := S'.read (e.pre _ _ hla) c
        have hx' : k < xs.length := by rw [← rws.length]; exact hk
        exact ⟨xs, xs[k], hq, by simp [hx']⟩
      · obtain ⟨xs, hq, rws⟩ := S'.read (e.pre _ _ hla) c
        exact ⟨xs, hq, by rw [← rws.length, hk]; exact Nat.le_refl _⟩
      · obtain ⟨xs, hq, rws⟩ := S'.read (e.pre _ _ hla) c
        obtain ⟨ee, y⟩ := y
        refine ⟨ee, ?_⟩
        obtain ⟨x', ex', rx'⟩ := rws.get (i := k) (w := ws[k]) (List.getElem?_eq_getElem hk)
        rw [y xs hq] at ex'
        cases ex'
        exact rx'
  | tup ws =>
    unfold RelW at rw'
    obtain ⟨a, xs, rfl, hq, rws⟩ := rw'
    refine ⟨a, rfl, .inr ⟨⟨xs, hq⟩, p1 m1 H1 _ e1 S1 trivial ⟨fun k H' m' st' e S' c hk => ?_, fun k H' m' st' e S' c hk => ?_, fun k hk H' v H'' m' st' e S' c y => ?_⟩⟩⟩
    · have hx' : k < xs.length := by rw [← rws.length]; exact hk
      exact ⟨xs, xs[k], e.tup _ _ hq, by simp [hx']⟩
    · exact ⟨xs, e.tup _ _ hq, by rw [← rws.length, hk]; exact Nat.le_refl _⟩
    · obtain ⟨ee, y⟩ := y
      refine ⟨ee, ?_⟩
      obtain ⟨x', ex', rx'⟩ := (RelWs.mono e _ _ rws).get (i := k) (w := ws[k]) (List.getElem?_eq_getElem hk)
      rw [y xs (e.tup _ _ hq)] at ex'
      cases ex'
      exact rx'
  | _ => exact False.elim p1
theorem it_rng {lo : Int} {n : Nat} {m1 : Mp} {H1 : Hp} : ItFor X (none, rngW lo n) m1 H1 (Itr lo n) where
  go := fun k H m' st e S c hk => by
    have : (rngW lo n).length = n := rngW_len
    have hk' : k < (rngW lo n).length := hk
    rw [this] at hk'; exact hk'
  stop := fun k H m' st e S c hk => by
    have : (rngW lo n).length = n := rngW_len
    have hk' : k = (rngW lo n).length := hk
    rw [this] at hk'; exact Nat.le_of_eq hk'.symm
  yld := fun k hk H v H' m' st e S c y => by
    obtain ⟨y1, y2⟩ := y
    refine ⟨y1, ?_⟩
    have q : (rngW lo n)[k]'hk = .int (lo + k) := rngW_get hk
    show RelW X.K m' H ((rngW lo n)[k]'hk) v
    rw [q, y2]
    exact mkInt
noncomputable def rng1W (ws : List Wv) (st : Hs) : Re Wk := match ws with
  | [.int j] => if CRng j then .ok (none, rngW 0 j.toNat) st else .bad
  | _ => .bad
noncomputable def rng2W (ws : List Wv) (st : Hs) : Re Wk := match ws with
  | [.int a, .int j] => if CRng a ∧ CRng j then .ok (none, rngW a (j - a).toNat) st else .bad
  | _ => .bad
noncomputable def giR1 (g : GA) : GI := fun ρ st => (g ρ st).bind rng1W
noncomputable def giR2 (g : GA) : GI := fun ρ st => (g ρ st).bind rng2W
theorem ji_r1 {tg a : Expr} {ga : GA} {p q : Pos} (hg : Gl X "range") (hm : X.mg "range" = none) (ha : JA X [a] ga) (hst : starEach [a] X.env = [(false, eval a X.env)]) : JI X tg (.Call (.Name "range" p) [a] [] q) (giR1 ga) := by
  refine ⟨_, pi_range1 hg hm pa_SA hst, fun ρ st σ H m Q S R p => ?_⟩
  refine ha.go S R (PostG.bind p) fun ws st1 vs m1 H1 p1 e1 S1 rs => ?_
  match ws, rs, p1 with
  | [], rs, p1 => exact False.elim p1
  | x :: y :: t, rs, p1 => cases x <;> exact False.elim p1
  | [x], rs, p1 =>
    obtain ⟨v, rfl, r1⟩ := rel1 rs
    cases x with
    | int j =>
      cases relInt r1
      unfold rng1W at p1
      by_cases c : CRng j
      · simp only [if_pos c] at p1
        exact ⟨j, rfl, c.1, c.2, p1 m1 H1 _ e1 S1 trivial it_rng⟩
      · simp only [if_neg c] at p1; exact False.elim p1
    | _ => exact False.elim p1
theorem ji_r2 {tg a b : Expr} {ga : GA} {p q : Pos} (hg : Gl X "range") (hm : X.mg "range" = none) (ha : JA X [a, b] ga) (hst : starEach [a, b] X.env = [(false, eval a X.env), (false, eval b X.env)]) (hst2 : starEach [b] X.env = [(false, eval b X.env)]) : JI X tg (.Call (.Name "range" p) [a, b] [] q) (giR2 ga) := by
  refine ⟨_, pi_range2 hg hm pa_SA hst hst2, fun ρ st σ H m Q S R p => ?_⟩
  refine ha.go S R (PostG.bind p) fun ws st1 vs m1 H1 p1 e1 S1 rs => ?_
  match ws, rs, p1 with
  | [], rs, p1 => exact False.elim p1
  | [x], rs, p1 => cases x <;> exact False.elim p1
  | x :: y :: z :: t, rs, p1 => cases x <;> cases y <;> exact False.elim p1
  | [x, y], rs, p1 =>
    obtain ⟨v, v', rfl, r1, r2⟩ := rel2 rs
    cases x with
    | int a =>
      cases y with
      | int j =>
        cases relInt r1; cases relInt r2
        unfold rng2W at p1
        by_cases c : CRng a ∧ CRng j
        · simp only [if_pos c] at p1
          exact ⟨a, j, rfl, ⟨c.1.1, c.1.2, c.2.1, c.2.2⟩, p1 m1 H1 _ e1 S1 trivial it_rng⟩
        · simp only [if_neg c] at p1; exact False.elim p1
      | _ => exact False.elim p1
    | _ => cases y <;> exact False.elim p1
def gBadI : GI := fun _ _ => .bad
theorem pi_never {tg iter : Expr} : PI X tg iter (fun _ _ _ => False) := fun _ _ _ _ _ _ h => h.elim
theorem ji_bad {tg iter : Expr} : JI X tg iter gBadI := ⟨_, pi_never, fun ρ st σ H m Q S R p => p⟩

/-! ### the comprehension -/
noncomputable def compRun (cs : Caps) (gt : GT) (ge : GE) (ρ : Rho) (w : Wk) (st : Hs) : Re Wv := match compG (ckOf w) (fun v => gt (some v :: capR cs ρ)) (fun v => ge (some v :: capR cs ρ)) st.length w.2 (st ++ [.lst []]) with
  | some stF => .ok (.ref st.length) stF
  | none => .bad
noncomputable def gComp (cs : Caps) (gi : GI) (gt : GT) (ge : GE) : GE := fun ρ st => (gi ρ st).bind fun w st1 => compRun cs gt ge ρ w st1
theorem lstOf_app {st : Hs} {l : Nat} {ws : List Wv} {more : Hs} (h : lstOf st l = some ws) : lstOf (st ++ more) l = some ws := by
  unfold lstOf at h ⊢
  cases e : st[l]? with
  | none => rw [e] at h; cases h
  | some o =>
    have hl := (List.getElem?_eq_some_iff.mp e).1
    rw [List.getElem?_append_left hl, e]
    rw [e] at h
    exact h
theorem ckOf_app {w : Wk} {st more : Hs} (h : ckOf w st) : ckOf w (st ++ more) := by
  obtain ⟨o, ws⟩ := w
  cases o with
  | none => trivial
  | some l => exact lstOf_app h
theorem comp_go {scope : Scope} {x : Str} {cs : Caps} {px pos : Pos} {elt iter : Expr} {ifs : List Expr} {gi : GI} {gt : GT} {ge : GE} {use : Option (Value → Sem Unit)} {Q : Value → Shared → Prop} {P : Wv → Hs → Prop}
    {ρ : Rho} {st : Hs} {σ : St} {H : Hp} {m : Mp} {pins : List (Addr × Obj)} {s : Shared} {ps : Pos}
    (CS : CScope X scope x cs) (hc : X.calm = true) (hi : JI X (.Name x px) iter gi) (hE : ∀ C s0 H0 fp pn, JE (compX X scope x cs C s0 H0 fp pn) elt ge) (hT : ∀ C s0 H0 fp pn, JTs (compX X scope x cs C s0 H0 fp pn) ifs gt) (hs : ∀ x, foldedSetIterable iter X.env x = pure x)
    (S : Sim X.K m st H) (R : RelEnv X.K m H ρ σ) (I : Inv X pins σ H s) (p : PostG X σ m H (gComp cs gi gt ge ρ st) P)
    (fin : ∀ (w : Wv) (stF : Hs) (v : V) (D C : Addr) (mm : Str → Option Value) (m' : Mp) (H' : Hp) (s' : Shared), P w stF → Ext X.K m H m' H' → Sim X.K m' stF H' → RelW X.K m' H' w v → v = .ref D → Inv X pins σ H' s' → FpOk X pins H' C → s'.heap.Ns C mm → compPost (model X.prog X.w) X.A X.xe use Q (.ref D) C (.ok .next) s') :
    wpAny (model X.prog X.w) X.A (comprehension (.ListComp elt [⟨.Name x px, iter, ifs, 0⟩] scope pos) scope X.env ps (newList []) false (eval iter X.env) use) Q X.xe s := by
  obtain ⟨wi, hpi, hw⟩ := hi
  let R' : It → Hp → Prop := fun J' H1 => ∃ (w : Wk) (st1 : Hs) (m1 : Mp), PostG X σ m H (compRun cs gt ge ρ w st1) P ∧ Ext X.K m H m1 H1 ∧ Sim X.K m1 st1 H1 ∧ ckOf w st1 ∧ ItFor X w m1 H1 J'
  have hr := hw ρ st σ H m R' S R ((PostG.bind p).imp Ext.refl fun w st1 q m1 H1 J' e1 S1 c1 it1 => ⟨w, st1, m1, q, e1, S1, c1, it1⟩)
  refine wpAny_comprehension_free (g := ⟨.Name x px, iter, ifs, 0⟩) (gs := []) (cl := clF X.env scope.names []) rfl hs (clos_is (CS.has I.ok)) CS.kind (fun y hy e => by rw [CS.look y hy, e]) (thn (hpi pins s σ H R' I hr) fun v s1 h1 => thn h1 fun itv s2 h2 => ?_)
  obtain ⟨it, fp, tn, J', H1, rfl, I2, T, t0, f2, w, st1, m1, q, e1, S1, c1, it1⟩ := h2
  unfold compRun at q
  cases run : compG (ckOf w) (fun v => gt (some v :: capR cs ρ)) (fun v => ge (some v :: capR cs ρ)) st1.length w.2 (st1 ++ [.lst []]) with
  | none => rw [run] at q; exact False.elim q
  | some stF =>
    rw [run] at q
    refine comp_block (RR := fun acc C => compPost (model X.prog X.w) X.A X.xe use Q acc C) CS hc I2 T t0 f2 S1 (R.mono e1) (ckOf_app c1) run (fun C s0 H0 pn => hE C s0 H0 fp pn) (fun C s0 H0 pn => hT C s0 H0 fp pn) it1.go it1.stop it1.yld ?_
    intro D C mm m' H' s' e' S' lab I' fC ns _
    exact fin _ stF (.ref D) D C mm m' H' s' q (e1.trans e') S' (by unfold RelW; exact ⟨D, rfl, lab⟩) rfl I' fC ns
theorem je_comp {scope : Scope} {x : Str} {cs : Caps} {px pos : Pos} {elt iter : Expr} {ifs : List Expr} {gi : GI} {gt : GT} {ge : GE}
    (CS : CScope X scope x cs) (hc : X.calm = true) (hi : JI X (.Name x px) iter gi) (hE : ∀ C s0 H0 fp pn, JE (compX X scope x cs C s0 H0 fp pn) elt ge) (hT : ∀ C s0 H0 fp pn, JTs (compX X scope x cs C s0 H0 fp pn) ifs gt) (hs : ∀ x, foldedSetIterable iter X.env x = pure x) :
    JE X (.ListComp elt [⟨.Name x px, iter, ifs, 0⟩] scope pos) (gComp cs gi gt ge) := fun ρ st σ H m Q S R p pins s I => by
  rw [eval_ListComp]
  refine comp_go (use := none) CS hc hi hE hT hs S R I p ?_
  intro w stF v D C mm m' H' s' q e' S' rw' ev I' fC ns
  exact ⟨mm, ns, fun h' same => ⟨.ref D, H', comp_gone I' fC same, rfl, ev ▸ q v m' H' e' S' rw'⟩⟩
theorem js_setC (i : Nat) {scope : Scope} {x y : Str} {cs : Caps} {px pos spos py : Pos} {elt iter : Expr} {ifs : List Expr} {gi : GI} {gt : GT} {ge : GE} (hN : X.N.Nodup)
    (CS : CScope X scope x cs) (hc : X.calm = true) (hi : JI X (.Name x px) iter gi) (hE : ∀ C s0 H0 fp pn, JE (compX X scope x cs C s0 H0 fp pn) elt ge) (hT : ∀ C s0 H0 fp pn, JTs (compX X scope x cs C s0 H0 fp pn) ifs gt) (hs : ∀ x, foldedSetIterable iter X.env x = pure x)
    (hx : X.N[i]? = some y) (hl : Loc X.env.scope y) (hf : X.fn y = true ∨ X.env.scope.names.lookup y = some .local) :
    JS X (.Assign [.Name y py] (.ListComp elt [⟨.Name x px, iter, ifs, 0⟩] scope pos) spos) (gSet i (gComp cs gi gt ge)) := by
  have sw : ∃ b, swapsWith (.ListComp elt [⟨.Name x px, iter, ifs, 0⟩] scope pos) (some (.Name y py)) spos.line X.env = pure b := ⟨_, rfl⟩
  obtain ⟨b, sw⟩ := sw
  cases b with
  | false => exact js_set i hN (je_comp CS hc hi hE hT hs) hx hl sw hf
  | true =>
    intro ρ st σ H m D S R p pins s I
    rw [exec_Assign_Name_used _ _ _ _ sw]
    refine wpAny_bind (wpAny_standAt (wpAny_bind ?_))
    show wpAny _ X.A (do let _ ← comprehension (.ListComp elt [⟨.Name x px, iter, ifs, 0⟩] scope pos) scope X.env _ (newList []) false (eval iter X.env) (some (assign (.Name y py) X.env))) _ _ s
    refine wpAny_bind (wpAny_mono (comp_go (use := some (assign (.Name y py) X.env)) (Q := fun _ s' => SP X pins D .next s') CS hc hi hE hT hs S R I (PostS.of_thn R p) ?_) (fun _ s' hq => wpAny_pure (wpAny_pure hq)) fun _ _ e => e)
    intro w stF v D' C mm m' H' s' q e' S' rw' ev I' fC ns
    refine wpAny_assign_Name (store_ok2 (i := i) I' hN hx hl (show RelV v (.ref D') by rw [ev]; rfl) (fun s2 I2 h2 => ?_) hf)
    obtain ⟨a, sb, ha⟩ := h2
    have hca : C ≠ a := by
      rcases ha with z | z
      · rw [z]; exact fC.2.1
      · exact Ne.symm (fC.2.2.2.2.1 y a z)
    exact ⟨mm, ns.sameBut sb hca, fun h' same => ⟨_, _, comp_gone I2 fC same, q _ m' H' e' S' ((R.mono e').set i rw')⟩⟩
end
end J

set_option Elab.async false
set_option linter.all false
set_option maxRecDepth 100000
set_option maxHeartbeats 4000000
namespace J
open PySem PySem.Spec PyProof.Rows L2

section
variable {X : Cx}
/-! ### a list times an int; all, list, tuple, sum of a list -/
def CRep (n : Nat) (k : Int) : Prop := -(2 ^ 62) ≤ k ∧ k < 2 ^ 62 ∧ n * k.toNat ≤ lim
noncomputable instance {n k} : Decidable (CRep n k) := Classical.propDecidable _
noncomputable def oMulL : Op2
  | .ref l, .int n, st => match st[l]? with
    | some (.lst ws) => if CRep ws.length n then .ok (.ref st.length) (st ++ [.lst (List.replicate n.toNat ws).flatten]) else .bad
    | _ => .bad
  | x, y, st => oMulS x y st
theorem relWs_rep {K : PySem.W.Frag} {m : Mp} {H : Hp} {ws : List Wv} {xs : List V} (r : RelWs K m H ws xs) : ∀ n : Nat, RelWs K m H (List.replicate n ws).flatten (List.replicate n xs).flatten
  | 0 => RelWs.nil
  | n + 1 => by
    rw [List.replicate_succ, List.flatten_cons, List.replicate_succ, List.flatten_cons]
    exact r.append (relWs_rep r n)
theorem ow_mulL : OpW X (binaryOp .Mult) oMulL := by
  obtain ⟨r, h1, h2⟩ := ow_mulS (X := X)
  refine ⟨_, OpR.or op_rep h1, fun x y a b st H m Q S rx ry p => ?_⟩
  unfold oMulL at p
  split at p
  · rename_i l n
    unfold RelW at rx
    obtain ⟨a1, rfl, hl⟩ := rx
    cases relInt ry
    cases e : st[l]? with
    | none => rw [e] at p; exact False.elim p
    | some o =>
      cases o with
      | scr ns => rw [e] at p; exact False.elim p
      | lst ws =>
        rw [e] at p
        dsimp only at p
        by_cases c : CRep ws.length n
        · rw [if_pos c] at p
          obtain ⟨xs, q1, q2⟩ := S.lstAt hl e
          refine .inl ⟨a1, n, xs, rfl, rfl, q1, by have := c.1; omega, by have := c.2.1; omega, by rw [← q2.length]; exact lim_le c.2.2, fun q hq => ?_⟩
          exact new_list p Ext.refl S (relWs_rep q2 n.toNat) q hq
        · rw [if_neg c] at p; exact False.elim p
  · exact .inr (h2 x y a b st H m Q S rx ry p)
/-- all of a list of bools -/
def blsOf : List Wv → Option (List Bool)
  | [] => some []
  | .bl b :: r => (match blsOf r with | some l => some (b :: l) | none => none)
  | _ => none
def oAll : List Wv → Hs → Re Wv
  | [.ref l], st => match lstOf st l with
    | some ws => (match blsOf ws with | some bs => .ok (.bl (bs.all id)) st | none => .bad)
    | none => .bad
  | _, _ => .bad
theorem blsOf_rel {K : PySem.W.Frag} {m : Mp} {H : Hp} : ∀ {ws : List Wv} {xs : List V} {bs : List Bool}, RelWs K m H ws xs → blsOf ws = some bs → xs = bs.map V.bl
  | [], xs, bs, r, h => by
    unfold RelWs at r
    cases h
    exact r
  | w :: ws, xs, bs, r, h => by
    unfold RelWs at r
    obtain ⟨x, t, rfl, r1, r2⟩ := r
    cases w with
    | bl b =>
      unfold blsOf at h
      cases e : blsOf ws with
      | none => rw [e] at h; cases h
      | some l =>
        rw [e] at h
        cases h
        unfold RelW at r1
        rw [r1, blsOf_rel r2 e]
        rfl
    | _ => cases h
theorem vals_bl : ∀ {bs : List Bool} {its : List Value}, Vals (bs.map V.bl) its → its = bs.map Value.bool
  | [], its, r => by cases r; rfl
  | b :: bs, its, r => by
    cases r with
    | cons h t =>
      cases h
      rw [List.map_cons, vals_bl t]
theorem all_range : ∀ (bs : List Bool), (List.range bs.length).all (fun i => bs.getD i true) = bs.all id
  | [] => rfl
  | b :: bs => by
    rw [List.length_cons, List.range_succ_eq_map, List.all_cons, List.all_map, List.all_cons, ← all_range bs]
    rfl
theorem call_allB (hc : X.calm = true) : CallR X (.builtin "all") (fun xs H Q => ∃ (p : Addr) (bs : List Bool), xs = [.ref p] ∧ SqL X.K H p (bs.map V.bl) ∧ Q (.bl (bs.all id)) H) := by
  intro pins s σ H xs us Q I r h
  obtain ⟨p, bs, rfl, hq, q⟩ := h
  obtain ⟨u, rfl, rx⟩ := vals1 r
  cases rx
  obtain ⟨its, r', pl, hz⟩ := I.list hq
  have hb := vals_bl r'
  subst hb
  have hl := pl.isList
  have hlt : p < s.heap.objs.size := by obtain ⟨_, e, _⟩ := hl; exact Heap.lt_size e
  refine call_all_walk (wpAny_pyIter_list hl ?_)
  refine ⟨_, _, _, _, _, _, fun i => bs.getD i true, rfl, Walks.list (A := X.A.in1) (I.ok.hd hc) _ p (Nat.ne_of_lt hlt) (bs.map Value.bool).toArray, ⟨⟨_, Heap.get?_push_size _ rfl, rfl, rfl⟩, hl.push _⟩, ?_, fun h' tk hk => ?_⟩
  · intro i v s' Q' E' hP hQ
    have hP' : (bs.map Value.bool).toArray[i]? = some v := hP
    rw [List.getElem?_toArray, List.getElem?_map] at hP'
    cases e : bs[i]? with
    | none => rw [e] at hP'; cases hP'
    | some b =>
      rw [e] at hP'
      cases hP'
      have : (bs.getD i true) = b := by rw [List.getD_eq_getElem?_getD, e]; rfl
      dsimp only at hQ
      rw [this] at hQ
      exact wpAny_truthy_bool hQ
  · have hk' : ∀ b o, s.heap.get? b = some o → h'.get? b = some o := old_kept hk
    refine ⟨.bl _, H, I.kept (t' := tk) hk', ?_, q⟩
    rw [← all_range bs]
    simp only [List.size_toArray, List.length_map]
    rfl
theorem cw_all (hc : X.calm = true) : CallW X (.builtin "all") oAll := ⟨_, call_allB hc, fun ws vs st H m Q S rs p => by
  match ws, rs, p with
  | [], rs, p => exact False.elim p
  | x :: y :: t, rs, p => cases x <;> exact False.elim p
  | [x], rs, p =>
    obtain ⟨v, rfl, r1⟩ := rel1 rs
    cases x with
    | ref l =>
      unfold oAll at p
      unfold RelW at r1
      obtain ⟨a, rfl, hl⟩ := r1
      cases e : lstOf st l with
      | none => simp only [e] at p; exact False.elim p
      | some ws =>
        simp only [e] at p
        cases e2 : blsOf ws with
        | none => simp only [e2] at p; exact False.elim p
        | some bs =>
          simp only [e2] at p
          obtain ⟨xs, q1, q2⟩ := S.read hl e
          have q3 := blsOf_rel q2 e2
          subst q3
          exact ⟨a, bs, rfl, q1, p _ m H Ext.refl S mkBl⟩
    | _ => exact False.elim p⟩
def oListC : List Wv → Hs → Re Wv
  | [.ref l], st => match lstOf st l with
    | some ws => .ok (.ref st.length) (st ++ [.lst ws])
    | none => .bad
  | [.tup ws], st => .ok (.ref st.length) (st ++ [.lst ws])
  | _, _ => .bad
theorem cw_list : CallW X (.type "list") oListC := ⟨_, call_list_of, fun ws vs st H m Q S rs p => by
  match ws, rs, p with
  | [], rs, p => exact False.elim p
  | x :: y :: t, rs, p => cases x <;> exact False.elim p
  | [x], rs, p =>
    obtain ⟨v, rfl, r1⟩ := rel1 rs
    cases x with
    | ref l =>
      unfold oListC at p
      unfold RelW at r1
      obtain ⟨a, rfl, hl⟩ := r1
      cases e : lstOf st l with
      | none => simp only [e] at p; exact False.elim p
      | some ws =>
        simp only [e] at p
        obtain ⟨xs, q1, q2⟩ := S.read hl e
        exact ⟨a, xs, rfl, .inl q1, fun q hq => new_list p Ext.refl S q2 q hq⟩
    | tup ws =>
      unfold RelW at r1
      obtain ⟨a, xs, rfl, q1, q2⟩ := r1
      exact ⟨a, xs, rfl, .inr q1, fun q hq => new_list p Ext.refl S q2 q hq⟩
    | _ => exact False.elim p⟩
def oTupC : List Wv → Hs → Re Wv
  | [.ref l], st => match lstOf st l with
    | some ws => .ok (.tup ws) st
    | none => .bad
  | [.tup ws], st => .ok (.tup ws) st
  | _, _ => .bad
theorem cw_tup : CallW X (.type "tuple") oTupC := ⟨_, call_tuple_of, fun ws vs st H m Q S rs p => by
  match ws, rs, p with
  | [], rs, p => exact False.elim p
  | x :: y :: t, rs, p => cases x <;> exact False.elim p
  | [x], rs, p =>
    obtain ⟨v, rfl, r1⟩ := rel1 rs
    cases x with
    | ref l =>
      unfold oTupC at p
      unfold RelW at r1
      obtain ⟨a, rfl, hl⟩ := r1
      cases e : lstOf st l with
      | none => simp only [e] at p; exact False.elim p
      | some ws =>
        simp only [e] at p
        obtain ⟨xs, q1, q2⟩ := S.read hl e
        refine ⟨a, xs, rfl, .inl ⟨q1, fun q hq => ?_⟩⟩
        have e2 : Ext X.K m H m (upd H q (.tup xs)) := Ext.upd (.inl hq)
        exact p (.ref q) m _ e2 (S.fresh hq) (by unfold RelW; exact ⟨q, xs, rfl, SqT.of upd_same, RelWs.mono e2 _ _ q2⟩)
    | tup ws =>
      have r1' := r1
      unfold RelW at r1'
      obtain ⟨a, xs, rfl, q1, q2⟩ := r1'
      exact ⟨a, xs, rfl, .inr ⟨q1, p _ m H Ext.refl S r1⟩⟩
    | _ => exact False.elim p⟩
end
end J

set_option Elab.async false
set_option linter.all false
set_option maxRecDepth 100000
set_option maxHeartbeats 4000000
namespace J
open PySem PySem.Spec PyProof.Rows L2

section
variable {X : Cx}
/-! ### two readings of one text: the one that can be read -/
def gAlt (ga gb : GE) : GE := fun ρ st => match ga ρ st with
  | .bad => gb ρ st
  | r => r
theorem je_alt {e : Expr} {ga gb : GE} (ha : JE X e ga) (hb : JE X e gb) : JE X e (gAlt ga gb) := by
  intro ρ st σ H m Q S R p
  unfold gAlt at p
  cases e1 : ga ρ st with
  | bad => rw [e1] at p; exact hb ρ st σ H m Q S R p
  | ok w st' => rw [e1] at p; exact ha ρ st σ H m Q S R (by rw [e1]; exact p)
  | err c st' => rw [e1] at p; exact ha ρ st σ H m Q S R (by rw [e1]; exact p)
/-! ### lists of ints -/
def intsOf : List Wv → Option (List Int)
  | [] => some []
  | .int b :: r => (match intsOf r with | some l => some (b :: l) | none => none)
  | _ => none
theorem intsOf_map : ∀ ns : List Int, intsOf (ns.map Wv.int) = some ns
  | [] => rfl
  | n :: r => by rw [List.map_cons]; unfold intsOf; rw [intsOf_map r]
theorem intsOf_rel {K : PySem.W.Frag} {m : Mp} {H : Hp} : ∀ {ws : List Wv} {xs : List V} {bs : List Int}, RelWs K m H ws xs → intsOf ws = some bs → xs = bs.map V.int
  | [], xs, bs, r, h => by
    unfold RelWs at r
    cases h
    exact r
  | w :: ws, xs, bs, r, h => by
    unfold RelWs at r
    obtain ⟨x, t, rfl, r1, r2⟩ := r
    cases w with
    | int b =>
      unfold intsOf at h
      cases e : intsOf ws with
      | none => rw [e] at h; cases h
      | some l =>
        rw [e] at h
        cases h
        unfold RelW at r1
        rw [r1, intsOf_rel r2 e]
        rfl
    | _ => cases h
theorem vals_int : ∀ {ns : List Int} {its : List Value}, Vals (ns.map V.int) its → ∃ xs : List (Int × Tok), its = xs.map (fun p => Value.int p.1 p.2) ∧ xs.map (·.1) = ns
  | [], its, r => by cases r; exact ⟨[], rfl, rfl⟩
  | n :: ns, its, r => by
    cases r with
    | cons h t =>
      obtain ⟨tk, rfl⟩ := h
      obtain ⟨xs, e1, e2⟩ := vals_int t
      exact ⟨(n, tk) :: xs, by rw [e1]; rfl, by rw [← e2]; rfl⟩
theorem intsAre_of : ∀ xs : List (Int × Tok), IntsAre (xs.map fun p => Value.int p.1 p.2) (xs.map (·.1))
  | [] => .nil
  | p :: r => .cons p.1 p.2 (intsAre_of r)
theorem vals_of_are : ∀ {vs : List Value} {ns : List Int}, IntsAre vs ns → Vals (ns.map V.int) vs
  | _, _, .nil => .nil
  | _, _, .cons n t r => .cons ⟨t, rfl⟩ (vals_of_are r)
theorem numAt_map (xs : List (Int × Tok)) (i : Nat) : numAt xs.toArray i = (xs.map (·.1)).getD i 0 := by
  unfold numAt
  rw [List.getElem?_toArray, List.getD_eq_getElem?_getD, List.getElem?_map]
theorem preSum_map (xs : List (Int × Tok)) : ∀ k, preSum (numAt xs.toArray) k = ((xs.map (·.1)).take k).sum
  | 0 => by simp [preSum]
  | k + 1 => by
    unfold preSum
    rw [preSum_map xs k, numAt_map]
    rw [PySem.sum_take_succ]
theorem call_sumI (hc : X.calm = true) : CallR X (.builtin "sum") (fun xs H Q => ∃ (p : Addr) (ns : List Int), xs = [.ref p] ∧ SqL X.K H p (ns.map V.int) ∧ Q (.int ns.sum) H) := by
  intro pins s σ H xs us Q I r h
  obtain ⟨p, ns, rfl, hq, q⟩ := h
  obtain ⟨u, rfl, rx⟩ := vals1 r
  cases rx
  obtain ⟨its, r', pl, hz⟩ := I.list hq
  obtain ⟨xs, rfl, rfl⟩ := vals_int r'
  have hl := pl.isList
  have e : (xs.map fun p => Value.int p.1 p.2).toArray = intItems xs.toArray := by unfold intItems; simp
  rw [e] at hl
  refine sum_intListG (I.ok.hd hc) hl fun h' tk t' hk => ⟨.int _, H, I.kept hk, ⟨t', ?_⟩, q⟩
  rw [preSum_map, List.take_of_length_le (by simp)]
def oSum : List Wv → Hs → Re Wv
  | [.ref l], st => match lstOf st l with
    | some ws => (match intsOf ws with | some ns => .ok (.int ns.sum) st | none => .bad)
    | none => .bad
  | _, _ => .bad
theorem cw_sum (hc : X.calm = true) : CallW X (.builtin "sum") oSum := ⟨_, call_sumI hc, fun ws vs st H m Q S rs p => by
  match ws, rs, p with
  | [], rs, p => exact False.elim p
  | x :: y :: t, rs, p => cases x <;> exact False.elim p
  | [x], rs, p =>
    obtain ⟨v, rfl, r1⟩ := rel1 rs
    cases x with
    | ref l =>
      unfold oSum at p
      unfold RelW at r1
      obtain ⟨a, rfl, hl⟩ := r1
      cases e : lstOf st l with
      | none => simp only [e] at p; exact False.elim p
      | some ws =>
        simp only [e] at p
        cases e2 : intsOf ws with
        | none => simp only [e2] at p; exact False.elim p
        | some bs =>
          simp only [e2] at p
          obtain ⟨xs, q1, q2⟩ := S.read hl e
          have q3 := intsOf_rel q2 e2
          subst q3
          exact ⟨a, bs, rfl, q1, p _ m H Ext.refl S mkInt⟩
    | _ => exact False.elim p⟩
/-! ### the greatest and the least of a list -/
def mxI (n : Int) (r : List Int) : Int := r.foldl (fun a b => if b > a then b else a) n
def mnI (n : Int) (r : List Int) : Int := r.foldl (fun a b => if b < a then b else a) n
theorem mxI_is : ∀ (r : List Int) (n : Int), mxI n r ∈ n :: r ∧ ∀ a ∈ n :: r, a ≤ mxI n r
  | [], n => by simp [mxI]
  | b :: r, n => by
    have e : mxI n (b :: r) = mxI (if b > n then b else n) r := rfl
    obtain ⟨h1, h2⟩ := mxI_is r (if b > n then b else n)
    rw [e]
    constructor
    · rcases List.mem_cons.mp h1 with z | z
      · rw [z]; split <;> simp
      · simp [z]
    · intro a ha
      have hn : n ≤ mxI (if b > n then b else n) r ∧ b ≤ mxI (if b > n then b else n) r := by
        have q := h2 _ List.mem_cons_self
        revert q
        split <;> intro q <;> constructor <;> omega
      rcases List.mem_cons.mp ha with z | z
      · rw [z]; exact hn.1
      · rcases List.mem_cons.mp z with z | z
        · rw [z]; exact hn.2
        · exact h2 a (List.mem_cons_of_mem _ z)
theorem mnI_is : ∀ (r : List Int) (n : Int), mnI n r ∈ n :: r ∧ ∀ a ∈ n :: r, mnI n r ≤ a
  | [], n => by simp [mnI]
  | b :: r, n => by
    have e : mnI n (b :: r) = mnI (if b < n then b else n) r := rfl
    obtain ⟨h1, h2⟩ := mnI_is r (if b < n then b else n)
    rw [e]
    constructor
    · rcases List.mem_cons.mp h1 with z | z
      · rw [z]; split <;> simp
      · simp [z]
    · intro a ha
      have hn : mnI (if b < n then b else n) r ≤ n ∧ mnI (if b < n then b else n) r ≤ b := by
        have q := h2 _ List.mem_cons_self
        revert q
        split <;> intro q <;> constructor <;> omega
      rcases List.mem_cons.mp ha with z | z
      · rw [z]; exact hn.1
      · rcases List.mem_cons.mp z with z | z
        · rw [z]; exact hn.2
        · exact h2 a (List.mem_cons_of_mem _ z)
theorem mx_eq {n M : Int} {r : List Int} (h : M ∈ n :: r) (k : ∀ a ∈ n :: r, a ≤ M) : M = mxI n r := by
  obtain ⟨h1, h2⟩ := mxI_is r n
  have := h2 M h
  have := k _ h1
  omega
theorem mn_eq {n M : Int} {r : List Int} (h : M ∈ n :: r) (k : ∀ a ∈ n :: r, M ≤ a) : M = mnI n r := by
  obtain ⟨h1, h2⟩ := mnI_is r n
  have := h2 M h
  have := k _ h1
  omega
theorem getD_memJ {l : List Int} {i : Nat} (h : i < l.length) : l.getD i 0 ∈ l := by
  rw [List.getD_eq_getElem?_getD, List.getElem?_eq_getElem h]
  exact List.getElem_mem h
theorem call_maxL (hc : X.calm = true) : CallR X (.builtin "max") (fun xs H Q => ∃ (p : Addr) (n : Int) (ns : List Int), xs = [.ref p] ∧ SqL X.K H p ((n :: ns).map V.int) ∧ Q (.int (mxI n ns)) H) := by
  intro pins s σ H xs us Q I r h
  obtain ⟨p, n, ns, rfl, hq, q⟩ := h
  obtain ⟨u, rfl, rx⟩ := vals1 r
  cases rx
  obtain ⟨its, r', pl, hz⟩ := I.list hq
  obtain ⟨xs, rfl, e0⟩ := vals_int r'
  have hl := pl.isList
  have e : (xs.map fun p => Value.int p.1 p.2).toArray = intItems xs.toArray := by unfold intItems; simp
  rw [e] at hl
  have hsz : xs.length = (n :: ns).length := by rw [← e0]; simp
  have hs0 : 0 < xs.toArray.size := by simp [hsz]
  refine max_intList (I.ok.hd hc) hl hs0 fun v h' tk hv hk => ?_
  obtain ⟨t, rfl⟩ := intItems_at hv
  obtain ⟨h1, h2⟩ := PySem.argBest_gt (numAt xs.toArray) (xs.toArray.size - 1)
  refine ⟨.int _, H, I.kept hk, ⟨t, ?_⟩, q⟩
  congr 1
  have hn := fun i => numAt_map xs i
  rw [e0] at hn
  refine mx_eq ?_ fun a ha => ?_
  · rw [hn]
    refine getD_memJ ?_
    have : xs.toArray.size = (n :: ns).length := by simp [hsz]
    omega
  · obtain ⟨j, hj, rfl⟩ := List.mem_iff_getElem.mp ha
    have q2 := h2 j (by have : xs.toArray.size = (n :: ns).length := by simp [hsz]
                        omega)
    rw [hn j, List.getD_eq_getElem?_getD, List.getElem?_eq_getElem hj] at q2
    exact q2
theorem call_minL (hc : X.calm = true) : CallR X (.builtin "min") (fun xs H Q => ∃ (p : Addr) (n : Int) (ns : List Int), xs = [.ref p] ∧ SqL X.K H p ((n :: ns).map V.int) ∧ Q (.int (mnI n ns)) H) := by
  intro pins s σ H xs us Q I r h
  obtain ⟨p, n, ns, rfl, hq, q⟩ := h
  obtain ⟨u, rfl, rx⟩ := vals1 r
  cases rx
  obtain ⟨its, r', pl, hz⟩ := I.list hq
  obtain ⟨xs, rfl, e0⟩ := vals_int r'
  have hl := pl.isList
  have e : (xs.map fun p => Value.int p.1 p.2).toArray = intItems xs.toArray := by unfold intItems; simp
  rw [e] at hl
  have hsz : xs.length = (n :: ns).length := by rw [← e0]; simp
  have hs0 : 0 < xs.toArray.size := by simp [hsz]
  refine min_intList (I.ok.hd hc) hl hs0 fun v h' tk hv hk => ?_
  obtain ⟨t, rfl⟩ := intItems_at hv
  obtain ⟨h1, h2⟩ := PySem.argBest_lt (numAt xs.toArray) (xs.toArray.size - 1)
  refine ⟨.int _, H, I.kept hk, ⟨t, ?_⟩, q⟩
  congr 1
  have hn := fun i => numAt_map xs i
  rw [e0] at hn
  refine mn_eq ?_ fun a ha => ?_
  · rw [hn]
    refine getD_memJ ?_
    have : xs.toArray.size = (n :: ns).length := by simp [hsz]
    omega
  · obtain ⟨j, hj, rfl⟩ := List.mem_iff_getElem.mp ha
    have q2 := h2 j (by have : xs.toArray.size = (n :: ns).length := by simp [hsz]
                        omega)
    rw [hn j, List.getD_eq_getElem?_getD, List.getElem?_eq_getElem hj] at q2
    exact q2
def oMax2 : List Wv → Hs → Re Wv
  | [.ref l], st => match lstOf st l with
    | some ws => (match intsOf ws with | some (n :: r) => .ok (.int (mxI n r)) st | _ => .bad)
    | none => .bad
  | ws, st => oMax ws st
def oMin2 : List Wv → Hs → Re Wv
  | [.ref l], st => match lstOf st l with
    | some ws => (match intsOf ws with | some (n :: r) => .ok (.int (mnI n r)) st | _ => .bad)
    | none => .bad
  | ws, st => oMin ws st
theorem CallW.or {f : Value} {op op' : List Wv → Hs → Re Wv} (g : List Wv → Hs → Re Wv) (h : CallW X f op) (h' : CallW X f op') (k : ∀ ws st, g ws st = op ws st ∨ g ws st = op' ws st) : CallW X f g := by
  obtain ⟨r, h1, h2⟩ := h
  obtain ⟨r', h1', h2'⟩ := h'
  refine ⟨_, h1.or h1', fun ws vs st H m Q S rs p => ?_⟩
  rcases k ws st with e | e
  · rw [e] at p; exact .inl (h2 ws vs st H m Q S rs p)
  · rw [e] at p; exact .inr (h2' ws vs st H m Q S rs p)
def oMaxL : List Wv → Hs → Re Wv
  | [.ref l], st => match lstOf st l with
    | some ws => (match intsOf ws with | some (n :: r) => .ok (.int (mxI n r)) st | _ => .bad)
    | none => .bad
  | _, _ => .bad
def oMinL : List Wv → Hs → Re Wv
  | [.ref l], st => match lstOf st l with
    | some ws => (match intsOf ws with | some (n :: r) => .ok (.int (mnI n r)) st | _ => .bad)
    | none => .bad
  | _, _ => .bad
theorem cw_maxL (hc : X.calm = true) : CallW X (.builtin "max") oMaxL := ⟨_, call_maxL hc, fun ws vs st H m Q S rs p => by
  match ws, rs, p with
  | [], rs, p => exact False.elim p
  | x :: y :: t, rs, p => cases x <;> exact False.elim p
  | [x], rs, p =>
    obtain ⟨v, rfl, r1⟩ := rel1 rs
    cases x with
    | ref l =>
      unfold oMaxL at p
      unfold RelW at r1
      obtain ⟨a, rfl, hl⟩ := r1
      cases e : lstOf st l with
      | none => simp only [e] at p; exact False.elim p
      | some ws =>
        simp only [e] at p
        cases e2 : intsOf ws with
        | none => simp only [e2] at p; exact False.elim p
        | some bs =>
          cases bs with
          | nil => simp only [e2] at p; exact False.elim p
          | cons n bs =>
            simp only [e2] at p
            obtain ⟨xs, q1, q2⟩ := S.read hl e
            have q3 := intsOf_rel q2 e2
            subst q3
            exact ⟨a, n, bs, rfl, q1, p _ m H Ext.refl S mkInt⟩
    | _ => exact False.elim p⟩
theorem cw_minL (hc : X.calm = true) : CallW X (.builtin "min") oMinL := ⟨_, call_minL hc, fun ws vs st H m Q S rs p => by
  match ws, rs, p with
  | [], rs, p => exact False.elim p
  | x :: y :: t, rs, p => cases x <;> exact False.elim p
  | [x], rs, p =>
    obtain ⟨v, rfl, r1⟩ := rel1 rs
    cases x with
    | ref l =>
      unfold oMinL at p
      unfold RelW at r1
      obtain ⟨a, rfl, hl⟩ := r1
      cases e : lstOf st l with
      | none => simp only [e] at p; exact False.elim p
      | some ws =>
        simp only [e] at p
        cases e2 : intsOf ws with
        | none => simp only [e2] at p; exact False.elim p
        | some bs =>
          cases bs with
          | nil => simp only [e2] at p; exact False.elim p
          | cons n bs =>
            simp only [e2] at p
            obtain ⟨xs, q1, q2⟩ := S.read hl e
            have q3 := intsOf_rel q2 e2
            subst q3
            exact ⟨a, n, bs, rfl, q1, p _ m H Ext.refl S mkInt⟩
    | _ => exact False.elim p⟩
theorem cw_max2 (hc : X.calm = true) : CallW X (.builtin "max") oMax2 := CallW.or oMax2 (cw_maxL hc) (cw_max hc) fun ws st => by
  unfold oMax2 oMaxL
  split
  · exact .inl rfl
  · exact .inr rfl
theorem cw_min2 (hc : X.calm = true) : CallW X (.builtin "min") oMin2 := CallW.or oMin2 (cw_minL hc) (cw_min hc) fun ws st => by
  unfold oMin2 oMinL
  split
  · exact .inl rfl
  · exact .inr rfl
/-! ### sorted of a list of ints -/
def insI (n : Int) : List Int → List Int
  | [] => [n]
  | a :: r => if n ≤ a then n :: a :: r else a :: insI n r
def srtI : List Int → List Int
  | [] => []
  | a :: r => insI a (srtI r)
theorem insI_perm (n : Int) : ∀ l : List Int, (insI n l).Perm (n :: l)
  | [] => .refl _
  | a :: r => by
    unfold insI
    split
    · exact .refl _
    · exact ((insI_perm n r).cons a).trans (.swap n a r)
theorem srtI_perm : ∀ l : List Int, (srtI l).Perm l
  | [] => .nil
  | a :: r => (insI_perm a (srtI r)).trans ((srtI_perm r).cons a)
theorem insI_srt (n : Int) : ∀ l : List Int, l.Pairwise (· ≤ ·) → (insI n l).Pairwise (· ≤ ·)
  | [], _ => by simp [insI]
  | a :: r, h => by
    unfold insI
    rw [List.pairwise_cons] at h
    split
    · rename_i c
      rw [List.pairwise_cons, List.pairwise_cons]
      refine ⟨fun b hb => ?_, h⟩
      rcases List.mem_cons.mp hb with z | z
      · rw [z]; exact c
      · have := h.1 b z; omega
    · rename_i c
      rw [List.pairwise_cons]
      refine ⟨fun b hb => ?_, insI_srt n r h.2⟩
      rcases List.mem_cons.mp ((insI_perm n r).mem_iff.mp hb) with z | z
      · rw [z]; omega
      · exact h.1 b z
theorem srtI_srt : ∀ l : List Int, (srtI l).Pairwise (· ≤ ·)
  | [] => .nil
  | a :: r => insI_srt a _ (srtI_srt r)
theorem srt_one {a b : List Int} (h : a.Perm b) (ha : a.Pairwise (· ≤ ·)) (hb : b.Pairwise (· ≤ ·)) : a = b :=
  List.Perm.eq_of_pairwise (fun _ _ _ _ h1 h2 => by omega) ha hb h
theorem call_srtI : CallR X (.builtin "sorted") (fun xs H Q => ∃ (p : Addr) (ns : List Int), xs = [.ref p] ∧ SqL X.K H p (ns.map V.int) ∧ ns.length < 64 ∧ ∀ l, H l = none → Q (.ref l) (upd H l (.lst ((srtI ns).map V.int)))) := by
  intro pins s σ H xs us Q I r h
  obtain ⟨p, ns, rfl, hq, h64, q⟩ := h
  obtain ⟨u, rfl, rx⟩ := vals1 r
  cases rx
  obtain ⟨its, r', pl, hz⟩ := I.list hq
  have hlen := r'.length
  obtain ⟨xs, rfl, rfl⟩ := vals_int r'
  refine sorted_ints pl.isList (intsAre_of xs) (by simpa using h64) fun out ns' a1 a2 a3 => ?_
  have e : ns' = srtI (xs.map (·.1)) := srt_one (a2.trans (srtI_perm _).symm) a3 (srtI_srt _)
  subst e
  obtain ⟨n, hat⟩ := sortedAll_at s.heap (xs.map fun p => Value.int p.1 p.2) out
  have hz' : ((srtI (xs.map (·.1))).map V.int).length ≤ sizeLine := by
    rw [List.length_map, (srtI_perm _).length_eq]
    simpa using hz
  refine ⟨.ref (s.heap.objs.size + 1), _, I.laid (t' := s.toks) (fun _ _ => sortedAll_old) (Nat.le_succ _) (show ObjOk X.prog X.w _ _ _ (.lst _) from ⟨hz', out.toList, n, vals_of_are a1, ?_⟩), rfl, q _ (I.hok.fresh (Nat.le_succ _))⟩
  rw [hat]
def oSrt : List Wv → Hs → Re Wv
  | [.ref l], st => match lstOf st l with
    | some ws => (match intsOf ws with | some ns => if ns.length < 64 then .ok (.ref st.length) (st ++ [.lst ((srtI ns).map Wv.int)]) else .bad | none => .bad)
    | none => .bad
  | _, _ => .bad
theorem cw_srt : CallW X (.builtin "sorted") oSrt := ⟨_, call_srtI, fun ws vs st H m Q S rs p => by
  match ws, rs, p with
  | [], rs, p => exact False.elim p
  | x :: y :: t, rs, p => cases x <;> exact False.elim p
  | [x], rs, p =>
    obtain ⟨v, rfl, r1⟩ := rel1 rs
    cases x with
    | ref l =>
      unfold oSrt at p
      unfold RelW at r1
      obtain ⟨a, rfl, hl⟩ := r1
      cases e : lstOf st l with
      | none => simp only [e] at p; exact False.elim p
      | some ws =>
        simp only [e] at p
        cases e2 : intsOf ws with
        | none => simp only [e2] at p; exact False.elim p
        | some bs =>
          simp only [e2] at p
          by_cases c : bs.length < 64
          · rw [if_pos c] at p
            obtain ⟨xs, q1, q2⟩ := S.read hl e
            have q3 := intsOf_rel q2 e2
            subst q3
            exact ⟨a, bs, rfl, q1, c, fun q hq => new_list p Ext.refl S (RelWs.ints _) q hq⟩
          · rw [if_neg c] at p; exact False.elim p
    | _ => exact False.elim p⟩
end
end J

set_option Elab.async false
set_option linter.all false
set_option maxRecDepth 100000
set_option maxHeartbeats 4000000
namespace J
open PySem PySem.Spec PyProof.Rows L2

section
variable {X : Cx}
/-! ### methods of texts -/
def gMethS (mt : PySem.Str → List Wv → Hs → Re Wv) (go : GE) (ga : GA) : GE := fun ρ st => (go ρ st).bind fun o st1 => match o with
  | .str z => (ga ρ st1).bind fun ws st2 => (mt z ws st2).nox
  | _ => .bad
def MsW (X : Cx) (id : String) (mt : PySem.Str → List Wv → Hs → Re Wv) : Prop := ∃ r, MtR X id r ∧ ∀ (z : PySem.Str) (ws : List Wv) (vs : List V) (st : Hs) (H : Hp) (m : Mp) (Q : VK), PyData.strOk z = true → Sim X.K m st H → RelWs X.K m H ws vs → PostO X.K m H (mt z ws st) Q → r (.str z) vs H Q
theorem je_methS {o : Expr} {name : Str} {id : String} {e : Expr} {es : List Expr} {go : GE} {ga : GA} {apos cpos : Pos} {mt : PySem.Str → List Wv → Hs → Re Wv} (hm : MsW X id mt) (slot : Slot "str" name id) (hty : typeOf (.builtin id) = pure (.type "method_descriptor")) (ho : JE X o go) (ha : JA X (e :: es) ga)
    (hbase : attributeBase o name X.env (eval o X.env) = eval o X.env)
    (hfew : ((backTo cpos (starEach (e :: es) X.env)).all (fun x => !x.1) && (backToKw cpos (keywordEach [] X.env)).all (fun x => x.1.isSome) && decide ((e :: es).length + ([] : List Keyword).length + (if ([] : List Keyword).isEmpty then 0 else 1) < 30)) = true)
    (hline : (apos.endLine == cpos.line) = true) (hs : starEach (e :: es) X.env = (false, eval e X.env) :: starEach es X.env) (hplain : (backTo cpos (starEach es X.env)).any (·.1) = false) :
    JE X (.Call (.Attribute o name apos) (e :: es) [] cpos) (gMethS mt go ga) := by
  obtain ⟨r, h1, h2⟩ := hm
  refine JE.of (pe_bm PySem.F.plainAttrs_str slot hty h1 pe_SE pa_SA hbase hfew hline hs hplain) fun ρ st σ H m Q S R p => ?_
  refine ho.go S R (PostG.bind p) fun o st1 v m1 H1 p1 e1 S1 ro => ?_
  cases o with
  | str z =>
    dsimp only at p1
    unfold RelW at ro
    obtain ⟨rfl, hz⟩ := ro
    refine ⟨rfl, ?_⟩
    refine ha.go S1 (R.mono e1) ((PostG.bind p1).imp e1 fun _ _ q => q) fun ws st2 vs m2 H2 p2 e2 S2 rs => ?_
    exact h2 z ws vs st2 H2 m2 Q hz S2 rs (PostO.shift (PostG.nox p2) (e1.trans e2))
  | _ => exact False.elim p1
/-! ### join -/
def strsOf : List Wv → Option (List PySem.Str)
  | [] => some []
  | .str b :: r => (match strsOf r with | some l => some (b :: l) | none => none)
  | _ => none
theorem strsOf_map : ∀ ns : List PySem.Str, strsOf (ns.map Wv.str) = some ns
  | [] => rfl
  | n :: r => by rw [List.map_cons]; unfold strsOf; rw [strsOf_map r]
theorem strsOf_rel {K : PySem.W.Frag} {m : Mp} {H : Hp} : ∀ {ws : List Wv} {xs : List V} {bs : List PySem.Str}, RelWs K m H ws xs → strsOf ws = some bs → xs = bs.map V.str ∧ ∀ b ∈ bs, PyData.strOk b = true
  | [], xs, bs, r, h => by
    unfold RelWs at r
    cases h
    exact ⟨r, fun _ z => by cases z⟩
  | w :: ws, xs, bs, r, h => by
    unfold RelWs at r
    obtain ⟨x, t, rfl, r1, r2⟩ := r
    cases w with
    | str b =>
      unfold strsOf at h
      cases e : strsOf ws with
      | none => rw [e] at h; cases h
      | some l =>
        rw [e] at h
        cases h
        unfold RelW at r1
        obtain ⟨rfl, hb⟩ := r1
        obtain ⟨q1, q2⟩ := strsOf_rel r2 e
        refine ⟨by rw [q1]; rfl, fun c hc => ?_⟩
        rcases List.mem_cons.mp hc with z | z
        · rw [z]; exact hb
        · exact q2 c z
    | _ => cases h
theorem vals_str : ∀ {ns : List PySem.Str} {its : List Value}, Vals (ns.map V.str) its → StrsAre its ns
  | [], its, r => by cases r; exact .nil
  | n :: ns, its, r => by
    cases r with
    | cons h t =>
      obtain ⟨tk, rfl⟩ := h
      exact .cons n tk (vals_str t)
theorem mt_join : MtR X "str.join" (fun x xs H Q => ∃ (z : PySem.Str) (p : Addr) (ys : List PySem.Str), x = .str z ∧ xs = [.ref p] ∧ (SqL X.K H p (ys.map V.str) ∨ SqT X.K H p (ys.map V.str)) ∧ (ys.map (·.length)).sum + ys.length * z.length ≤ 16777216 ∧ Q (.str (Txt.join z ys)) H) := by
  intro pins s σ H x xs v us Q I rx rv h
  obtain ⟨z, p, ys, rfl, rfl, hq, hz, q⟩ := h
  obtain ⟨t, rfl⟩ := rx
  obtain ⟨u, rfl, ru⟩ := vals1 rv
  cases ru
  rcases hq with hq | hq
  · obtain ⟨its, r', pl, _⟩ := I.list hq
    exact join_list pl.isList (by simpa using vals_str r') hz fun t' k => ⟨.str _, H, I.tok k, ⟨t', rfl⟩, q⟩
  · obtain ⟨its, r', pl, _⟩ := I.tuple hq
    exact join_tuple pl (by simpa using vals_str r') hz fun t' k => ⟨.str _, H, I.tok k, ⟨t', rfl⟩, q⟩
theorem strOk_iff {z : PySem.Str} : PyData.strOk z = true ↔ ∀ c ∈ z.cps.toList, c < 1114112 := by
  unfold PyData.strOk
  rw [Array.all_eq_true_iff_forall_mem]
  constructor
  · intro h c hc
    simpa using h c (Array.mem_toList_iff.mp hc)
  · intro h c hc
    simpa using h c (Array.mem_toList_iff.mpr hc)
theorem strOk_join {z : PySem.Str} {ys : List PySem.Str} (hz : PyData.strOk z = true) (hy : ∀ b ∈ ys, PyData.strOk b = true) : PyData.strOk (Txt.join z ys) = true := by
  have ej : Txt.join z ys = PySem.Str.join z ys := by simpa using join_plain_closes z ys
  rw [ej]
  rw [strOk_iff] at hz ⊢
  intro c hc
  rcases (mem_join z c ys).mp hc with ⟨t, ht, h⟩ | ⟨_, h⟩
  · exact (strOk_iff.mp (hy t ht)) c h
  · exact hz c h
def mJoin (z : PySem.Str) : List Wv → Hs → Re Wv
  | [.ref l], st => match lstOf st l with
    | some ws => (match strsOf ws with | some ys => if (ys.map (·.length)).sum + ys.length * z.length ≤ 16777216 then .ok (.str (Txt.join z ys)) st else .bad | none => .bad)
    | none => .bad
  | [.tup ws], st => (match strsOf ws with | some ys => if (ys.map (·.length)).sum + ys.length * z.length ≤ 16777216 then .ok (.str (Txt.join z ys)) st else .bad | none => .bad)
  | _, _ => .bad
theorem ms_join : MsW X "str.join" mJoin := ⟨_, mt_join, fun z ws vs st H m Q hz S rs p => by
  match ws, rs, p with
  | [], rs, p => exact False.elim p
  | x :: y :: t, rs, p => cases x <;> exact False.elim p
  | [x], rs, p =>
    obtain ⟨v, rfl, r1⟩ := rel1 rs
    cases x with
    | ref l =>
      unfold mJoin at p
      unfold RelW at r1
      obtain ⟨a, rfl, hl⟩ := r1
      cases e : lstOf st l with
      | none => simp only [e] at p; exact False.elim p
      | some ws =>
        simp only [e] at p
        cases e2 : strsOf ws with
        | none => simp only [e2] at p; exact False.elim p
        | some bs =>
          simp only [e2] at p
          by_cases c : (bs.map (·.length)).sum + bs.length * z.length ≤ 16777216
          · rw [if_pos c] at p
            obtain ⟨xs, q1, q2⟩ := S.read hl e
            obtain ⟨q3, q4⟩ := strsOf_rel q2 e2
            subst q3
            exact ⟨z, a, bs, rfl, rfl, .inl q1, c, p _ m H Ext.refl S (mkStr (strOk_join hz q4))⟩
          · rw [if_neg c] at p; exact False.elim p
    | tup ws =>
      unfold mJoin at p
      unfold RelW at r1
      obtain ⟨a, xs, rfl, q1, q2⟩ := r1
      cases e2 : strsOf ws with
      | none => simp only [e2] at p; exact False.elim p
      | some bs =>
        simp only [e2] at p
        by_cases c : (bs.map (·.length)).sum + bs.length * z.length ≤ 16777216
        · rw [if_pos c] at p
          obtain ⟨q3, q4⟩ := strsOf_rel q2 e2
          subst q3
          exact ⟨z, a, bs, rfl, rfl, .inr q1, c, p _ m H Ext.refl S (mkStr (strOk_join hz q4))⟩
        · rw [if_neg c] at p; exact False.elim p
    | _ => exact False.elim p⟩
/-! ### a call without arguments -/
theorem je_call0 {k : Nat} {f : Addr} {fd : FuncData} {ps : List Str} {F : List Wv → Hs → Re Wv} {x : Str} {p pos : Pos}
    (G : FnOk X.prog X.w X.K X.mg X.base (CXJ X.prog X.w) k f fd ps (spW X.K 0 F)) (hr : Room k X.A) (hm : X.mg x = some (.ref f)) (hk : PySem.W.keepIn X.K (.ref f) = true) (hb : Binds X.K fd ps []) (hg : Gl X x)
    (hdb : (x == ("__debug__" : Str)) = false) : JE X (.Call (.Name x p) [] [] pos) (gCall 0 F gNil) := by
  intro ρ st σ H m Q S R p1 pins s I
  have p1 : PostE X σ m H (F [] st) Q := p1
  refine wpAny_Call_Name_kw (ld_glob I hg hm ?_ hdb)
  refine PySem.W.callWith_K0 I.kIn hk ?_
  let E : XK := fun cl _ H2 => ∃ c' st2 m2 C, cl = .ref C ∧ ClsAt X.K c' C ∧ F [] st = .err c' st2 ∧ Ext X.K m H m2 H2 ∧ Sim X.K m2 st2 H2
  have sp : spW X.K 0 F [] H Q E := by
    refine ⟨m, st, [], S, RelWs.nil, rfl, ?_⟩
    cases er : F [] st with
    | ok w st2 => rw [er] at p1; exact p1
    | err c' st2 => exact fun m2 H2 C e2 S2 hC => ⟨c', st2, m2, C, rfl, hC, er, e2, S2⟩
    | bad => rw [er] at p1; exact False.elim p1
  have hl : ([] : List Value).length = ps.length := G.len _ _ _ _ sp
  have bd := hb s [] I.kIn (by rw [List.append_nil]; exact hl)
  rw [List.append_nil] at bd
  refine wpAny_call (codeAny_mono (G.run X.A X.stack s H ⟨[], []⟩ [] [] Q E hr I.env0 bd .nil sp) fun rr s2 hq => ?_)
  cases rr with
  | error x =>
    obtain ⟨H2, C, fl, c', st2, m2, C', ec, hC, er, e2, S2⟩ := hq
    cases ec
    rw [er] at p1
    exact p1 m2 H2 x s2 e2 S2 ⟨C, pins, H, s, hC, I, .inl fl⟩
  | ok fw =>
    cases fw with
    | ret u => exact I.after hq
    | next => exact False.elim hq
    | brk => exact False.elim hq
    | cont => exact False.elim hq
end
end J

set_option Elab.async false
set_option linter.all false
set_option maxRecDepth 100000
set_option maxHeartbeats 4000000
namespace J
open PySem PySem.Spec PyProof.Rows L2

section
variable {X : Cx}
/-! ### slices of texts -/
theorem sl_str : SlR X (fun x lo hi H Q => ∃ z, x = .str z ∧ z.length ≤ sizeLine ∧ Q (.str (Txt.slice z lo hi)) H) := by
  intro pins s σ H x v vl vu lo hi sl Q I rx hs pl pu h
  obtain ⟨z, rfl, hz, q⟩ := h
  obtain ⟨t, rfl⟩ := rx
  have fin : ∀ t' k, EP X pins σ Q (.str (Txt.slice z lo hi) t') { s with toks := k } := fun t' k => ⟨.str _, H, I.tok k, ⟨t', rfl⟩, q⟩
  refine ⟨"str", _, PySem.F.slot_str_getitem.lookup, typeIs_str _ _ _, ?_⟩
  have hl := Nat.le_trans (Txt.slice_le z lo hi) hz
  cases pl with
  | none =>
    cases pu with
    | none => exact wpAny_getItem_str_slice (l := none) (u := none) (st := none) hs rfl (post_val_or_str ⟨hl, fin⟩)
    | int j tj => exact wpAny_getItem_str_slice (l := none) (u := some (j, tj)) (st := none) hs rfl (post_val_or_str ⟨hl, fin⟩)
  | int i ti =>
    cases pu with
    | none => exact wpAny_getItem_str_slice (l := some (i, ti)) (u := none) (st := none) hs rfl (post_val_or_str ⟨hl, fin⟩)
    | int j tj => exact wpAny_getItem_str_slice (l := some (i, ti)) (u := some (j, tj)) (st := none) hs rfl (post_val_or_str ⟨hl, fin⟩)
theorem mem_slice {z : PySem.Str} {lo hi : Option Int} {c : Nat} (h : c ∈ (Txt.slice z lo hi).cps.toList) : c ∈ z.cps.toList := by
  unfold Txt.slice at h
  split at h
  · exact h
  · simp only [List.mem_filterMap] at h
    obtain ⟨i, _, e⟩ := h
    rw [Array.getElem?_eq_some_iff] at e
    obtain ⟨hi, rfl⟩ := e
    exact Array.mem_toList_iff.mpr (Array.getElem_mem hi)
theorem strOk_slice {z : PySem.Str} {lo hi : Option Int} (h : PyData.strOk z = true) : PyData.strOk (Txt.slice z lo hi) = true := by
  rw [strOk_iff] at h ⊢
  exact fun c hc => h c (mem_slice hc)
def oSl2 (x : Wv) (lo hi : Option Int) (st : Hs) : Re Wv := match x with
  | .str z => if z.length ≤ lim then .ok (.str (Txt.slice z lo hi)) st else .bad
  | x => oSl x lo hi st
def gSlice2 (ga : GE) (gl gh : GO) : GE := fun ρ st => (ga ρ st).bind fun x st1 => (gl ρ st1).bind fun lo st2 => (gh ρ st2).bind fun hi st3 => oSl2 x lo hi st3
theorem je_slice2 {a : Expr} {lo hi : Option Expr} {ga : GE} {gl gh : GO} {pos p2 : Pos} (ha : JE X a ga) (hl : JO X lo gl) (hh : JO X hi gh) : JE X (.Subscript a (.Slice lo hi none p2) pos) (gSlice2 ga gl gh) := by
  have hS : JE X (.Subscript a (.Slice lo hi none p2) pos) (fun ρ st => (ga ρ st).bind fun x st1 => (gl ρ st1).bind fun lo st2 => (gh ρ st2).bind fun hi st3 => match x with | .str z => if z.length ≤ lim then .ok (.str (Txt.slice z lo hi)) st3 else .bad | _ => .bad) := by
    refine JE.of (pe_slice sl_str pe_SE po_SO po_SO) fun ρ st σ H m Q S R p => ?_
    refine ha.go S R (PostG.bind p) fun x st1 v m1 H1 p1 e1 S1 rx => ?_
    refine hl.go S1 (R.mono e1) ((PostG.bind p1).imp e1 fun _ _ q => q) fun l st2 m2 H2 p2 e2 S2 => ?_
    refine hh.go S2 (R.mono (e1.trans e2)) ((PostG.bind p2).imp (e1.trans e2) fun _ _ q => q) fun h st3 m3 H3 p3 e3 S3 => ?_
    have e13 := e1.trans (e2.trans e3)
    cases x with
    | str z =>
      dsimp only at p3
      by_cases c : z.length ≤ lim
      · rw [if_pos c] at p3
        unfold RelW at rx
        obtain ⟨rfl, hz⟩ := rx
        exact ⟨z, rfl, lim_le c, p3 _ m3 H3 e13 S3 (mkStr (strOk_slice hz))⟩
      · rw [if_neg c] at p3; exact False.elim p3
    | _ => exact False.elim p3
  intro ρ st σ H m Q S R p
  unfold gSlice2 at p
  cases e1 : ga ρ st with
  | bad => rw [e1] at p; exact False.elim p
  | err c st1 => rw [e1] at p; exact je_slice ha hl hh ρ st σ H m Q S R (by unfold gSlice; rw [e1]; exact p)
  | ok x st1 =>
    rw [e1] at p
    cases x with
    | str z => exact hS ρ st σ H m Q S R (by dsimp only; rw [e1]; exact p)
    | _ => exact je_slice ha hl hh ρ st σ H m Q S R (by unfold gSlice; rw [e1]; exact p)
/-! ### a text in a text -/
def oIn2 : Op2
  | .str i, .str j, st => .ok (.bl (!(Builtin.Str.occurrences j i 0 j.length 1).isEmpty)) st
  | x, y, st => oIn x y st
def oNotIn2 : Op2
  | .str i, .str j, st => .ok (.bl (!(!(Builtin.Str.occurrences j i 0 j.length 1).isEmpty))) st
  | x, y, st => oNotIn x y st
theorem ow_in2 : OpW X (compareOp .In) oIn2 := by
  obtain ⟨r, h1, h2⟩ := ow_in (X := X)
  refine ⟨_, OpR.or op_in_str h1, fun x y a b st H m Q S rx ry p => ?_⟩
  unfold oIn2 at p
  split at p
  · rename_i i j
    unfold RelW at rx ry
    obtain ⟨rfl, _⟩ := rx
    obtain ⟨rfl, _⟩ := ry
    exact .inl ⟨i, j, rfl, rfl, p _ m H Ext.refl S mkBl⟩
  · exact .inr (h2 x y a b st H m Q S rx ry p)
theorem ow_notIn2 : OpW X (compareOp .NotIn) oNotIn2 := by
  obtain ⟨r, h1, h2⟩ := ow_notIn (X := X)
  refine ⟨_, OpR.or op_notIn_str h1, fun x y a b st H m Q S rx ry p => ?_⟩
  unfold oNotIn2 at p
  split at p
  · rename_i i j
    unfold RelW at rx ry
    obtain ⟨rfl, _⟩ := rx
    obtain ⟨rfl, _⟩ := ry
    exact .inl ⟨i, j, rfl, rfl, p _ m H Ext.refl S mkBl⟩
  · exact .inr (h2 x y a b st H m Q S rx ry p)
/-! ### further methods of texts -/
theorem mt_find : MtR X "str.find" (fun x xs H Q => ∃ z y, x = .str z ∧ xs = [.str y] ∧ Q (.int (Txt.find z y)) H) := by
  intro pins s σ H x xs v us Q I rx rv h
  obtain ⟨z, y, rfl, rfl, q⟩ := h
  obtain ⟨t, rfl⟩ := rx
  obtain ⟨u, rfl, t', rfl⟩ := vals1 rv
  exact SC.find ⟨.int _, H, I.tok _, ⟨_, rfl⟩, q⟩
theorem mt_count : MtR X "str.count" (fun x xs H Q => ∃ z y, x = .str z ∧ xs = [.str y] ∧ Q (.int (Txt.count z y)) H) := by
  intro pins s σ H x xs v us Q I rx rv h
  obtain ⟨z, y, rfl, rfl, q⟩ := h
  obtain ⟨t, rfl⟩ := rx
  obtain ⟨u, rfl, t', rfl⟩ := vals1 rv
  exact SC.count ⟨.int _, H, I.tok _, ⟨_, rfl⟩, q⟩
theorem mt_starts : MtR X "str.startswith" (fun x xs H Q => ∃ z y, x = .str z ∧ xs = [.str y] ∧ Q (.bl (Txt.startswith z y)) H) := by
  intro pins s σ H x xs v us Q I rx rv h
  obtain ⟨z, y, rfl, rfl, q⟩ := h
  obtain ⟨t, rfl⟩ := rx
  obtain ⟨u, rfl, t', rfl⟩ := vals1 rv
  exact SC.startswith ⟨.bl _, H, I, rfl, q⟩
theorem mt_index : MtR X "str.index" (fun x xs H Q => ∃ z y i r, x = .str z ∧ xs = [.str y] ∧ Builtin.Str.occurrences z y 0 z.length 1 = i :: r ∧ Q (.int (i : Nat)) H) := by
  intro pins s σ H x xs v us Q I rx rv h
  obtain ⟨z, y, i, r, rfl, rfl, ho, q⟩ := h
  obtain ⟨t, rfl⟩ := rx
  obtain ⟨u, rfl, t', rfl⟩ := vals1 rv
  exact SC.index ho ⟨.int _, H, I.tok _, ⟨_, rfl⟩, q⟩
def mFind (z : PySem.Str) : List Wv → Hs → Re Wv
  | [.str y], st => .ok (.int (Txt.find z y)) st
  | _, _ => .bad
def mCount (z : PySem.Str) : List Wv → Hs → Re Wv
  | [.str y], st => .ok (.int (Txt.count z y)) st
  | _, _ => .bad
def mStarts (z : PySem.Str) : List Wv → Hs → Re Wv
  | [.str y], st => .ok (.bl (Txt.startswith z y)) st
  | _, _ => .bad
def mIndex (z : PySem.Str) : List Wv → Hs → Re Wv
  | [.str y], st => (match Builtin.Str.occurrences z y 0 z.length 1 with | i :: _ => .ok (.int (i : Nat)) st | [] => .bad)
  | _, _ => .bad
theorem ms_find : MsW X "str.find" mFind := ⟨_, mt_find, fun z ws vs st H m Q hz S rs p => by
  match ws, rs, p with
  | [], rs, p => exact False.elim p
  | x :: y :: t, rs, p => cases x <;> exact False.elim p
  | [x], rs, p =>
    obtain ⟨v, rfl, r1⟩ := rel1 rs
    cases x with
    | str y => unfold RelW at r1; obtain ⟨rfl, _⟩ := r1; exact ⟨z, y, rfl, rfl, p _ m H Ext.refl S mkInt⟩
    | _ => exact False.elim p⟩
theorem ms_count : MsW X "str.count" mCount := ⟨_, mt_count, fun z ws vs st H m Q hz S rs p => by
  match ws, rs, p with
  | [], rs, p => exact False.elim p
  | x :: y :: t, rs, p => cases x <;> exact False.elim p
  | [x], rs, p =>
    obtain ⟨v, rfl, r1⟩ := rel1 rs
    cases x with
    | str y => unfold RelW at r1; obtain ⟨rfl, _⟩ := r1; exact ⟨z, y, rfl, rfl, p _ m H Ext.refl S mkInt⟩
    | _ => exact False.elim p⟩
theorem ms_starts : MsW X "str.startswith" mStarts := ⟨_, mt_starts, fun z ws vs st H m Q hz S rs p => by
  match ws, rs, p with
  | [], rs, p => exact False.elim p
  | x :: y :: t, rs, p => cases x <;> exact False.elim p
  | [x], rs, p =>
    obtain ⟨v, rfl, r1⟩ := rel1 rs
    cases x with
    | str y => unfold RelW at r1; obtain ⟨rfl, _⟩ := r1; exact ⟨z, y, rfl, rfl, p _ m H Ext.refl S mkBl⟩
    | _ => exact False.elim p⟩
theorem ms_index : MsW X "str.index" mIndex := ⟨_, mt_index, fun z ws vs st H m Q hz S rs p => by
  match ws, rs, p with
  | [], rs, p => exact False.elim p
  | x :: y :: t, rs, p => cases x <;> exact False.elim p
  | [x], rs, p =>
    obtain ⟨v, rfl, r1⟩ := rel1 rs
    cases x with
    | str y =>
      unfold RelW at r1
      obtain ⟨rfl, _⟩ := r1
      unfold mIndex at p
      dsimp only at p
      cases e : Builtin.Str.occurrences z y 0 z.length 1 with
      | nil => rw [e] at p; exact False.elim p
      | cons i r => rw [e] at p; exact ⟨z, y, i, r, rfl, rfl, e, p _ m H Ext.refl S mkInt⟩
    | _ => exact False.elim p⟩
end
end J

set_option Elab.async false
set_option linter.all false
set_option maxRecDepth 100000
set_option maxHeartbeats 4000000
namespace J
open PySem PySem.Spec PyProof.Rows L2 PySem.W

/-! ### max(xs, default=d) -/
theorem max_dflt (a v : Value) : argsOk "max" ⟨[a], [(Str.ofString "default", v)]⟩ := by unfold argsOk; kernel_rfl
theorem maxD_loop {prog : Program} {w : World} {A : Around} {R : Result → Shared → Prop} {I S : Addr} {fp wr : List Addr} {n : Nat} {P : Nat → Value → Prop} {St : Nat → Heap → Prop} {d : Value}
    (W : Walks prog w A.in1 I fp wr n P St) (bt : Nat → Nat → Bool) (hcmp : CmpOf prog w A.in1 .Gt P bt) (hSf : S ∉ fp) :
    ∀ (k j : Nat) (s : Shared) (cur : List Value) (c : Nat), n - j = k → j ≤ n → St j s.heap → ((j = 0 ∧ cur = []) ∨ ∃ i vb, j = i + 1 ∧ cur = [vb, vb] ∧ P (argBest bt i) vb) →
    s.heap.get? S = some { cls := .type "list", dict := none, data := .seq cur.toArray c, slots := #[] } →
    (∀ v h' tk, ((n = 0 ∧ v = d) ∨ ∃ i, n = i + 1 ∧ P (argBest bt i) v) → (∀ b o, b ∉ wr → b ≠ S → s.heap.get? b = some o → h'.get? b = some o) → R (.ok (.ret v)) { s with heap := h', toks := tk }) →
    codeAny (model prog w) A (.builtin "max.loop" ⟨[.ref I, .none, .ref S], [(Str.ofString "default", d)]⟩) R s := by
  have noS : S ∉ wr := fun q => hSf (W.sub _ q)
  have nm : (toString "max" ++ toString ".loop" : String) = "max.loop" := by decide
  intro k
  induction k with
  | zero =>
    intro j s cur c hk hj st0 hc hS hR
    have ej : j = n := by omega
    refine codeAny_builtin F.entry_max_loop ?_
    rw [Around.under_plainId F.plain_max_loop]
    show wpAny _ A.in1 (seqItems? (.ref S) >>= _) _ _ s; refine wpAny_bind (wpAny_seqItems hS rfl ?_)
    show wpAny _ A.in1 (tryCatch (pyNext (.ref I)) _ >>= _) _ _ s; refine wpAny_bind (wpAny_tryCatch (W.done s _ _ (ej ▸ st0) fun h1 t1 kp => ?_))
    rcases hc with ⟨e0, rfl⟩ | ⟨i, vb, e1, rfl, hvb⟩
    · show wpAny _ A.in1 (rule "max.default" >>= _) _ _ _
      exact wpAny_bind (wpAny_rule (wpAny_pure (hR d h1 t1 (.inl ⟨by omega, rfl⟩) fun b o h2 _ e => kp b o h2 e)))
    · have hS1 := kp S _ noS hS
      show wpAny _ A.in1 (updateSeq S (fun _ => #[]) >>= _) _ _ _; refine wpAny_bind ?_
      refine wpAny_updateSeq hS1 rfl (wpAny_bind (wpAny_letGo (wpAny_pure (hR vb _ t1 (.inr ⟨i, by omega, hvb⟩) fun b o h2 h3 e => ?_))))
      exact (Heap.get?_update_other _ _ (Ne.symm h3)).trans (kp b o h2 e)
  | succ k ih =>
    intro j s cur c hk hj st0 hc hS hR
    have lt : j < n := by omega
    refine codeAny_builtin F.entry_max_loop ?_
    rw [Around.under_plainId F.plain_max_loop]
    show wpAny _ A.in1 (seqItems? (.ref S) >>= _) _ _ s; refine wpAny_bind (wpAny_seqItems hS rfl ?_)
    show wpAny _ A.in1 (tryCatch (pyNext (.ref I)) _ >>= _) _ _ s; refine wpAny_bind (wpAny_tryCatch (W.item j s _ _ lt st0 fun v h1 t1 hv st1 kp => ?_))
    have hS1 := kp S _ noS hS
    rcases hc with ⟨e0, rfl⟩ | ⟨i, vb, e1, rfl, hvb⟩
    · subst e0
      show wpAny _ A.in1 (updateSeq S (fun _ => #[v, v]) >>= _) _ _ _; refine wpAny_bind (wpAny_updateSeq hS1 rfl ?_)
      rw [nm]
      refine wpAny_pure ⟨plainId_quiet F.plain_max_loop _, ih 1 _ [v, v] _ (by omega) lt (W.frame _ _ _ st1 fun b hbf o e => ?_) (.inr ⟨0, v, rfl, rfl, hv⟩) (Heap.get?_update_self _ hS1 rfl) fun v2 h2 t2 hv2 kp2 => ?_⟩
      · exact (Heap.get?_update_other _ _ (fun z : S = b => hSf (z ▸ hbf))).trans e
      · exact hR v2 h2 t2 hv2 fun b o q1 q2 e => kp2 b o q1 q2 ((Heap.get?_update_other _ _ (Ne.symm q2)).trans (kp b o q1 e))
    · subst e1
      show wpAny _ A.in1 (tryCatch (holding [v, v] (richCompare .Gt v vb >>= _)) _ >>= _) _ _ _; refine wpAny_bind (wpAny_tryCatch (wpAny_holding (wpAny_bind (hcmp (i + 1) (argBest bt i) v vb _ _ _ hv hvb ?_))))
      refine wpAny_bind (wpAny_holding (wpAny_truthy_bool (wpAny_bind (wpAny_letGo (wpAny_pure ?_)))))
      cases hb : bt (i + 1) (argBest bt i) with
      | true =>
        have ha : argBest bt (i + 1) = i + 1 := by unfold argBest; rw [hb]; rfl
        simp only [if_true]; refine wpAny_bind (wpAny_updateSeq hS1 rfl (wpAny_bind (wpAny_letGo ?_)))
        rw [nm]
        refine wpAny_pure ⟨plainId_quiet F.plain_max_loop _, ih (i + 2) _ [v, v] _ (by omega) lt (W.frame _ _ _ st1 fun b hbf o e => ?_) (.inr ⟨i + 1, v, rfl, rfl, by rw [ha]; exact hv⟩) (Heap.get?_update_self _ hS1 rfl) fun v2 h2 t2 hv2 kp2 => ?_⟩
        · exact (Heap.get?_update_other _ _ (fun z : S = b => hSf (z ▸ hbf))).trans e
        · exact hR v2 h2 t2 hv2 fun b o q1 q2 e => kp2 b o q1 q2 ((Heap.get?_update_other _ _ (Ne.symm q2)).trans (kp b o q1 e))
      | false =>
        have ha : argBest bt (i + 1) = argBest bt i := by rw [argBest, hb]; rfl
        simp only [Bool.false_eq_true, if_false]; refine wpAny_bind (wpAny_letGo ?_)
        rw [nm]
        refine wpAny_pure ⟨plainId_quiet F.plain_max_loop _, ih (i + 2) _ [vb, vb] c (by omega) lt st1 (.inr ⟨i + 1, vb, rfl, rfl, by rw [ha]; exact hvb⟩) hS1 fun v2 h2 t2 hv2 kp2 => ?_⟩
        exact hR v2 h2 t2 hv2 fun b o q1 q2 e => kp2 b o q1 q2 (kp b o q1 e)
section
variable {X : Cx}
/-- of a list of ints, or None -/
def mxD : List Int → Wv
  | [] => .non
  | n :: r => .int (mxI n r)
theorem call_maxD (hc : X.calm = true) {pins : List (Addr × Obj)} {s : Shared} {σ : L2.St} {H : Hp} {p : Addr} {ns : List Int} {Q : VK} (I : L2.Inv X pins σ H s) (hq : SqL X.K H p (ns.map V.int)) (q : ∀ v : V, (ns = [] ∧ v = .non) ∨ (∃ n r, ns = n :: r ∧ v = .int (mxI n r)) → Q v H) :
    wpAny (model X.prog X.w) X.A (call (.builtin "max") [.ref p] [(Str.ofString "default", .none)]) (EP X pins σ Q) X.xe s := by
  obtain ⟨its, r', pl, hz⟩ := I.list hq
  obtain ⟨xs, rfl, e0⟩ := vals_int r'
  have hl := pl.isList
  have e : (xs.map fun p => Value.int p.1 p.2).toArray = intItems xs.toArray := by unfold intItems; simp
  rw [e] at hl
  have hlen : xs.length = ns.length := by rw [← e0]; simp
  have hnum := fun i => numAt_map xs i
  rw [e0] at hnum
  have hh : X.A.handled = none := I.ok.hd hc
  have nm : (toString "max" ++ toString ".loop" : String) = "max.loop" := by decide
  refine kmk_tree F.kind_max F.plain_max F.entry_max (max_dflt _ _) ?_
  show wpAny _ X.A.in1 (Builtin.Builtins.bindParams "max" ["key", "default"] 0 ⟨[], [(Str.ofString "default", .none)]⟩ >>= _) _ _ s
  refine wpAny_bind (wpAny_of_eq (show Builtin.Builtins.bindParams "max" ["key", "default"] 0 ⟨[], [(Str.ofString "default", .none)]⟩ = pure [none, some .none] from rfl) (wpAny_bind (wpAny_pure ?_)))
  refine wpAny_bind (iter_intList hl fun s₂ e2 st hfp hlI => ?_)
  subst e2
  refine wpAny_bind (wpAny_newObj_type ?_)
  rw [nm]
  have W := Walks.list (prog := X.prog) (w := X.w) (A := X.A.in1) hh _ p hlI (intItems xs.toArray)
  refine wpAny_pure ⟨plainId_quiet F.plain_max_loop _, maxD_loop W _ (CmpOf.ints_gt (numAt xs.toArray) (fun _ _ => intItems_at)) (fun hm => Nat.lt_irrefl _ (hfp _ hm)) _ 0 _ [] 0 rfl (Nat.zero_le _) (W.frame _ _ _ st fun b _ o e => Heap.get?_push_of_some _ e) (.inl ⟨rfl, rfl⟩) (Heap.get?_push_size _ rfl) fun v h' tk hv hk => ?_⟩
  have kp : ∀ b o, s.heap.get? b = some o → h'.get? b = some o := fun b o e => by
    have e3 : (s.heap.push { cls := .type "list_iterator", data := .fields #[.ref p, .int 0 0] }).get? b = some o := Heap.get?_push_of_some _ e
    exact hk b o (by intro z; simp at z; subst z; exact Nat.lt_irrefl _ (Heap.lt_size e)) (Nat.ne_of_lt (Heap.lt_size e3)) (Heap.get?_push_of_some _ e3)
  have hsz : (intItems xs.toArray).size = ns.length := by simp [intItems, hlen]
  rcases hv with ⟨n0, rfl⟩ | ⟨i, n1, hv⟩
  · exact ⟨.non, H, I.kept kp, rfl, q _ (.inl ⟨List.length_eq_zero_iff.mp (by omega), rfl⟩)⟩
  · obtain ⟨t, rfl⟩ := intItems_at hv
    cases ns with
    | nil => rw [hsz] at n1; cases n1
    | cons n r =>
      refine ⟨.int (mxI n r), H, I.kept kp, ⟨t, ?_⟩, q _ (.inr ⟨n, r, rfl, rfl⟩)⟩
      obtain ⟨h1, h2⟩ := PySem.argBest_gt (numAt xs.toArray) i
      congr 1
      have hr : (n :: r).length = i + 1 := by omega
      refine mx_eq ?_ fun a ha => ?_
      · rw [hnum]
        exact getD_memJ (by omega)
      · obtain ⟨j, hj, rfl⟩ := List.mem_iff_getElem.mp ha
        have q2 := h2 j (by omega)
        rw [hnum j, List.getD_eq_getElem?_getD, List.getElem?_eq_getElem hj] at q2
        exact q2
end

/-! ### min(xs, default=d) -/
theorem min_dflt (a v : Value) : argsOk "min" ⟨[a], [(Str.ofString "default", v)]⟩ := by unfold argsOk; kernel_rfl
theorem minD_loop {prog : Program} {w : World} {A : Around} {R : Result → Shared → Prop} {I S : Addr} {fp wr : List Addr} {n : Nat} {P : Nat → Value → Prop} {St : Nat → Heap → Prop} {d : Value}
    (W : Walks prog w A.in1 I fp wr n P St) (bt : Nat → Nat → Bool) (hcmp : CmpOf prog w A.in1 .Lt P bt) (hSf : S ∉ fp) :
    ∀ (k j : Nat) (s : Shared) (cur : List Value) (c : Nat), n - j = k → j ≤ n → St j s.heap → ((j = 0 ∧ cur = []) ∨ ∃ i vb, j = i + 1 ∧ cur = [vb, vb] ∧ P (argBest bt i) vb) →
    s.heap.get? S = some { cls := .type "list", dict := none, data := .seq cur.toArray c, slots := #[] } →
    (∀ v h' tk, ((n = 0 ∧ v = d) ∨ ∃ i, n = i + 1 ∧ P (argBest bt i) v) → (∀ b o, b ∉ wr → b ≠ S → s.heap.get? b = some o → h'.get? b = some o) → R (.ok (.ret v)) { s with heap := h', toks := tk }) →
    codeAny (model prog w) A (.builtin "min.loop" ⟨[.ref I, .none, .ref S], [(Str.ofString "default", d)]⟩) R s := by
  have noS : S ∉ wr := fun q => hSf (W.sub _ q)
  have nm : (toString "min" ++ toString ".loop" : String) = "min.loop" := by decide
  intro k
  induction k with
  | zero =>
    intro j s cur c hk hj st0 hc hS hR
    have ej : j = n := by omega
    refine codeAny_builtin F.entry_min_loop ?_
    rw [Around.under_plainId F.plain_min_loop]
    show wpAny _ A.in1 (seqItems? (.ref S) >>= _) _ _ s; refine wpAny_bind (wpAny_seqItems hS rfl ?_)
    show wpAny _ A.in1 (tryCatch (pyNext (.ref I)) _ >>= _) _ _ s; refine wpAny_bind (wpAny_tryCatch (W.done s _ _ (ej ▸ st0) fun h1 t1 kp => ?_))
    rcases hc with ⟨e0, rfl⟩ | ⟨i, vb, e1, rfl, hvb⟩
    · show wpAny _ A.in1 (rule "min.default" >>= _) _ _ _
      exact wpAny_bind (wpAny_rule (wpAny_pure (hR d h1 t1 (.inl ⟨by omega, rfl⟩) fun b o h2 _ e => kp b o h2 e)))
    · have hS1 := kp S _ noS hS
      show wpAny _ A.in1 (updateSeq S (fun _ => #[]) >>= _) _ _ _; refine wpAny_bind ?_
      refine wpAny_updateSeq hS1 rfl (wpAny_bind (wpAny_letGo (wpAny_pure (hR vb _ t1 (.inr ⟨i, by omega, hvb⟩) fun b o h2 h3 e => ?_))))
      exact (Heap.get?_update_other _ _ (Ne.symm h3)).trans (kp b o h2 e)
  | succ k ih =>
    intro j s cur c hk hj st0 hc hS hR
    have lt : j < n := by omega
    refine codeAny_builtin F.entry_min_loop ?_
    rw [Around.under_plainId F.plain_min_loop]
    show wpAny _ A.in1 (seqItems? (.ref S) >>= _) _ _ s; refine wpAny_bind (wpAny_seqItems hS rfl ?_)
    show wpAny _ A.in1 (tryCatch (pyNext (.ref I)) _ >>= _) _ _ s; refine wpAny_bind (wpAny_tryCatch (W.item j s _ _ lt st0 fun v h1 t1 hv st1 kp => ?_))
    have hS1 := kp S _ noS hS
    rcases hc with ⟨e0, rfl⟩ | ⟨i, vb, e1, rfl, hvb⟩
    · subst e0
      show wpAny _ A.in1 (updateSeq S (fun _ => #[v, v]) >>= _) _ _ _; refine wpAny_bind (wpAny_updateSeq hS1 rfl ?_)
      rw [nm]
      refine wpAny_pure ⟨plainId_quiet F.plain_min_loop _, ih 1 _ [v, v] _ (by omega) lt (W.frame _ _ _ st1 fun b hbf o e => ?_) (.inr ⟨0, v, rfl, rfl, hv⟩) (Heap.get?_update_self _ hS1 rfl) fun v2 h2 t2 hv2 kp2 => ?_⟩
      · exact (Heap.get?_update_other _ _ (fun z : S = b => hSf (z ▸ hbf))).trans e
      · exact hR v2 h2 t2 hv2 fun b o q1 q2 e => kp2 b o q1 q2 ((Heap.get?_update_other _ _ (Ne.symm q2)).trans (kp b o q1 e))
    · subst e1
      show wpAny _ A.in1 (tryCatch (holding [v, v] (richCompare .Lt v vb >>= _)) _ >>= _) _ _ _; refine wpAny_bind (wpAny_tryCatch (wpAny_holding (wpAny_bind (hcmp (i + 1) (argBest bt i) v vb _ _ _ hv hvb ?_))))
      refine wpAny_bind (wpAny_holding (wpAny_truthy_bool (wpAny_bind (wpAny_letGo (wpAny_pure ?_)))))
      cases hb : bt (i + 1) (argBest bt i) with
      | true =>
        have ha : argBest bt (i + 1) = i + 1 := by unfold argBest; rw [hb]; rfl
        simp only [if_true]; refine wpAny_bind (wpAny_updateSeq hS1 rfl (wpAny_bind (wpAny_letGo ?_)))
        rw [nm]
        refine wpAny_pure ⟨plainId_quiet F.plain_min_loop _, ih (i + 2) _ [v, v] _ (by omega) lt (W.frame _ _ _ st1 fun b hbf o e => ?_) (.inr ⟨i + 1, v, rfl, rfl, by rw [ha]; exact hv⟩) (Heap.get?_update_self _ hS1 rfl) fun v2 h2 t2 hv2 kp2 => ?_⟩
        · exact (Heap.get?_update_other _ _ (fun z : S = b => hSf (z ▸ hbf))).trans e
        · exact hR v2 h2 t2 hv2 fun b o q1 q2 e => kp2 b o q1 q2 ((Heap.get?_update_other _ _ (Ne.symm q2)).trans (kp b o q1 e))
      | false =>
        have ha : argBest bt (i + 1) = argBest bt i := by rw [argBest, hb]; rfl
        simp only [Bool.false_eq_true, if_false]; refine wpAny_bind (wpAny_letGo ?_)
        rw [nm]
        refine wpAny_pure ⟨plainId_quiet F.plain_min_loop _, ih (i + 2) _ [vb, vb] c (by omega) lt st1 (.inr ⟨i + 1, vb, rfl, rfl, by rw [ha]; exact hvb⟩) hS1 fun v2 h2 t2 hv2 kp2 => ?_⟩
        exact hR v2 h2 t2 hv2 fun b o q1 q2 e => kp2 b o q1 q2 (kp b o q1 e)
section
variable {X : Cx}
/-- of a list of ints, or None -/
def mnD : List Int → Wv
  | [] => .non
  | n :: r => .int (mnI n r)
theorem call_minD (hc : X.calm = true) {pins : List (Addr × Obj)} {s : Shared} {σ : L2.St} {H : Hp} {p : Addr} {ns : List Int} {Q : VK} (I : L2.Inv X pins σ H s) (hq : SqL X.K H p (ns.map V.int)) (q : ∀ v : V, (ns = [] ∧ v = .non) ∨ (∃ n r, ns = n :: r ∧ v = .int (mnI n r)) → Q v H) :
    wpAny (model X.prog X.w) X.A (call (.builtin "min") [.ref p] [(Str.ofString "default", .none)]) (EP X pins σ Q) X.xe s := by
  obtain ⟨its, r', pl, hz⟩ := I.list hq
  obtain ⟨xs, rfl, e0⟩ := vals_int r'
  have hl := pl.isList
  have e : (xs.map fun p => Value.int p.1 p.2).toArray = intItems xs.toArray := by unfold intItems; simp
  rw [e] at hl
  have hlen : xs.length = ns.length := by rw [← e0]; simp
  have hnum := fun i => numAt_map xs i
  rw [e0] at hnum
  have hh : X.A.handled = none := I.ok.hd hc
  have nm : (toString "min" ++ toString ".loop" : String) = "min.loop" := by decide
  refine kmk_tree F.kind_min F.plain_min F.entry_min (min_dflt _ _) ?_
  show wpAny _ X.A.in1 (Builtin.Builtins.bindParams "min" ["key", "default"] 0 ⟨[], [(Str.ofString "default", .none)]⟩ >>= _) _ _ s
  refine wpAny_bind (wpAny_of_eq (show Builtin.Builtins.bindParams "min" ["key", "default"] 0 ⟨[], [(Str.ofString "default", .none)]⟩ = pure [none, some .none] from rfl) (wpAny_bind (wpAny_pure ?_)))
  refine wpAny_bind (iter_intList hl fun s₂ e2 st hfp hlI => ?_)
  subst e2
  refine wpAny_bind (wpAny_newObj_type ?_)
  rw [nm]
  have W := Walks.list (prog := X.prog) (w := X.w) (A := X.A.in1) hh _ p hlI (intItems xs.toArray)
  refine wpAny_pure ⟨plainId_quiet F.plain_min_loop _, minD_loop W _ (CmpOf.ints_lt (numAt xs.toArray) (fun _ _ => intItems_at)) (fun hm => Nat.lt_irrefl _ (hfp _ hm)) _ 0 _ [] 0 rfl (Nat.zero_le _) (W.frame _ _ _ st fun b _ o e => Heap.get?_push_of_some _ e) (.inl ⟨rfl, rfl⟩) (Heap.get?_push_size _ rfl) fun v h' tk hv hk => ?_⟩
  have kp : ∀ b o, s.heap.get? b = some o → h'.get? b = some o := fun b o e => by
    have e3 : (s.heap.push { cls := .type "list_iterator", data := .fields #[.ref p, .int 0 0] }).get? b = some o := Heap.get?_push_of_some _ e
    exact hk b o (by intro z; simp at z; subst z; exact Nat.lt_irrefl _ (Heap.lt_size e)) (Nat.ne_of_lt (Heap.lt_size e3)) (Heap.get?_push_of_some _ e3)
  have hsz : (intItems xs.toArray).size = ns.length := by simp [intItems, hlen]
  rcases hv with ⟨n0, rfl⟩ | ⟨i, n1, hv⟩
  · exact ⟨.non, H, I.kept kp, rfl, q _ (.inl ⟨List.length_eq_zero_iff.mp (by omega), rfl⟩)⟩
  · obtain ⟨t, rfl⟩ := intItems_at hv
    cases ns with
    | nil => rw [hsz] at n1; cases n1
    | cons n r =>
      refine ⟨.int (mnI n r), H, I.kept kp, ⟨t, ?_⟩, q _ (.inr ⟨n, r, rfl, rfl⟩)⟩
      obtain ⟨h1, h2⟩ := PySem.argBest_lt (numAt xs.toArray) i
      congr 1
      have hr : (n :: r).length = i + 1 := by omega
      refine mn_eq ?_ fun a ha => ?_
      · rw [hnum]
        exact getD_memJ (by omega)
      · obtain ⟨j, hj, rfl⟩ := List.mem_iff_getElem.mp ha
        have q2 := h2 j (by omega)
        rw [hnum j, List.getD_eq_getElem?_getD, List.getElem?_eq_getElem hj] at q2
        exact q2
end

section
variable {X : Cx}
def oMaxD : List Wv → Hs → Re Wv
  | [.ref l], st => match lstOf st l with
    | some ws => (match intsOf ws with | some ns => .ok (mxD ns) st | none => .bad)
    | none => .bad
  | _, _ => .bad
def oMinD : List Wv → Hs → Re Wv
  | [.ref l], st => match lstOf st l with
    | some ws => (match intsOf ws with | some ns => .ok (mnD ns) st | none => .bad)
    | none => .bad
  | _, _ => .bad
/-- what a call with default=None does -/
def DflW (X : Cx) (id : String) (op : List Wv → Hs → Re Wv) : Prop := ∀ (ws : List Wv) (vs : List V) (us : List Value) (st : Hs) (H : Hp) (m : Mp) (Q : VK) (pins : List (Addr × Obj)) (s : Shared) (σ : L2.St), Sim X.K m st H → RelWs X.K m H ws vs → L2.Inv X pins σ H s → Vals vs us → PostO X.K m H (op ws st) Q →
  wpAny (model X.prog X.w) X.A (call (.builtin id) us [(Str.ofString "default", .none)]) (EP X pins σ Q) X.xe s
theorem dw_max (hc : X.calm = true) : DflW X "max" oMaxD := by
  intro ws vs us st H m Q pins s σ S rs I rv p
  match ws, rs, p with
  | [], rs, p => exact False.elim p
  | x :: y :: t, rs, p => cases x <;> exact False.elim p
  | [x], rs, p =>
    obtain ⟨v, rfl, r1⟩ := rel1 rs
    cases x with
    | ref l =>
      unfold oMaxD at p
      unfold RelW at r1
      obtain ⟨a, rfl, hl⟩ := r1
      obtain ⟨u, rfl, ru⟩ := vals1 rv
      cases ru
      cases e : lstOf st l with
      | none => simp only [e] at p; exact False.elim p
      | some ws =>
        simp only [e] at p
        cases e2 : intsOf ws with
        | none => simp only [e2] at p; exact False.elim p
        | some ns =>
          simp only [e2] at p
          obtain ⟨xs, q1, q2⟩ := S.read hl e
          have q3 := intsOf_rel q2 e2
          subst q3
          refine call_maxD hc I q1 fun v hv => p v m H Ext.refl S ?_
          rcases hv with ⟨rfl, rfl⟩ | ⟨n, r, rfl, rfl⟩
          · exact mkNon
          · exact mkInt
    | _ => exact False.elim p
theorem dw_min (hc : X.calm = true) : DflW X "min" oMinD := by
  intro ws vs us st H m Q pins s σ S rs I rv p
  match ws, rs, p with
  | [], rs, p => exact False.elim p
  | x :: y :: t, rs, p => cases x <;> exact False.elim p
  | [x], rs, p =>
    obtain ⟨v, rfl, r1⟩ := rel1 rs
    cases x with
    | ref l =>
      unfold oMinD at p
      unfold RelW at r1
      obtain ⟨a, rfl, hl⟩ := r1
      obtain ⟨u, rfl, ru⟩ := vals1 rv
      cases ru
      cases e : lstOf st l with
      | none => simp only [e] at p; exact False.elim p
      | some ws =>
        simp only [e] at p
        cases e2 : intsOf ws with
        | none => simp only [e2] at p; exact False.elim p
        | some ns =>
          simp only [e2] at p
          obtain ⟨xs, q1, q2⟩ := S.read hl e
          have q3 := intsOf_rel q2 e2
          subst q3
          refine call_minD hc I q1 fun v hv => p v m H Ext.refl S ?_
          rcases hv with ⟨rfl, rfl⟩ | ⟨n, r, rfl, rfl⟩
          · exact mkNon
          · exact mkInt
    | _ => exact False.elim p
theorem je_callD {x : Str} {id : String} {op : List Wv → Hs → Re Wv} {g : GA} {p pos kp cp : Pos} {e : Expr} {kk : Nat} (hc : DflW X id op) (hg : Gl X x) (hm : X.mg x = none) (hv : bootBuiltins x = some (.builtin id)) (ha : JA X [e] g) (hn : x ≠ "__name__") (hdb : (x == ("__debug__" : Str)) = false)
    (he : starEach [e] X.env = [(false, eval e X.env)]) : JE X (.Call (.Name x p) [e] [⟨some (Str.ofString "default"), .Constant .none kk cp, kp⟩] pos) (gCallB op g) := by
  intro ρ st σ H m Q S R pp pins s I
  have args := ha.go (T := fun vs H1 => ∃ ws st1 m1, PostG X σ m H (op ws st1).nox (okE X.K m H Q) ∧ Ext X.K m H m1 H1 ∧ Sim X.K m1 st1 H1 ∧ RelWs X.K m1 H1 ws vs) S R (PostG.bind pp)
    fun ws st1 vs m1 H1 p1 e1 S1 rs => ⟨ws, st1, m1, p1, e1, S1, rs⟩
  refine wpAny_Call_Name_kw (ld_blt I hg hm hv ?_ hn hdb)
  refine callWith_kw (thn (args pos pins s I) fun us s1 ⟨vs, H1, I1, r, ws, st1, m1, p1, e1, S1, rs⟩ => ?_) (by rw [he]; rfl) (by rw [he]; rfl)
  have kwd := pk_cons (nm := some (Str.ofString "default")) (kpos := kp) (X := X) (pe_non (j := kk) (pos := cp)) pk_nil pos pins s1 σ H1 (fun zs H2 => zs = [.non] ∧ H2 = H1) I1 ⟨rfl, rfl⟩
  refine thn kwd fun zs s2 ⟨ys, H2, I2, rz, ez, eH⟩ => ?_
  subst ez
  subst eH
  obtain ⟨u, rfl, ru⟩ := vals1 rz
  cases ru
  exact hc ws vs us st1 H2 m1 Q pins s2 σ S1 rs I2 r (PostO.shift (PostG.nox p1) e1)
end
end J

set_option Elab.async false
set_option linter.all false
set_option maxRecDepth 100000
set_option maxHeartbeats 4000000
namespace J
open PySem PySem.Spec PyProof.Rows L2

/-! ### going through a text -/
def Its (x : Str) : It := ⟨fun i _ => i < x.cps.size, fun i H v H' => H' = H ∧ ∃ c, x.cps[i]? = some c ∧ v = .str ⟨#[c]⟩, fun i _ => x.cps.size ≤ i⟩
theorem turn_ascii {P : Program} {w : World} {K : PySem.W.Frag} {tg : Expr} (x : Str) (t : Tok) (it : Addr) : Turn P w K tg (Its x) [it] it (fun i h => h.IsStrIter it "str_ascii_iterator" x t i) where
  mem := List.mem_singleton.mpr rfl
  obj := fun i h st b hb => by
    cases List.mem_singleton.mp hb
    obtain ⟨o, e, c, d⟩ := st
    exact ⟨o, e, fun v z => by rw [d] at z; cases z⟩
  keep := fun i h h' st k => let ⟨o, e, r⟩ := st; ⟨o, k it (List.mem_singleton.mpr rfl) o e, r⟩
  item := by
    intro X hP hw hK hc i pins s σ H E I hf st hg
    subst hP; subst hw; subst hK
    obtain ⟨f0, f1, f2, f3, f4, f5⟩ := hf it (List.mem_singleton.mpr rfl)
    have hi : i < x.cps.size := hg
    refine wpAny_pyNext_ascii_item st (c := x.cps[i]) (by simp [hi]) fun h' st' sb => ?_
    have I1 : L2.Inv X pins σ H { s with heap := h', toks := s.toks + 1 } := I.turned (t' := s.toks + 1) (fun b o hb e => sb.extBut b o hb e) f0 f1 f3 f4 f5
    obtain ⟨o, e, c, d⟩ := id st'
    exact ⟨_, rfl, go_of (s := { s with heap := h', toks := s.toks + 1 }) e c d (by decide) ⟨.str ⟨#[x.cps[i]]⟩, H, I1, ⟨_, rfl⟩, ⟨rfl, _, by simp [hi], rfl⟩, st', fun b hb => (hf b hb).1⟩⟩
  done := by
    intro X hP hw hK hc i pins s σ H E I hf st hg
    subst hP; subst hw; subst hK
    obtain ⟨f0, f1, f2, f3, f4, f5⟩ := hf it (List.mem_singleton.mpr rfl)
    have hi : x.cps.size ≤ i := hg
    exact wpAny_pyNext_ascii_end (I.ok.hd hc) st (by simp [hi]) fun h' eb => ⟨rfl, I.turned (t' := s.toks) (fun b o hb e => eb b o hb e) f0 f1 f3 f4 f5⟩
  self := fun _ _ _ _ _ st h => wpAny_pyIter_striter_ascii st h
theorem turn_wide {P : Program} {w : World} {K : PySem.W.Frag} {tg : Expr} (x : Str) (t : Tok) (it : Addr) : Turn P w K tg (Its x) [it] it (fun i h => h.IsStrIter it "str_iterator" x t i) where
  mem := List.mem_singleton.mpr rfl
  obj := fun i h st b hb => by
    cases List.mem_singleton.mp hb
    obtain ⟨o, e, c, d⟩ := st
    exact ⟨o, e, fun v z => by rw [d] at z; cases z⟩
  keep := fun i h h' st k => let ⟨o, e, r⟩ := st; ⟨o, k it (List.mem_singleton.mpr rfl) o e, r⟩
  item := by
    intro X hP hw hK hc i pins s σ H E I hf st hg
    subst hP; subst hw; subst hK
    obtain ⟨f0, f1, f2, f3, f4, f5⟩ := hf it (List.mem_singleton.mpr rfl)
    have hi : i < x.cps.size := hg
    refine wpAny_pyNext_wide_item st (c := x.cps[i]) (by simp [hi]) fun h' st' sb => ?_
    have I1 : L2.Inv X pins σ H { s with heap := h', toks := s.toks + 1 } := I.turned (t' := s.toks + 1) (fun b o hb e => sb.extBut b o hb e) f0 f1 f3 f4 f5
    obtain ⟨o, e, c, d⟩ := id st'
    exact ⟨_, rfl, go_of (s := { s with heap := h', toks := s.toks + 1 }) e c d (by decide) ⟨.str ⟨#[x.cps[i]]⟩, H, I1, ⟨_, rfl⟩, ⟨rfl, _, by simp [hi], rfl⟩, st', fun b hb => (hf b hb).1⟩⟩
  done := by
    intro X hP hw hK hc i pins s σ H E I hf st hg
    subst hP; subst hw; subst hK
    obtain ⟨f0, f1, f2, f3, f4, f5⟩ := hf it (List.mem_singleton.mpr rfl)
    have hi : x.cps.size ≤ i := hg
    exact wpAny_pyNext_wide_end (I.ok.hd hc) st (by simp [hi]) fun h' eb => ⟨rfl, I.turned (t' := s.toks) (fun b o hb e => eb b o hb e) f0 f1 f3 f4 f5⟩
  self := fun _ _ _ _ _ st h => wpAny_pyIter_striter_wide st h
section
variable {X : Cx}
theorem pi_str {tg l : Expr} {tl : TE} (hl : PE X l tl) : PI X tg l (fun σ H R => tl σ H fun v H1 => ∃ z, v = .str z ∧ R (Its z) H1) := by
  intro pins s σ H R I h
  refine thn (hl pins s σ H _ I h) fun v s1 ⟨x, H1, I1, r1, z, e, q⟩ => ?_
  subst e
  obtain ⟨t, rfl⟩ := r1
  have frs : ∀ b ∈ [s1.heap.objs.size], FpOk X pins H1 b := fun b hb => by
    cases List.mem_singleton.mp hb
    exact I1.fpOk (Nat.le_refl _) (I1.hok.fresh (Nat.le_refl _))
  cases ha : z.cps.all (· < 128)
  · exact wpAny_pyIter_wide ha ⟨s1.heap.objs.size, [s1.heap.objs.size], _, _, H1, rfl, I1.kept (t' := s1.toks) fun b o e => Heap.get?_push_of_some _ e, turn_wide z t _, ⟨_, Heap.get?_push_size _ rfl, rfl, rfl⟩, frs, q⟩
  · exact wpAny_pyIter_ascii ha ⟨s1.heap.objs.size, [s1.heap.objs.size], _, _, H1, rfl, I1.kept (t' := s1.toks) fun b o e => Heap.get?_push_of_some _ e, turn_ascii z t _, ⟨_, Heap.get?_push_size _ rfl, rfl, rfl⟩, frs, q⟩
def signsW (z : PySem.Str) : List Wv := z.cps.toList.map fun c => Wv.str ⟨#[c]⟩
def seqW2 (w : Wv) (st : Hs) : Re Wk := match w with
  | .str z => .ok (none, signsW z) st
  | w => seqW w st
def giSeq2 (g : GE) : GI := fun ρ st => (g ρ st).bind seqW2
theorem it_str {z : PySem.Str} {m1 : Mp} {H1 : Hp} (hz : PyData.strOk z = true) : ItFor X (none, signsW z) m1 H1 (Its z) where
  go := fun k H m' st _ _ _ hk => by
    have : k < z.cps.size := by simpa [signsW] using hk
    exact this
  stop := fun k H m' st _ _ _ hk => by
    have : k = z.cps.size := by simpa [signsW] using hk
    exact Nat.le_of_eq this.symm
  yld := fun k hk H v H' m' st _ _ _ y => by
    obtain ⟨rfl, c, hc, rfl⟩ := y
    refine ⟨rfl, ?_⟩
    have hk' : k < z.cps.size := by simpa [signsW] using hk
    have e : ∀ h : k < (signsW z).length, (signsW z)[k]'h = .str ⟨#[z.cps[k]]⟩ := by intro h; simp [signsW]
    have hc' : z.cps[k] = c := by simpa [hk'] using hc
    show RelW X.K m' H' ((signsW z)[k]'hk) _
    rw [e hk, hc']
    refine mkStr ?_
    rw [strOk_iff] at hz ⊢
    intro d hd
    simp at hd
    rw [hd, ← hc']
    exact hz _ (by simp)
theorem ji_seq2 {tg iter : Expr} {g : GE} (h : JE X iter g) : JI X tg iter (giSeq2 g) := by
  obtain ⟨w1, h1, k1⟩ := ji_seq (tg := tg) h
  refine ⟨fun σ H R => w1 σ H R ∨ (SE X iter σ H fun v H1 => ∃ z, v = .str z ∧ R (Its z) H1), fun pins s σ H R I q => ?_, fun ρ st σ H m R S RR p => ?_⟩
  · rcases q with q | q
    · exact h1 pins s σ H R I q
    · exact pi_str pe_SE pins s σ H R I q
  · unfold giSeq2 at p
    cases e : g ρ st with
    | bad => rw [e] at p; exact False.elim p
    | err c st' => rw [e] at p; exact .inl (k1 ρ st σ H m R S RR (by unfold giSeq; rw [e]; exact p))
    | ok w st' =>
      rw [e] at p
      cases w with
      | str z =>
        refine .inr ?_
        refine h.go (ok := fun w st1 => w = .str z ∧ st1 = st') S RR (by rw [e]; exact ⟨rfl, rfl⟩) fun w st1 v m1 H1 q e1 S1 r1 => ?_
        obtain ⟨rfl, rfl⟩ := q
        unfold RelW at r1
        obtain ⟨rfl, hz⟩ := r1
        exact ⟨z, rfl, p m1 H1 _ e1 S1 trivial (it_str hz)⟩
      | _ => exact .inl (k1 ρ st σ H m R S RR (by unfold giSeq; rw [e]; exact p))
/-! ### int of a text -/
theorem call_int_txt : CallR X (.type "int") (fun xs H Q => ∃ z n, xs = [.str z] ∧ PySem.intText? z = some n ∧ z.length ≤ 640 ∧ Q (.int n) H) := by
  intro pins s σ H xs us Q I r h
  obtain ⟨z, n, rfl, hn, hl, q⟩ := h
  obtain ⟨u, rfl, t, rfl⟩ := vals1 r
  exact PySem.W.KIN.call_text hn hl ⟨.int n, H, I.tok _, ⟨_, rfl⟩, q⟩
def oInt2 : List Wv → Hs → Re Wv
  | [.str z], st => (match PySem.intText? z with | some n => if z.length ≤ 640 then .ok (.int n) st else .bad | none => .bad)
  | ws, st => oInt ws st
theorem cw_int2 : CallW X (.type "int") oInt2 := by
  obtain ⟨r, h1, h2⟩ := cw_int (X := X)
  refine ⟨_, call_int_txt.or h1, fun ws vs st H m Q S rs p => ?_⟩
  unfold oInt2 at p
  split at p
  · rename_i z
    obtain ⟨v, rfl, r1⟩ := rel1 rs
    unfold RelW at r1
    obtain ⟨rfl, _⟩ := r1
    cases e : PySem.intText? z with
    | none => rw [e] at p; exact False.elim p
    | some n =>
      rw [e] at p
      dsimp only at p
      by_cases c : z.length ≤ 640
      · rw [if_pos c] at p
        exact .inl ⟨z, n, rfl, e, c, p _ m H Ext.refl S mkInt⟩
      · rw [if_neg c] at p; exact False.elim p
  · exact .inr (h2 _ vs st H m Q S rs p)
/-! ### split -/
theorem mt_split : MtR X "str.split" (fun x xs H Q => ∃ z y, x = .str z ∧ xs = [.str y] ∧ (y.length == 0) = false ∧ z.length + 2 ≤ sizeLine ∧ ∀ l, H l = none → Q (.ref l) (upd H l (.lst ((Txt.split z y).map V.str)))) := by
  intro pins s σ H x xs v us Q I rx rv h
  obtain ⟨z, y, rfl, rfl, hy, hz, q⟩ := h
  obtain ⟨t, rfl⟩ := rx
  obtain ⟨u, rfl, t', rfl⟩ := vals1 rv
  have vv : ∀ l : List (Str × Tok), Vals ((l.map (·.1)).map V.str) (strValues l) := by
    intro l
    induction l with
    | nil => exact .nil
    | cons p r ih => exact .cons ⟨p.2, rfl⟩ ih
  have hn : (Builtin.Str.partsBetween z (Builtin.Str.occurrences z y 0 z.length (z.length + 1)) y.length).length ≤ sizeLine := by
    have e1 := StrLaws.occ_length_le z y 0 z.length (z.length + 1)
    rw [length_partsBetween]
    omega
  have fin : ∀ (l : List (Str × Tok)) (k : Nat), l.map (·.1) = Txt.split z y → l.length ≤ sizeLine → EP X pins σ Q (.ref s.heap.objs.size) { s with toks := k, heap := s.heap.push { cls := .type "list", data := .seq (strValues l).toArray } } := by
    intro l k hl hlen
    rw [← hl] at q
    refine ⟨.ref s.heap.objs.size, _, I.laid (t' := k) (fun b o e => Heap.get?_push_of_some _ e) (Nat.le_refl _) (show ObjOk X.prog X.w _ _ _ (.lst _) from ⟨by simpa using hlen, strValues l, 0, vv l, Heap.get?_push_size _ rfl⟩), rfl, q _ (I.hok.fresh (Nat.le_refl _))⟩
  have e0 : Txt.split z y = Txt.split z y := rfl
  unfold Txt.split at e0
  cases h1 : (decide (z.length < y.length) || decide (Builtin.Str.strKind z < Builtin.Str.strKind y)) with
  | true =>
    refine call_meets PySem.F.slot_str_split (typeIs_str _ _ _) PySem.F.entry_str_split (PySem.F.args_str_split_2 _ _) (meets_str_split_cannot_occur z y t t' h1) (fin [(z, t)] s.toks ?_ (by show 1 ≤ sizeLine; decide))
    unfold Txt.split
    rw [if_pos h1]; rfl
  | false =>
    cases hf : (Builtin.Str.occurrences z y 0 z.length (z.length + 1)).isEmpty with
    | true =>
      refine call_meets PySem.F.slot_str_split (typeIs_str _ _ _) PySem.F.entry_str_split (PySem.F.args_str_split_2 _ _) (meets_str_split_not_found z y t t' h1 hy hf) (fin [(z, t)] s.toks ?_ (by show 1 ≤ sizeLine; decide))
      unfold Txt.split
      rw [if_neg (ne_true_of_eq_false h1), if_pos hf]; rfl
    | false =>
      refine call_meets PySem.F.slot_str_split (typeIs_str _ _ _) PySem.F.entry_str_split (PySem.F.args_str_split_2 _ _) (meets_str_split_sep z y t t' h1 hy hf (by omega) hn) ?_
      show wants _ _ _ _
      rw [strsFrom_eq]
      refine fin (numbered s.toks _) _ ?_ ?_
      · rw [numbered_texts]
        unfold Txt.split
        rw [if_neg (ne_true_of_eq_false h1), if_neg (ne_true_of_eq_false hf)]
      · have := congrArg List.length (numbered_texts s.toks (Builtin.Str.partsBetween z (Builtin.Str.occurrences z y 0 z.length (z.length + 1)) y.length))
        rw [List.length_map] at this
        omega
theorem mem_sub {z : PySem.Str} {i j c : Nat} (h : c ∈ (Builtin.Str.strSub z i j).cps.toList) : c ∈ z.cps.toList := by
  unfold Builtin.Str.strSub at h
  simp only [Array.toList_extract, List.extract_eq_take_drop] at h
  exact List.mem_of_mem_drop (List.mem_of_mem_take h)
theorem strOk_split {z y : PySem.Str} (h : PyData.strOk z = true) : ∀ b ∈ Txt.split z y, PyData.strOk b = true := by
  intro b hb
  have one : ∀ c ∈ b.cps.toList, c ∈ z.cps.toList := by
    intro c hc
    unfold Txt.split at hb
    split at hb
    · simp at hb; rw [hb] at hc; exact hc
    · split at hb
      · simp at hb; rw [hb] at hc; exact hc
      · unfold Builtin.Str.partsBetween at hb
        obtain ⟨p, _, rfl⟩ := List.mem_map.mp hb
        exact mem_sub hc
  rw [strOk_iff] at h ⊢
  exact fun c hc => h c (one c hc)
def mSplit (z : PySem.Str) : List Wv → Hs → Re Wv
  | [.str y], st => if (y.length == 0) = false ∧ z.length ≤ lim then .ok (.ref st.length) (st ++ [.lst ((Txt.split z y).map Wv.str)]) else .bad
  | _, _ => .bad
theorem rel_strs {K : PySem.W.Frag} {m : Mp} {H : Hp} : ∀ (ys : List PySem.Str), (∀ b ∈ ys, PyData.strOk b = true) → RelWs K m H (ys.map Wv.str) (ys.map V.str)
  | [], _ => RelWs.nil
  | y :: r, h => RelWs.cons (by unfold RelW; exact ⟨rfl, h y List.mem_cons_self⟩) (rel_strs r fun b hb => h b (List.mem_cons_of_mem _ hb))
theorem ms_split : MsW X "str.split" mSplit := ⟨_, mt_split, fun z ws vs st H m Q hz S rs p => by
  match ws, rs, p with
  | [], rs, p => exact False.elim p
  | x :: y :: t, rs, p => cases x <;> exact False.elim p
  | [x], rs, p =>
    obtain ⟨v, rfl, r1⟩ := rel1 rs
    cases x with
    | str y =>
      unfold RelW at r1
      obtain ⟨rfl, _⟩ := r1
      unfold mSplit at p
      dsimp only at p
      by_cases c : (y.length == 0) = false ∧ z.length ≤ lim
      · rw [if_pos c] at p
        refine ⟨z, y, rfl, rfl, c.1, ?_, fun l hl => new_list p Ext.refl S (rel_strs _ (strOk_split hz)) l hl⟩
        have := c.2
        unfold lim at this
        rw [sizeLine_eq]
        omega
      · rw [if_neg c] at p; exact False.elim p
    | _ => exact False.elim p⟩
end
end J

set_option Elab.async false
set_option linter.all false
set_option maxRecDepth 100000
set_option maxHeartbeats 4000000
namespace J
open PySem PySem.Spec PyProof.Rows L2
section
variable {X : Cx}
/-! ### xs.count(v), xs.index(v): flat items -/
theorem countP_eqU {x : V} : ∀ {xs : List V} {us : List Value}, Vals xs us → xs.all flatV = true → us.countP (eqU x) = xs.countP fun y => eqV y x
  | _, _, .nil, _ => rfl
  | y :: xs, u :: us, .cons r t, f => by
    rw [List.all_cons, Bool.and_eq_true] at f
    rw [List.countP_cons, List.countP_cons, eqU_of r f.1, countP_eqU t f.2]
theorem mt_lcount : MtR X "list.count" (fun x xs H Q => ∃ (p : Addr) (ys : List V) (y : V), x = .ref p ∧ xs = [y] ∧ SqL X.K H p ys ∧ flatV y = true ∧ ys.all flatV = true ∧ Q (.int (ys.countP fun z => eqV z y : Nat)) H) := by
  intro pins s σ H x xs v us Q I rx rv h
  obtain ⟨p, ys, y, rfl, rfl, hq, fy, fs, q⟩ := h
  cases rx
  obtain ⟨u, rfl, ru⟩ := vals1 rv
  obtain ⟨its, r, pl, hz⟩ := I.list hq
  obtain ⟨⟨cls, dd, data, sl⟩, ho, hc, n, hd⟩ := pl.isList
  simp only at hc hd
  subst hc; subst hd
  refine call_meets PySem.F.slot_list_count ⟨_, ho, rfl⟩ PySem.F.entry_list_count (PySem.F.args_list_count_2 _ _) (SeqAt.list_countAt p its.toArray n dd sl u (eqU y)) ⟨ho, fun w hw => mem_eqAt ru fy r fs w (by simpa using hw), ?_⟩
  refine ⟨.int _, H, I.tok _, ⟨s.toks, ?_⟩, q⟩
  rw [List.toList_toArray, countP_eqU r fs]
theorem mt_lindex : MtR X "list.index" (fun x xs H Q => ∃ (p : Addr) (ys : List V) (y : V) (j : Nat), x = .ref p ∧ xs = [y] ∧ SqL X.K H p ys ∧ flatV y = true ∧ ys.all flatV = true ∧ ys.findIdx? (fun z => eqV z y) = some j ∧ Q (.int (j : Nat)) H) := by
  intro pins s σ H x xs v us Q I rx rv h
  obtain ⟨p, ys, y, j, rfl, rfl, hq, fy, fs, hj, q⟩ := h
  cases rx
  obtain ⟨u, rfl, ru⟩ := vals1 rv
  obtain ⟨its, r, pl, hz⟩ := I.list hq
  have hlen := r.length
  obtain ⟨⟨cls, dd, data, sl⟩, ho, hc, n, hd⟩ := pl.isList
  simp only at hc hd
  subst hc; subst hd
  rw [List.findIdx?_eq_some_iff_getElem] at hj
  obtain ⟨hj1, hj2, hj3⟩ := hj
  have at' : ∀ (k : Nat) (h : k < ys.length) (h' : k < its.length), eqU y its[k] = eqV ys[k] y := by
    intro k h h'
    obtain ⟨w, hw, rw'⟩ := r.get (List.getElem?_eq_getElem h)
    rw [List.getElem?_eq_getElem h'] at hw
    cases hw
    exact eqU_of rw' (List.all_eq_true.mp fs _ (List.getElem_mem h))
  have hs : sizeLine = 16777216 := sizeLine_eq
  refine call_meets PySem.F.slot_list_index ⟨_, ho, rfl⟩ PySem.F.entry_list_index (PySem.F.args_list_index_2 _ _) (SeqAt.list_indexAt p its.toArray n dd sl u (eqU y) j (by simp; omega) (by omega) ?_ ?_) ⟨ho, fun w hw => mem_eqAt ru fy r fs w (by simpa using hw), ⟨.int _, H, I.tok _, ⟨_, rfl⟩, q⟩⟩
  · rw [List.getElem_toArray, at' j hj1 (by omega)]; exact hj2
  · intro m hm hlt
    rw [List.getElem_toArray, at' m (by omega) (by omega)]
    simpa using hj3 m hlt
def mLCount (o v : Wv) (st : Hs) : Re Wv := match o with
  | .ref l => (match lstOf st l with
    | some ws => if flatW v = true ∧ ws.all flatW = true then .ok (.int (ws.countP fun z => eqF z v : Nat)) st else .bad
    | none => .bad)
  | _ => .bad
def mLIndex (o v : Wv) (st : Hs) : Re Wv := match o with
  | .ref l => (match lstOf st l with
    | some ws => if flatW v = true ∧ ws.all flatW = true then (match ws.findIdx? (fun z => eqF z v) with | some j => .ok (.int (j : Nat)) st | none => .bad) else .bad
    | none => .bad)
  | _ => .bad
theorem flatsW_rel {m : Mp} {H : Hp} : ∀ {ws : List Wv} {xs : List V}, RelWs X.K m H ws xs → ws.all flatW = true → xs.all flatV = true
  | [], xs, r, _ => by unfold RelWs at r; subst r; rfl
  | w :: ws, xs, r, f => by
    unfold RelWs at r
    obtain ⟨x, t, rfl, r1, r2⟩ := r
    rw [List.all_cons, Bool.and_eq_true] at f ⊢
    exact ⟨flat_rel r1 f.1, flatsW_rel r2 f.2⟩
theorem count_rel {m : Mp} {H : Hp} {v : Wv} {y : V} (rv : RelW X.K m H v y) (fv : flatW v = true) : ∀ {ws : List Wv} {xs : List V}, RelWs X.K m H ws xs → ws.all flatW = true → (xs.countP fun z => eqV z y) = ws.countP fun z => eqF z v
  | [], xs, r, _ => by unfold RelWs at r; subst r; rfl
  | w :: ws, xs, r, f => by
    unfold RelWs at r
    obtain ⟨x, t, rfl, r1, r2⟩ := r
    rw [List.all_cons, Bool.and_eq_true] at f
    rw [List.countP_cons, List.countP_cons, count_rel rv fv r2 f.2, eqF_rel r1 rv f.1 fv]
theorem find_rel {m : Mp} {H : Hp} {v : Wv} {y : V} (rv : RelW X.K m H v y) (fv : flatW v = true) : ∀ {ws : List Wv} {xs : List V}, RelWs X.K m H ws xs → ws.all flatW = true → xs.findIdx? (fun z => eqV z y) = ws.findIdx? fun z => eqF z v
  | [], xs, r, _ => by unfold RelWs at r; subst r; rfl
  | w :: ws, xs, r, f => by
    unfold RelWs at r
    obtain ⟨x, t, rfl, r1, r2⟩ := r
    rw [List.all_cons, Bool.and_eq_true] at f
    rw [List.findIdx?_cons, List.findIdx?_cons, find_rel rv fv r2 f.2, eqF_rel r1 rv f.1 fv]
theorem mw_lcount : MtW X "list.count" mLCount := ⟨_, mt_lcount, fun o w x v st H m Q S ro rw' p => by
  cases o with
  | ref l =>
    unfold RelW at ro
    obtain ⟨a, rfl, ha⟩ := ro
    unfold mLCount at p
    cases e : lstOf st l with
    | none => simp only [e] at p; exact False.elim p
    | some ws =>
      simp only [e] at p
      by_cases c : flatW w = true ∧ ws.all flatW = true
      · rw [if_pos c] at p
        obtain ⟨xs, q1, q2⟩ := S.read ha e
        refine ⟨a, xs, v, rfl, rfl, q1, flat_rel rw' c.1, flatsW_rel q2 c.2, ?_⟩
        rw [count_rel rw' c.1 q2 c.2]
        exact p _ m H Ext.refl S mkInt
      · rw [if_neg c] at p; exact False.elim p
  | _ => exact False.elim p⟩
theorem mw_lindex : MtW X "list.index" mLIndex := ⟨_, mt_lindex, fun o w x v st H m Q S ro rw' p => by
  cases o with
  | ref l =>
    unfold RelW at ro
    obtain ⟨a, rfl, ha⟩ := ro
    unfold mLIndex at p
    cases e : lstOf st l with
    | none => simp only [e] at p; exact False.elim p
    | some ws =>
      simp only [e] at p
      by_cases c : flatW w = true ∧ ws.all flatW = true
      · rw [if_pos c] at p
        obtain ⟨xs, q1, q2⟩ := S.read ha e
        cases ej : ws.findIdx? (fun z => eqF z w) with
        | none => rw [ej] at p; exact False.elim p
        | some j =>
          rw [ej] at p
          exact ⟨a, xs, v, j, rfl, rfl, q1, flat_rel rw' c.1, flatsW_rel q2 c.2, by rw [find_rel rw' c.1 q2 c.2]; exact ej, p _ m H Ext.refl S mkInt⟩
      · rw [if_neg c] at p; exact False.elim p
  | _ => exact False.elim p⟩
end
end J

set_option Elab.async false
set_option linter.all false
set_option maxRecDepth 100000
set_option maxHeartbeats 4000000
namespace J
open PySem PySem.Spec PyProof.Rows L2

/-! The text read by a function: what cannot be read is bad. -/
structure Ct where
  N : List Str
  names : List (Str × NameKind)
  consts : List (Str × Wv)
  bl : List Str
  fns : List (Str × Nat × (List Wv → Hs → Re Wv))
  tb : Tab := []
  tt : TabT := []
  clss : List Str := []
  loop : Bool := true
  free : Bool := true
  top : Bool := true

def ixOf (x : Str) : List Str → Option Nat
  | [] => none
  | y :: r => if x = y then some 0 else match ixOf x r with
    | some i => some (i + 1)
    | none => none
theorem ixOf_get {x : Str} : ∀ {N : List Str} {i : Nat}, ixOf x N = some i → N[i]? = some x
  | [], i, h => by cases h
  | y :: r, i, h => by
    unfold ixOf at h
    by_cases e : x = y
    · rw [if_pos e] at h; cases h; subst e; rfl
    · rw [if_neg e] at h
      cases q : ixOf x r with
      | none => rw [q] at h; cases h
      | some j => rw [q] at h; cases h; simpa using ixOf_get q
def okN (x : Str) : Bool := !(x == ("__debug__" : Str)) && !(x == ("__classdict__" : Str)) && !(decide (x = "__name__"))
theorem okN_d {x : Str} (h : okN x = true) : (x == ("__debug__" : Str)) = false := by unfold okN at h; revert h; cases (x == ("__debug__" : Str)) <;> simp
theorem okN_c {x : Str} (h : okN x = true) : (x == ("__classdict__" : Str)) = false := by unfold okN at h; revert h; cases (x == ("__classdict__" : Str)) <;> simp
theorem okN_n {x : Str} (h : okN x = true) : x ≠ "__name__" := by
  intro e
  subst e
  unfold okN at h
  simp at h

/-- what a constant of the top is -/
def FlatL : List Wv → List V → Prop
  | [], [] => True
  | .int i :: r, .int j :: t => i = j ∧ FlatL r t
  | .str x :: r, .str y :: t => (x = y ∧ PyData.strOk x = true) ∧ FlatL r t
  | _, _ => False
theorem FlatL.rel {K : PySem.W.Frag} {m : Mp} {H : Hp} : ∀ {ws : List Wv} {vs : List V}, FlatL ws vs → RelWs K m H ws vs
  | [], [], _ => RelWs.nil
  | .int i :: r, .int j :: t, h => by
    obtain ⟨rfl, h⟩ := h
    exact RelWs.cons (by unfold RelW; rfl) h.rel
  | .str x :: r, .str y :: t, h => by
    obtain ⟨⟨rfl, hx⟩, h⟩ := h
    exact RelWs.cons (by unfold RelW; exact ⟨rfl, hx⟩) h.rel
  | [], _ :: _, h => False.elim h
  | .int i :: r, [], h => False.elim h
  | .str i :: r, [], h => False.elim h
  | .int i :: r, .str _ :: _, h => False.elim h
  | .str i :: r, .int _ :: _, h => False.elim h
def CstOk (K : PySem.W.Frag) (mg : Str → Option Value) (x : Str) : Wv → Prop
  | .int i => ∃ t, mg x = some (.int i t)
  | .str y => (∃ t, mg x = some (.str y t)) ∧ PyData.strOk y = true
  | .tup ws => ∃ (a : Addr) (vs : List V) (o : Obj) (its : Array Value) (n : Nat), mg x = some (.ref a) ∧ K.lookup a = some o ∧ o.cls = .type "tuple" ∧ o.data = .seq its n ∧ its.size ≤ sizeLine ∧ Vals vs its.toList ∧ FlatL ws vs
  | _ => False
structure Good (c : Ct) (k : Nat) (X : Cx) : Prop where
  N : X.N = c.N
  sc : X.env.scope.names = c.names
  nd : c.N.Nodup
  un : X.A.units + 64 < cLine
  free : c.free = true → Room k X.A ∧ X.calm = true
  loop : c.loop = true → X.calm = true ∧ PassesOwn (model X.prog X.w) X.A X.env X.xe
  cst : ∀ x w, c.consts.lookup x = some w → CstOk X.K X.mg x w
  bl : ∀ x, c.bl.contains x = true → X.mg x = none
  fns : ∀ x n F, c.fns.lookup x = some (n, F) → Has X.prog X.w X.K X.mg X.base k x n F
  stk : c.top = true → Stk X
  fn : c.top = true → ∀ x, X.fn x = true
  kind : X.env.scope.kind = .function
  tab : TabOk X.K c.tb c.tt
  cls : ∀ x, c.clss.contains x = true → ∃ C, X.mg x = some (.ref C) ∧ ExcC X.K x C
theorem room_un {k : Nat} {A : Around} (hr : Room k A) : A.units + 64 < cLine := by have := hr.un; omega
/-- within a try's body, within an except suite -/
def Ct.inTry (c : Ct) : Ct := { c with loop := false }
def Ct.inSuite (c : Ct) : Ct := { c with loop := false, free := false }
theorem Good.body {c : Ct} {k : Nat} {X : Cx} (G : Good c k X) (hf : c.free = true) (pn : List (Addr × Obj)) (E : Value → Shared → Prop) : Good c.inTry k (reX X X.A true pn E) :=
  ⟨G.N, G.sc, G.nd, G.un, fun _ => ⟨(G.free hf).1, rfl⟩, (fun z => by cases z), G.cst, G.bl, G.fns, fun z => ⟨(G.stk z).st, (G.stk z).fr, (G.stk z).ex⟩, G.fn, G.kind, G.tab, G.cls⟩
theorem Good.suite {c : Ct} {k : Nat} {X : Cx} (G : Good c k X) (e : Value) (pn : List (Addr × Obj)) (E : Value → Shared → Prop) : Good c.inSuite k (reX X (X.A.mark (some e)) false pn E) :=
  ⟨G.N, G.sc, G.nd, G.un, (fun z => by cases z), (fun z => by cases z), G.cst, G.bl, G.fns, fun z => ⟨(G.stk z).st, (G.stk z).fr, (G.stk z).ex⟩, G.fn, G.kind, G.tab, G.cls⟩

theorem boot_tyV : bootBuiltins "ValueError" = some (.type "ValueError") := by decide +kernel
def tyOf (x : Str) : Option String :=
  if x = "int" then some "int" else if x = "str" then some "str" else if x = "bool" then some "bool" else if x = "tuple" then some "tuple" else if x = "list" then some "list" else if x = "ValueError" then some "ValueError" else none
theorem tyOf_ok {x : Str} {T : String} (h : tyOf x = some T) : bootBuiltins x = some (.type T) := by
  unfold tyOf at h
  by_cases e : x = "int"
  · rw [if_pos e] at h; cases h; subst e; exact boot_tyI
  rw [if_neg e] at h
  by_cases e : x = "str"
  · rw [if_pos e] at h; cases h; subst e; exact boot_tyS
  rw [if_neg e] at h
  by_cases e : x = "bool"
  · rw [if_pos e] at h; cases h; subst e; exact boot_tyB
  rw [if_neg e] at h
  by_cases e : x = "tuple"
  · rw [if_pos e] at h; cases h; subst e; exact boot_tyT
  rw [if_neg e] at h
  by_cases e : x = "list"
  · rw [if_pos e] at h; cases h; subst e; exact boot_tyL
  rw [if_neg e] at h
  by_cases e : x = "ValueError"
  · rw [if_pos e] at h; cases h; subst e; exact boot_tyV
  rw [if_neg e] at h
  cases h

section
variable {X : Cx}
/-! ### operators -/
def oBad : Op2 := fun _ _ _ => .bad
theorem ow_bad {f : Value → Value → Sem Value} : OpW X f oBad := ⟨fun _ _ _ _ => False, fun _ _ _ _ _ _ _ _ _ _ _ _ h => h.elim, fun _ _ _ _ _ _ _ _ _ _ _ p => p⟩
noncomputable def binO : Operator → Op2
  | .Add => oAdd
  | .Sub => oSub
  | .Mult => oMulL
  | .FloorDiv => oFdiv
  | .Mod => oMod
  | .Pow => oPow
  | _ => oBad
theorem binO_ok (o : Operator) : OpW X (binaryOp o) (binO o) := by
  cases o <;> first | exact ow_add | exact ow_sub | exact ow_mulL | exact ow_fdiv | exact ow_mod | exact ow_pow | exact ow_bad
def cmpO : CmpOp → Op2
  | .Eq => oEq
  | .NotEq => oNe
  | .Lt => oLt
  | .LtE => oLe
  | .Gt => oGt
  | .GtE => oGe
  | .Is => oIs
  | .IsNot => oIsNot
  | .In => oIn2
  | .NotIn => oNotIn2
theorem cmpO_ok (hu : X.A.units + 64 < cLine) (o : CmpOp) : OpW X (compareOp o) (cmpO o) := by
  cases o <;> first | exact ow_eq hu | exact ow_ne hu | exact ow_lt | exact ow_le | exact ow_gt | exact ow_ge | exact ow_is | exact ow_isnot | exact ow_in2 | exact ow_notIn2

/-! ### names -/
def cName (c : Ct) (x : Str) : GE := if okN x = true then
    match c.names.lookup x with
    | some .local => (match ixOf x c.N with | some i => gVar i | none => gBad)
    | some .cell => (match ixOf x c.N with | some i => gVar i | none => gBad)
    | some .free => (match ixOf x c.N with | some i => gVar i | none => gBad)
    | some .globalImplicit => (match c.consts.lookup x with
      | some w => gC w
      | none => if c.clss.contains x = true then gC (.cls x) else if c.bl.contains x = true then (match tyOf x with | some T => gC (.ty T) | none => gBad) else gBad)
    | _ => gBad
  else gBad
theorem cName_ok {c : Ct} {k : Nat} (G : Good c k X) (x : Str) (pos : Pos) : JE X (.Name x pos) (cName c x) := by
  unfold cName
  by_cases hx : okN x = true
  · rw [if_pos hx]
    cases e : c.names.lookup x with
    | none => exact je_bad
    | some kd =>
      have el : X.env.scope.names.lookup x = some kd := by rw [G.sc]; exact e
      cases kd with
      | «local» =>
        dsimp only
        cases e2 : ixOf x c.N with
        | none => exact je_bad
        | some i => exact je_var i (by rw [G.N]; exact ixOf_get e2) (Or.inl el) (okN_d hx) (okN_c hx)
      | cell =>
        dsimp only
        cases e2 : ixOf x c.N with
        | none => exact je_bad
        | some i => exact je_var i (by rw [G.N]; exact ixOf_get e2) (Or.inr (Or.inl el)) (okN_d hx) (okN_c hx)
      | free =>
        dsimp only
        cases e2 : ixOf x c.N with
        | none => exact je_bad
        | some i => exact je_var i (by rw [G.N]; exact ixOf_get e2) (Or.inr (Or.inr el)) (okN_d hx) (okN_c hx)
      | globalImplicit =>
        dsimp only
        have hg : Gl X x := el
        cases e2 : c.consts.lookup x with
        | some w =>
          have q := G.cst x w e2
          cases w with
          | int i => obtain ⟨t, q⟩ := q; exact je_globI hg q (okN_d hx)
          | str y => obtain ⟨⟨t, q⟩, z⟩ := q; exact je_globS hg q z (okN_d hx)
          | tup ws =>
            obtain ⟨a, vs, o, its, n, q1, q2, q3, q4, q5, q6, q7⟩ := q
            exact JE.of (pe_glob (v := .ref a) hg q1 rfl (okN_d hx)) fun ρ st σ H m Q S R p => p (.ref a) m H Ext.refl S (by unfold RelW; exact ⟨a, vs, rfl, .inr ⟨o, its, n, q2, q3, q4, q5, q6⟩, q7.rel⟩)
          | _ => exact False.elim q
        | none =>
          dsimp only
          by_cases e5 : c.clss.contains x = true
          · rw [if_pos e5]
            obtain ⟨C, q1, q2⟩ := G.cls x e5
            exact JE.of (pe_glob (v := .ref C) hg q1 rfl (okN_d hx)) fun ρ st σ H m Q S R p => p (.ref C) m H Ext.refl S (by unfold RelW; exact ⟨C, rfl, q2.cls⟩)
          rw [if_neg e5]
          by_cases e3 : c.bl.contains x = true
          · rw [if_pos e3]
            cases e4 : tyOf x with
            | none => exact je_bad
            | some T => exact je_ty hg (G.bl x e3) (tyOf_ok e4) (okN_n hx) (okN_d hx)
          · rw [if_neg e3]; exact je_bad
      | _ => exact je_bad
  · rw [if_neg hx]; exact je_bad
def cConst : Const → GE
  | .none => gC .non
  | .bool b => gC (.bl b)
  | .int i => gC (.int i)
  | .str x => if PyData.strOk x = true then gC (.str x) else gBad
  | _ => gBad
theorem cConst_ok (k : Const) (j : Nat) (pos : Pos) : JE X (.Constant k j pos) (cConst k) := by
  cases k with
  | none => exact je_non
  | bool b => exact je_bl
  | int i => exact je_int
  | str x =>
    show JE X _ (if PyData.strOk x = true then gC (.str x) else gBad)
    by_cases h : PyData.strOk x = true
    · rw [if_pos h]; exact je_str h
    · rw [if_neg h]; exact je_bad
  | _ => exact je_bad

/-! ### argument lists -/
def plain : Expr → Bool
  | .Starred .. => false
  | _ => true
theorem star_plain {e : Expr} {es : List Expr} {env : Env} (h : plain e = true) : starEach (e :: es) env = (false, eval e env) :: starEach es env := by
  cases e <;> first | rfl | cases h
theorem any_plain {pos : Pos} {env : Env} : ∀ {es : List Expr}, es.all plain = true → (backTo pos (starEach es env)).any (·.1) = false
  | [], _ => rfl
  | e :: es, h => by
    rw [List.all_cons, Bool.and_eq_true] at h
    rw [star_plain h.1]
    have q := any_plain (pos := pos) (env := env) h.2
    unfold backTo at q ⊢
    rw [List.map_cons, List.any_cons, q]
    rfl
def argsG (f : Expr → GE) : List Expr → GA
  | [] => gNil
  | e :: es => gCons (f e) (argsG f es)
theorem args_ok {f : Expr → GE} (h : ∀ e, JE X e (f e)) : ∀ es : List Expr, es.all plain = true → JA X es (argsG f es)
  | [], _ => ja_nil
  | e :: es, g => by
    rw [List.all_cons, Bool.and_eq_true] at g
    exact ja_cons (h e) (args_ok h es g.2) (star_plain g.1)

/-! ### calls -/
def blO (c : Ct) (x : Str) : Option (Value × (List Wv → Hs → Re Wv)) :=
  if x = "len" then some (.builtin "len", oLen) else if x = "abs" then some (.builtin "abs", oAbs) else if x = "isinstance" then some (.builtin "isinstance", oIsA c.tb c.tt) else if x = "str" then some (.type "str", oStr2) else if x = "int" then some (.type "int", oInt2) else if x = "divmod" then some (.builtin "divmod", oDm)
  else if x = "list" then some (.type "list", oListC) else if x = "tuple" then some (.type "tuple", oTupC) else if x = "all" ∧ c.free = true then some (.builtin "all", oAll)
  else if x = "max" ∧ c.free = true then some (.builtin "max", oMax2) else if x = "min" ∧ c.free = true then some (.builtin "min", oMin2)
  else if x = "sum" ∧ c.free = true then some (.builtin "sum", oSum) else if x = "sorted" then some (.builtin "sorted", oSrt) else none
theorem boot_dm : bootBuiltins "divmod" = some (.builtin "divmod") := by decide +kernel
theorem boot_all' : bootBuiltins "all" = some (.builtin "all") := by decide +kernel
theorem boot_max' : bootBuiltins "max" = some (.builtin "max") := by decide +kernel
theorem boot_min' : bootBuiltins "min" = some (.builtin "min") := by decide +kernel
theorem boot_sum' : bootBuiltins "sum" = some (.builtin "sum") := by decide +kernel
theorem boot_srt' : bootBuiltins "sorted" = some (.builtin "sorted") := by decide +kernel
theorem blO_ok {c : Ct} {x : Str} {v : Value} {op : List Wv → Hs → Re Wv} (O : TabOk X.K c.tb c.tt) (hc : c.free = true → X.calm = true) (h : blO c x = some (v, op)) : bootBuiltins x = some v ∧ CallW X v op ∧ ((∃ id, v = .builtin id) ∨ ∃ T, v = .type T) := by
  unfold blO at h
  by_cases e : x = "len"
  · rw [if_pos e] at h; cases h; subst e; exact ⟨boot_lenJ, cw_len, .inl ⟨_, rfl⟩⟩
  rw [if_neg e] at h
  by_cases e : x = "abs"
  · rw [if_pos e] at h; cases h; subst e; exact ⟨boot_absJ, cw_abs, .inl ⟨_, rfl⟩⟩
  rw [if_neg e] at h
  by_cases e : x = "isinstance"
  · rw [if_pos e] at h; cases h; subst e; exact ⟨boot_isI, cw_isA O, .inl ⟨_, rfl⟩⟩
  rw [if_neg e] at h
  by_cases e : x = "str"
  · rw [if_pos e] at h; cases h; subst e; exact ⟨boot_tyS, cw_str2, .inr ⟨_, rfl⟩⟩
  rw [if_neg e] at h
  by_cases e : x = "int"
  · rw [if_pos e] at h; cases h; subst e; exact ⟨boot_tyI, cw_int2, .inr ⟨_, rfl⟩⟩
  rw [if_neg e] at h
  by_cases e : x = "divmod"
  · rw [if_pos e] at h; cases h; subst e; exact ⟨boot_dm, cw_dm, .inl ⟨_, rfl⟩⟩
  rw [if_neg e] at h
  by_cases e : x = "list"
  · rw [if_pos e] at h; cases h; subst e; exact ⟨boot_tyL, cw_list, .inr ⟨_, rfl⟩⟩
  rw [if_neg e] at h
  by_cases e : x = "tuple"
  · rw [if_pos e] at h; cases h; subst e; exact ⟨boot_tyT, cw_tup, .inr ⟨_, rfl⟩⟩
  rw [if_neg e] at h
  by_cases e : x = "all" ∧ c.free = true
  · rw [if_pos e] at h; cases h; obtain ⟨rfl, e2⟩ := e; exact ⟨boot_all', cw_all (hc e2), .inl ⟨_, rfl⟩⟩
  rw [if_neg e] at h
  by_cases e : x = "max" ∧ c.free = true
  · rw [if_pos e] at h; cases h; obtain ⟨rfl, e2⟩ := e; exact ⟨boot_max', cw_max2 (hc e2), .inl ⟨_, rfl⟩⟩
  rw [if_neg e] at h
  by_cases e : x = "min" ∧ c.free = true
  · rw [if_pos e] at h; cases h; obtain ⟨rfl, e2⟩ := e; exact ⟨boot_min', cw_min2 (hc e2), .inl ⟨_, rfl⟩⟩
  rw [if_neg e] at h
  by_cases e : x = "sum" ∧ c.free = true
  · rw [if_pos e] at h; cases h; obtain ⟨rfl, e2⟩ := e; exact ⟨boot_sum', cw_sum (hc e2), .inl ⟨_, rfl⟩⟩
  rw [if_neg e] at h
  by_cases e : x = "sorted"
  · rw [if_pos e] at h; cases h; subst e; exact ⟨boot_srt', cw_srt, .inl ⟨_, rfl⟩⟩
  rw [if_neg e] at h
  cases h
def cCallN (c : Ct) (fE : Expr → GE) (x : Str) (es : List Expr) : GE := if okN x = true ∧ es.all plain = true ∧ c.names.lookup x = some .globalImplicit then
      (match c.fns.lookup x with
      | some (n, F) => if c.free = true then gCall n F (argsG fE es) else gBad
      | none => if c.bl.contains x = true then (match blO c x with | some (_, op) => gCallB op (argsG fE es) | none => gBad) else gBad)
    else gBad
def cMeth (fE : Expr → GE) (o : Expr) (name : Str) (e : Expr) (apos cpos : Pos) : GE := if plain e = true ∧ (apos.endLine == cpos.line) = true then
      (if name = "append" then gMeth mApp (fE o) (fE e) else if name = "extend" then gMeth mExt (fE o) (fE e) else gBad)
    else gBad
def cMethL (fE : Expr → GE) (o : Expr) (name : Str) (e : Expr) (apos cpos : Pos) : GE := if plain e = true ∧ (apos.endLine == cpos.line) = true then
      (if name = "count" then gMeth mLCount (fE o) (fE e) else if name = "index" then gMeth mLIndex (fE o) (fE e) else gBad)
    else gBad
theorem cMethL_ok {fE : Expr → GE} (h : ∀ e, JE X e (fE e)) (x name : Str) (e : Expr) (p apos cpos : Pos) : JE X (.Call (.Attribute (.Name x p) name apos) [e] [] cpos) (cMethL fE (.Name x p) name e apos cpos) := by
  unfold cMethL
  by_cases g : plain e = true ∧ (apos.endLine == cpos.line) = true
  · rw [if_pos g]
    by_cases n1 : name = "count"
    · rw [if_pos n1]
      subst n1
      exact je_meth mw_lcount PySem.F.slot_list_count PySem.F.type_list_count (h _) (h e) (star_plain g.1) g.2
    rw [if_neg n1]
    by_cases n2 : name = "index"
    · rw [if_pos n2]
      subst n2
      exact je_meth mw_lindex PySem.F.slot_list_index PySem.F.type_list_index (h _) (h e) (star_plain g.1) g.2
    rw [if_neg n2]
    exact je_bad
  · rw [if_neg g]; exact je_bad
def isBase : Expr → Bool
  | .Name .. => true
  | .Constant (.str _) _ _ => true
  | .Subscript .. => true
  | _ => false
def cMethS (fE : Expr → GE) (o : Expr) (name : Str) (es : List Expr) (apos cpos : Pos) : GE := if isBase o = true ∧ es.all plain = true ∧ es.length < 20 ∧ (apos.endLine == cpos.line) = true then
      (if name = "join" then gMethS mJoin (fE o) (argsG fE es) else if name = "find" then gMethS mFind (fE o) (argsG fE es) else if name = "count" then gMethS mCount (fE o) (argsG fE es)
      else if name = "startswith" then gMethS mStarts (fE o) (argsG fE es) else if name = "index" then gMethS mIndex (fE o) (argsG fE es) else if name = "split" then gMethS mSplit (fE o) (argsG fE es) else gBad)
    else gBad
theorem base_ok {o : Expr} {name : Str} {env : Env} (h : isBase o = true) : attributeBase o name env (eval o env) = eval o env := by
  cases o with
  | Constant k j p => cases k <;> first | rfl | cases h
  | _ => first | rfl | cases h
theorem all_plain {pos : Pos} {env : Env} : ∀ {es : List Expr}, es.all plain = true → (backTo pos (starEach es env)).all (fun x => !x.1) = true
  | [], _ => rfl
  | e :: es, h => by
    rw [List.all_cons, Bool.and_eq_true] at h
    rw [star_plain h.1]
    have q := all_plain (pos := pos) (env := env) h.2
    unfold backTo at q ⊢
    rw [List.map_cons, List.all_cons, q]
    rfl
theorem cMethS_ok {fE : Expr → GE} (h : ∀ e, JE X e (fE e)) (o : Expr) (name : Str) (e : Expr) (es : List Expr) (apos cpos : Pos) : JE X (.Call (.Attribute o name apos) (e :: es) [] cpos) (cMethS fE o name (e :: es) apos cpos) := by
  unfold cMethS
  by_cases g : isBase o = true ∧ (e :: es).all plain = true ∧ (e :: es).length < 20 ∧ (apos.endLine == cpos.line) = true
  · rw [if_pos g]
    obtain ⟨g1, g2, g3, g4⟩ := g
    have gp : plain e = true ∧ es.all plain = true := by rw [List.all_cons, Bool.and_eq_true] at g2; exact g2
    have hfew : ((backTo cpos (starEach (e :: es) X.env)).all (fun x => !x.1) && (backToKw cpos (keywordEach [] X.env)).all (fun x => x.1.isSome) && decide ((e :: es).length + ([] : List Keyword).length + (if ([] : List Keyword).isEmpty then 0 else 1) < 30)) = true := by
      rw [all_plain g2]
      have g5 : (e :: es).length + ([] : List Keyword).length + (if ([] : List Keyword).isEmpty then 0 else 1) < 30 := by
        show (e :: es).length + 0 + 0 < 30
        omega
      rw [decide_eq_true g5]
      rfl
    by_cases n1 : name = "join"
    · rw [if_pos n1]
      subst n1
      exact je_methS ms_join PySem.F.slot_str_join PySem.F.type_str_join (h o) (args_ok h (e :: es) g2) (base_ok g1) hfew g4 (star_plain gp.1) (any_plain gp.2)
    rw [if_neg n1]
    by_cases n1 : name = "find"
    · rw [if_pos n1]
      subst n1
      exact je_methS ms_find PySem.F.slot_str_find PySem.F.type_str_find (h o) (args_ok h (e :: es) g2) (base_ok g1) hfew g4 (star_plain gp.1) (any_plain gp.2)
    rw [if_neg n1]
    by_cases n1 : name = "count"
    · rw [if_pos n1]
      subst n1
      exact je_methS ms_count PySem.F.slot_str_count PySem.F.type_str_count (h o) (args_ok h (e :: es) g2) (base_ok g1) hfew g4 (star_plain gp.1) (any_plain gp.2)
    rw [if_neg n1]
    by_cases n1 : name = "startswith"
    · rw [if_pos n1]
      subst n1
      exact je_methS ms_starts PySem.F.slot_str_startswith PySem.F.type_str_startswith (h o) (args_ok h (e :: es) g2) (base_ok g1) hfew g4 (star_plain gp.1) (any_plain gp.2)
    rw [if_neg n1]
    by_cases n1 : name = "index"
    · rw [if_pos n1]
      subst n1
      exact je_methS ms_index PySem.F.slot_str_index PySem.F.type_str_index (h o) (args_ok h (e :: es) g2) (base_ok g1) hfew g4 (star_plain gp.1) (any_plain gp.2)
    rw [if_neg n1]
    by_cases n1 : name = "split"
    · rw [if_pos n1]
      subst n1
      exact je_methS ms_split PySem.F.slot_str_split PySem.F.type_str_split (h o) (args_ok h (e :: es) g2) (base_ok g1) hfew g4 (star_plain gp.1) (any_plain gp.2)
    rw [if_neg n1]
    exact je_bad
  · rw [if_neg g]; exact je_bad
def cCall0 (c : Ct) (x : Str) : GE := if okN x = true ∧ c.names.lookup x = some .globalImplicit then
      (match c.fns.lookup x with
      | some (0, F) => if c.free = true then gCall 0 F gNil else gBad
      | _ => gBad)
    else gBad
theorem cCall0_ok {c : Ct} {k : Nat} (G : Good c k X) (x : Str) (p pos : Pos) : JE X (.Call (.Name x p) [] [] pos) (cCall0 c x) := by
  unfold cCall0
  by_cases g : okN x = true ∧ c.names.lookup x = some .globalImplicit
  · rw [if_pos g]
    obtain ⟨g1, g3⟩ := g
    have hg : Gl X x := by
      show X.env.scope.names.lookup x = _
      rw [G.sc]; exact g3
    cases e1 : c.fns.lookup x with
    | none => exact je_bad
    | some nF =>
      obtain ⟨n, F⟩ := nF
      cases n with
      | succ n => exact je_bad
      | zero =>
        show JE X _ (if c.free = true then gCall 0 F gNil else gBad)
        by_cases cf : c.free = true
        · rw [if_pos cf]
          obtain ⟨a, fd, ps, G1, G2, G3, G4⟩ := G.fns x 0 F e1
          exact je_call0 G1 (G.free cf).1 G2 G3 G4 hg (okN_d g1)
        · rw [if_neg cf]; exact je_bad
  · rw [if_neg g]; exact je_bad
def cCallD (c : Ct) (fE : Expr → GE) (x : Str) (e : Expr) (k : Str) : GE := if okN x = true ∧ plain e = true ∧ c.names.lookup x = some .globalImplicit ∧ c.fns.lookup x = none ∧ c.bl.contains x = true ∧ c.free = true ∧ k = Str.ofString "default" then
      (if x = "max" then gCallB oMaxD (argsG fE [e]) else if x = "min" then gCallB oMinD (argsG fE [e]) else gBad)
    else gBad
theorem cCallD_ok {c : Ct} {k : Nat} (G : Good c k X) {fE : Expr → GE} (h : ∀ e, JE X e (fE e)) (x : Str) (e : Expr) (nm : Str) (kk : Nat) (p pos kp cp : Pos) : JE X (.Call (.Name x p) [e] [⟨some nm, .Constant .none kk cp, kp⟩] pos) (cCallD c fE x e nm) := by
  unfold cCallD
  by_cases g : okN x = true ∧ plain e = true ∧ c.names.lookup x = some .globalImplicit ∧ c.fns.lookup x = none ∧ c.bl.contains x = true ∧ c.free = true ∧ nm = Str.ofString "default"
  · rw [if_pos g]
    obtain ⟨g1, g2, g3, g4, g5, g6, rfl⟩ := g
    have hg : Gl X x := by
      show X.env.scope.names.lookup x = _
      rw [G.sc]; exact g3
    by_cases n1 : x = "max"
    · rw [if_pos n1]; subst n1
      exact je_callD (dw_max (G.free g6).2) hg (G.bl _ g5) boot_max' (args_ok h [e] (by simp [g2])) (okN_n g1) (okN_d g1) (star_plain g2)
    rw [if_neg n1]
    by_cases n1 : x = "min"
    · rw [if_pos n1]; subst n1
      exact je_callD (dw_min (G.free g6).2) hg (G.bl _ g5) boot_min' (args_ok h [e] (by simp [g2])) (okN_n g1) (okN_d g1) (star_plain g2)
    rw [if_neg n1]; exact je_bad
  · rw [if_neg g]; exact je_bad
def cCall (c : Ct) (fE : Expr → GE) (cpos : Pos) : Expr → List Expr → List Keyword → GE
  | .Name x _, e :: es, [] => cCallN c fE x (e :: es)
  | .Name x _, [], [] => cCall0 c x
  | .Name x _, [e], [⟨some nm, .Constant .none _ _, _⟩] => cCallD c fE x e nm
  | .Attribute (.Name x p) name apos, [e], [] => if name = "append" ∨ name = "extend" then cMeth fE (.Name x p) name e apos cpos else if name = "count" ∨ name = "index" then gAlt (cMethS fE (.Name x p) name [e] apos cpos) (cMethL fE (.Name x p) name e apos cpos) else cMethS fE (.Name x p) name [e] apos cpos
  | .Attribute o name apos, e :: es, [] => cMethS fE o name (e :: es) apos cpos
  | _, _, _ => gBad
theorem cCallN_ok {c : Ct} {k : Nat} (G : Good c k X) {fE : Expr → GE} (h : ∀ e, JE X e (fE e)) (x : Str) (e : Expr) (es : List Expr) (p pos : Pos) : JE X (.Call (.Name x p) (e :: es) [] pos) (cCallN c fE x (e :: es)) := by
  unfold cCallN
  by_cases g : okN x = true ∧ (e :: es).all plain = true ∧ c.names.lookup x = some .globalImplicit
  · rw [if_pos g]
    obtain ⟨g1, g2, g3⟩ := g
    have hg : Gl X x := by
      show X.env.scope.names.lookup x = _
      rw [G.sc]; exact g3
    have gp : plain e = true ∧ es.all plain = true := by rw [List.all_cons, Bool.and_eq_true] at g2; exact g2
    have ha := args_ok h (e :: es) g2
    cases e1 : c.fns.lookup x with
    | some nF =>
      obtain ⟨n, F⟩ := nF
      dsimp only
      by_cases cf : c.free = true
      · rw [if_pos cf]
        obtain ⟨a, fd, ps, G1, G2, G3, G4⟩ := G.fns x n F e1
        exact je_call G1 (G.free cf).1 G2 G3 G4 ha hg (okN_d g1) (star_plain gp.1) (any_plain gp.2)
      · rw [if_neg cf]; exact je_bad
    | none =>
      dsimp only
      by_cases e3 : c.bl.contains x = true
      · rw [if_pos e3]
        cases e4 : blO c x with
        | none => exact je_bad
        | some io =>
          obtain ⟨v, op⟩ := io
          obtain ⟨b1, b2, b3⟩ := blO_ok (X := X) G.tab (fun z => (G.free z).2) e4
          rcases b3 with ⟨id, rfl⟩ | ⟨T, rfl⟩
          · exact je_callB b2 hg (G.bl x e3) b1 ha (okN_n g1) (okN_d g1) (star_plain gp.1) (any_plain gp.2)
          · exact je_callTy b2 hg (G.bl x e3) b1 ha (okN_n g1) (okN_d g1) (star_plain gp.1) (any_plain gp.2)
      · rw [if_neg e3]; exact je_bad
  · rw [if_neg g]; exact je_bad
theorem cMeth_ok {fE : Expr → GE} (h : ∀ e, JE X e (fE e)) (x name : Str) (e : Expr) (p apos cpos : Pos) : JE X (.Call (.Attribute (.Name x p) name apos) [e] [] cpos) (cMeth fE (.Name x p) name e apos cpos) := by
  unfold cMeth
  by_cases g : plain e = true ∧ (apos.endLine == cpos.line) = true
  · rw [if_pos g]
    by_cases n1 : name = "append"
    · rw [if_pos n1]
      subst n1
      exact je_meth mw_app PySem.F.slot_list_append PySem.F.type_list_append (h _) (h e) (star_plain g.1) g.2
    rw [if_neg n1]
    by_cases n2 : name = "extend"
    · rw [if_pos n2]
      subst n2
      exact je_meth mw_ext PySem.F.slot_list_extend PySem.F.type_list_extend (h _) (h e) (star_plain g.1) g.2
    rw [if_neg n2]
    exact je_bad
  · rw [if_neg g]; exact je_bad
theorem cCall_ok {c : Ct} {k : Nat} (G : Good c k X) {fE : Expr → GE} (h : ∀ e, JE X e (fE e)) (f : Expr) (as : List Expr) (ks : List Keyword) (pos : Pos) : JE X (.Call f as ks pos) (cCall c fE pos f as ks) := by
  unfold cCall
  split
  · exact cCallN_ok G h _ _ _ _ _
  · exact cCall0_ok G _ _ _
  · exact cCallD_ok G h _ _ _ _ _ _ _ _
  · rename_i x p name apos e
    by_cases g : name = "append" ∨ name = "extend"
    · rw [if_pos g]; exact cMeth_ok h _ _ _ _ _ _
    · rw [if_neg g]
      by_cases g2 : name = "count" ∨ name = "index"
      · rw [if_pos g2]; exact je_alt (cMethS_ok h _ _ _ _ _ _) (cMethL_ok h _ _ _ _ _ _)
      · rw [if_neg g2]; exact cMethS_ok h _ _ _ _ _ _
  · exact cMethS_ok h _ _ _ _ _ _
  · exact je_bad

/-! ### expressions -/
def isSl : Expr → Bool
  | .Slice .. => true
  | _ => false
def partG (f : Expr → GE) : Option Expr → GO
  | none => gNoPart
  | some e => gPart (f e)
theorem part_ok {f : Expr → GE} (h : ∀ e, JE X e (f e)) (o : Option Expr) : JO X o (partG f o) := by
  cases o with
  | none => exact jo_none
  | some e => exact jo_some (h e)
def subG (f : Expr → GE) (a : Expr) : Expr → GE
  | .Slice lo hi none _ => gSlice2 (f a) (partG f lo) (partG f hi)
  | .Slice .. => gBad
  | b => gBin oIx (f a) (f b)
theorem sub_ok {f : Expr → GE} (h : ∀ e, JE X e (f e)) (a b : Expr) (pos : Pos) : JE X (.Subscript a b pos) (subG f a b) := by
  unfold subG
  split
  · exact je_slice2 (h a) (part_ok h _) (part_ok h _)
  · exact je_bad
  · rename_i n1 n2
    refine je_ix (h a) (h b) ?_
    intro o i
    cases b <;> first | rfl | (rename_i lo hi st p; exact (n2 _ _ _ _ rfl).elim)
def cmpG (f : Expr → GE) (a : Expr) : List CmpOp → List Expr → GE
  | [o], [b] => if behindInMarks o b = false then gBin (cmpO o) (f a) (f b) else gBad
  | [o, o'], [b, b'] => if lastMarks [o, o'] [b, b'] = false then gChain (cmpO o) (cmpO o') (f a) (f b) (f b') else gBad
  | _, _ => gBad
theorem cmp_ok (hu : X.A.units + 64 < cLine) {f : Expr → GE} (h : ∀ e, JE X e (f e)) (a : Expr) (os : List CmpOp) (bs : List Expr) (pos : Pos) : JE X (.Compare a os bs pos) (cmpG f a os bs) := by
  unfold cmpG
  split
  · rename_i o b
    by_cases g : behindInMarks o b = false
    · rw [if_pos g]; exact je_cmp (cmpO_ok hu o) (h a) (h b) g
    · rw [if_neg g]; exact je_bad
  · rename_i o o' b b'
    by_cases g : lastMarks [o, o'] [b, b'] = false
    · rw [if_pos g]; exact je_chain (cmpO_ok hu o) (cmpO_ok hu o') (h a) (h b) (h b') g
    · rw [if_neg g]; exact je_bad
  · exact je_bad
def cmpT (f : Expr → GE) (a : Expr) : List CmpOp → List Expr → GT
  | [o], [b] => if behindInMarks o b = false then gTst (gBin (cmpO o) (f a) (f b)) else gBadT
  | [o, o'], [b, b'] => if lastMarks [o, o'] [b, b'] = false then gTst (gChain (cmpO o) (cmpO o') (f a) (f b) (f b')) else gBadT
  | _, _ => gBadT
theorem cmpT_ok (hu : X.A.units + 64 < cLine) {f : Expr → GE} (h : ∀ e, JE X e (f e)) (a : Expr) (os : List CmpOp) (bs : List Expr) (pos : Pos) : JT X (.Compare a os bs pos) (cmpT f a os bs) := by
  unfold cmpT
  split
  · rename_i o b
    by_cases g : behindInMarks o b = false
    · rw [if_pos g]; exact jt_cmp (cmpO_ok hu o) (h a) (h b) g
    · rw [if_neg g]; exact jt_bad
  · rename_i o o' b b'
    by_cases g : lastMarks [o, o'] [b, b'] = false
    · rw [if_pos g]; exact jt_chain (cmpO_ok hu o) (cmpO_ok hu o') (h a) (h b) (h b') g
    · rw [if_neg g]; exact jt_bad
  · exact jt_bad
def andV (f : Expr → GE) : List Expr → GE
  | [] => gBad
  | [a] => f a
  | a :: b :: r => gAndV (f a) (andV f (b :: r))
def orV (f : Expr → GE) : List Expr → GE
  | [] => gBad
  | [a] => f a
  | a :: b :: r => gOrV (f a) (orV f (b :: r))
theorem andV_ok {f : Expr → GE} (h : ∀ e, JE X e (f e)) (pos : Pos) : ∀ es, JE X (.BoolOp .And es pos) (andV f es)
  | [] => je_bad
  | [a] => je_one (h a)
  | a :: b :: r => je_and (h a) (andV_ok h pos (b :: r))
theorem orV_ok {f : Expr → GE} (h : ∀ e, JE X e (f e)) (pos : Pos) : ∀ es, JE X (.BoolOp .Or es pos) (orV f es)
  | [] => je_bad
  | [a] => je_one (h a)
  | a :: b :: r => je_or (h a) (orV_ok h pos (b :: r))
def andT (f : Expr → GT) : List Expr → GT
  | [] => gBadT
  | [a] => f a
  | a :: b :: r => gAnd (f a) (andT f (b :: r))
def orT (f : Expr → GT) : List Expr → GT
  | [] => gBadT
  | [a] => f a
  | a :: b :: r => gOr (f a) (orT f (b :: r))
theorem jw_bad {e : Expr} : JW X e gBadT := fun ρ st σ H m Q S R p => False.elim p
theorem andT_ok {f : Expr → GT} (h : ∀ e, JT X e (f e)) (pos : Pos) : ∀ es, JW X (.BoolOp .And es pos) (andT f es)
  | [] => jw_bad
  | [a] => jw_and1 (h a)
  | a :: b :: r => jw_and (h a) (andT_ok h pos (b :: r))
theorem orT_ok {f : Expr → GT} (h : ∀ e, JT X e (f e)) (pos : Pos) : ∀ es, JW X (.BoolOp .Or es pos) (orT f es)
  | [] => jw_bad
  | [a] => jw_or1 (h a)
  | a :: b :: r => jw_or (h a) (orT_ok h pos (b :: r))
def unG (f : Expr → GE) : UnaryOp → Expr → GE
  | .USub, a => gUn opNeg (f a)
  | .Not, a => gNotV (f a)
  | _, _ => gBad
def seqG (f : Expr → GE) (g : GA → GE) (es : List Expr) : GE := if es.all plain = true then g (argsG f es) else gBad
/-! ### comprehensions -/
def isSet : Expr → Bool
  | .Set .. => true
  | _ => false
theorem fold_no {e : Expr} {env : Env} (h : isSet e = false) (x : Value) : foldedSetIterable e env x = pure x := by
  cases e <;> first | rfl | cases h
def isRange (c : Ct) (x : Str) : Bool := decide (x = "range") && decide (c.names.lookup x = some .globalImplicit) && c.bl.contains x && (match c.fns.lookup x with | some _ => false | none => true)
theorem range_ok {c : Ct} {k : Nat} (G : Good c k X) (y : Str) (hy : isRange c y = true) : y = "range" ∧ Gl X y ∧ X.mg y = none := by
  unfold isRange at hy
  simp only [Bool.and_eq_true, decide_eq_true_eq] at hy
  refine ⟨hy.1.1.1, ?_, G.bl y hy.1.2⟩
  show X.env.scope.names.lookup y = _
  rw [G.sc]; exact hy.1.1.2
noncomputable def iterG (c : Ct) (f : Expr → GE) : Expr → GI
  | .Call (.Name x p) [a] [] q => if isRange c x = true then (if plain a = true then giR1 (argsG f [a]) else gBadI) else giSeq2 (f (.Call (.Name x p) [a] [] q))
  | .Call (.Name x p) [a, b] [] q => if isRange c x = true then (if plain a = true ∧ plain b = true then giR2 (argsG f [a, b]) else gBadI) else giSeq2 (f (.Call (.Name x p) [a, b] [] q))
  | e => if isSet e = false then giSeq2 (f e) else gBadI
theorem iter_ok {c : Ct} {k : Nat} (G : Good c k X) {f : Expr → GE} (h : ∀ e, JE X e (f e)) (tg e : Expr) : JI X tg e (iterG c f e) := by
  unfold iterG
  split
  · rename_i y p a q
    by_cases g : isRange c y = true
    · rw [if_pos g]
      obtain ⟨rfl, g2, g3⟩ := range_ok G y g
      by_cases ga : plain a = true
      · rw [if_pos ga]
        exact ji_r1 g2 g3 (args_ok h [a] (by simp [ga])) (star_plain ga)
      · rw [if_neg ga]; exact ji_bad
    · rw [if_neg g]; exact ji_seq2 (h _)
  · rename_i y p a b q
    by_cases g : isRange c y = true
    · rw [if_pos g]
      obtain ⟨rfl, g2, g3⟩ := range_ok G y g
      by_cases ga : plain a = true ∧ plain b = true
      · rw [if_pos ga]
        exact ji_r2 g2 g3 (args_ok h [a, b] (by simp [ga])) (by rw [star_plain ga.1, star_plain ga.2]; rfl) (by rw [star_plain ga.2]; rfl)
      · rw [if_neg ga]; exact ji_bad
    · rw [if_neg g]; exact ji_seq2 (h _)
  · by_cases g : isSet e = false
    · rw [if_pos g]; exact ji_seq2 (h _)
    · rw [if_neg g]; exact ji_bad
/-- the captured names with their slots -/
def capsL (c : Ct) : List (Str × NameKind) → Option Caps
  | [] => some []
  | (n, .free) :: r => if c.names.lookup n = some .cell ∨ c.names.lookup n = some .free then (match ixOf n c.N, capsL c r with | some i, some l => some ((n, i) :: l) | _, _ => none) else none
  | _ :: r => capsL c r
theorem capsL_ok {c : Ct} : ∀ {ns : List (Str × NameKind)} {cs : Caps}, capsL c ns = some cs → (∀ y ∈ ns, y.2 = .free → c.names.lookup y.1 = some .cell ∨ c.names.lookup y.1 = some .free) ∧ ∀ p ∈ cs, (p.1, NameKind.free) ∈ ns ∧ c.N[p.2]? = some p.1
  | [], cs, h => by cases h; exact ⟨(fun _ z => by cases z), (fun _ z => by cases z)⟩
  | (n, k) :: r, cs, h => by
    unfold capsL at h
    split at h
    · cases ‹_ :: _ = []›
    · rename_i n' r' he
      cases he
      by_cases g : c.names.lookup n = some .cell ∨ c.names.lookup n = some .free
      · rw [if_pos g] at h
        cases e1 : ixOf n c.N with
        | none => rw [e1] at h; cases h
        | some i =>
          cases e2 : capsL c r with
          | none => rw [e1, e2] at h; cases h
          | some l =>
            rw [e1, e2] at h
            cases h
            obtain ⟨q1, q2⟩ := capsL_ok e2
            refine ⟨fun y hy e => ?_, fun p hp => ?_⟩
            · rcases List.mem_cons.mp hy with z | z
              · subst z; exact g
              · exact q1 y z e
            · rcases List.mem_cons.mp hp with z | z
              · subst z; exact ⟨List.mem_cons_self, ixOf_get e1⟩
              · exact ⟨List.mem_cons_of_mem _ (q2 p z).1, (q2 p z).2⟩
      · rw [if_neg g] at h; cases h
    · rename_i kk r' hk he
      cases he
      obtain ⟨q1, q2⟩ := capsL_ok h
      refine ⟨fun y hy e => ?_, fun p hp => ⟨List.mem_cons_of_mem _ (q2 p hp).1, (q2 p hp).2⟩⟩
      rcases List.mem_cons.mp hy with z | z
      · subst z
        have e' : k = .free := e
        subst e'
        exact (hk n rfl).elim
      · exact q1 y z e
def relabN (c : Ct) (ns : List (Str × NameKind)) : List (Str × NameKind) := ns.map fun (n, k) => if (k == .free && c.names.lookup n == some .cell) then (n, .cell) else (n, k)
def isFnK : ScopeKind → Bool
  | .function => true
  | _ => false
def scopeOk (scope : Scope) (x : Str) : Bool := isFnK scope.kind && scope.names.all (fun y => decide (scope.names.lookup y.1 = some y.2)) && scope.names.all (fun y => decide (y.2 ≠ .cell)) && decide (scope.names.lookup x = some .local)
/-- the block's context -/
def Ct.block (c : Ct) (scope : Scope) (x : Str) (cs : Caps) : Ct := { c with N := x :: cs.map (·.1), names := relabN c scope.names, loop := false, top := false }
noncomputable def compC (c : Ct) (sub : Ct → (Expr → GE) × (Expr → GT)) (f : Expr → GE) (elt : Expr) (x : Str) (iter : Expr) (gts : Ct → GT) (scope : Scope) : GE :=
  if scopeOk scope x = true ∧ c.free = true ∧ isSet iter = false then (match capsL c scope.names with
    | some cs => if (x :: cs.map (·.1)).Nodup then gComp cs (iterG c f iter) (gts (c.block scope x cs)) ((sub (c.block scope x cs)).1 elt) else gBad
    | none => gBad) else gBad
noncomputable def coG (c : Ct) (sub : Ct → (Expr → GE) × (Expr → GT)) (f : Expr → GE) (elt : Expr) (scope : Scope) : List Comprehension → GE
  | [⟨.Name x _, iter, [], 0⟩] => compC c sub f elt x iter (fun _ => fun _ st => .ok true st) scope
  | [⟨.Name x _, iter, [q], 0⟩] => compC c sub f elt x iter (fun c' => (sub c').2 q) scope
  | _ => gBad
theorem block_good {c : Ct} {k : Nat} (G : Good c k X) {scope : Scope} {x : Str} {cs : Caps} (hs : scopeOk scope x = true) (hf : c.free = true) (nd : (x :: cs.map (·.1)).Nodup) (C : Addr) (s0 : Shared) (H0 : Hp) (fp : List Addr) (pn : List (Addr × Obj)) :
    Good (c.block scope x cs) k (compX X scope x cs C s0 H0 fp pn) := by
  unfold scopeOk at hs
  simp only [Bool.and_eq_true, decide_eq_true_eq] at hs
  have hk : scope.kind = .function := by
    have := hs.1.1.1
    revert this
    cases scope.kind <;> intro z <;> first | rfl | cases z
  refine ⟨rfl, ?_, nd, G.un, fun _ => ⟨(G.free hf).1, rfl⟩, (fun z => by cases z), G.cst, G.bl, G.fns, (fun z => by cases z), (fun z => by cases z), hk, G.tab, G.cls⟩
  show (relabel scope X.env).names = relabN c scope.names
  unfold relabel relabN Env.kindOf
  rw [G.kind, G.sc]
  simp
theorem scope_cs {c : Ct} {k : Nat} (G : Good c k X) {scope : Scope} {x : Str} {cs : Caps} (hs : scopeOk scope x = true) (hcs : capsL c scope.names = some cs) (nd : (x :: cs.map (·.1)).Nodup) : CScope X scope x cs := by
  unfold scopeOk at hs
  simp only [Bool.and_eq_true, decide_eq_true_eq, List.all_eq_true] at hs
  obtain ⟨⟨⟨h1, h2⟩, h3⟩, h4⟩ := hs
  have hk : scope.kind = .function := by
    revert h1
    cases scope.kind <;> intro z <;> first | rfl | cases z
  obtain ⟨q1, q2⟩ := capsL_ok hcs
  refine ⟨hk, h2, h3, h4, fun y hy e => ?_, fun p hp => ⟨by rw [G.N]; exact (q2 p hp).2, h2 _ (q2 p hp).1⟩, nd⟩
  show X.env.scope.names.lookup y.1 = _ ∨ X.env.scope.names.lookup y.1 = _
  rw [G.sc]; exact q1 y hy e
/-- what can be assigned to a name -/
def JAs (X : Cx) (e : Expr) (g : GE) : Prop := ∀ (i : Nat) (y : Str) (py spos : Pos), X.N.Nodup → X.N[i]? = some y → Loc X.env.scope y → (X.fn y = true ∨ X.env.scope.names.lookup y = some .local) → JS X (.Assign [.Name y py] e spos) (gSet i g)
theorem js_setBad {i : Nat} {s : Stmt} : JS X s (gSet i gBad) := fun ρ st σ H m D S R p => False.elim p
theorem jas_bad {e : Expr} : JAs X e gBad := fun i y py spos _ _ _ _ => js_setBad
theorem co_both {c : Ct} {k : Nat} (G : Good c k X) {sub : Ct → (Expr → GE) × (Expr → GT)} (hb : ∀ c X, Good c k X → (∀ e, JE X e ((sub c).1 e)) ∧ ∀ e, JT X e ((sub c).2 e)) {f : Expr → GE} (h : ∀ e, JE X e (f e)) (elt : Expr) (scope : Scope) (gens : List Comprehension) (pos : Pos) :
    JE X (.ListComp elt gens scope pos) (coG c sub f elt scope gens) ∧ JAs X (.ListComp elt gens scope pos) (coG c sub f elt scope gens) := by
  have core : ∀ (x : Str) (px : Pos) (iter : Expr) (ifs : List Expr) (gts : Ct → GT), (∀ c X, Good c k X → JTs X ifs (gts c)) →
      JE X (.ListComp elt [⟨.Name x px, iter, ifs, 0⟩] scope pos) (compC c sub f elt x iter gts scope) ∧ JAs X (.ListComp elt [⟨.Name x px, iter, ifs, 0⟩] scope pos) (compC c sub f elt x iter gts scope) := by
    intro x px iter ifs gts hg
    unfold compC
    by_cases g : scopeOk scope x = true ∧ c.free = true ∧ isSet iter = false
    · rw [if_pos g]
      obtain ⟨g1, g2, g3⟩ := g
      cases ec : capsL c scope.names with
      | none => exact ⟨je_bad, jas_bad⟩
      | some cs =>
        dsimp only
        by_cases nd : (x :: cs.map (·.1)).Nodup
        · rw [if_pos nd]
          have CS := scope_cs G g1 ec nd
          have hE : ∀ C s0 H0 fp pn, JE (compX X scope x cs C s0 H0 fp pn) elt ((sub (c.block scope x cs)).1 elt) := fun C s0 H0 fp pn => (hb _ _ (block_good G g1 g2 nd C s0 H0 fp pn)).1 elt
          have hT : ∀ C s0 H0 fp pn, JTs (compX X scope x cs C s0 H0 fp pn) ifs (gts (c.block scope x cs)) := fun C s0 H0 fp pn => hg _ _ (block_good G g1 g2 nd C s0 H0 fp pn)
          exact ⟨je_comp CS (G.free g2).2 (iter_ok G h _ iter) hE hT (fold_no g3), fun i y py spos hN hi hl hf => js_setC i hN CS (G.free g2).2 (iter_ok G h _ iter) hE hT (fold_no g3) hi hl hf⟩
        · rw [if_neg nd]; exact ⟨je_bad, jas_bad⟩
    · rw [if_neg g]; exact ⟨je_bad, jas_bad⟩
  unfold coG
  split
  · exact core _ _ _ _ _ fun _ _ _ => jts_nil
  · exact core _ _ _ _ _ fun c X G' => jts_one ((hb c X G').2 _)
  · exact ⟨je_bad, jas_bad⟩
noncomputable def stepE (c : Ct) (sub : Ct → (Expr → GE) × (Expr → GT)) (f : Expr → GE) (t : Expr → GT) : Expr → GE
  | .Name x _ => cName c x
  | .Constant k _ _ => cConst k
  | .BinOp a o b _ => gBin (binO o) (f a) (f b)
  | .UnaryOp o a _ => unG f o a
  | .BoolOp .And es _ => andV f es
  | .BoolOp .Or es _ => orV f es
  | .Compare a os bs _ => cmpG f a os bs
  | .IfExp q a b _ => gIfE (t q) (f a) (f b)
  | .Tuple es _ _ => seqG f gTup es
  | .List es _ => seqG f gLst es
  | .Subscript a b _ => subG f a b
  | .Call g as ks p => cCall c f p g as ks
  | .ListComp elt gens scope _ => coG c sub f elt scope gens
  | _ => gBad
def stepT (f : Expr → GE) (t : Expr → GT) : Expr → GT
  | .UnaryOp .Not a _ => gNot (t a)
  | .BoolOp .And es _ => andT t es
  | .BoolOp .Or es _ => orT t es
  | .Compare a os bs _ => cmpT f a os bs
  | .Name x p => gTru (f (.Name x p))
  | .Call g as ks p => gTru (f (.Call g as ks p))
  | .Subscript a b p => gTru (f (.Subscript a b p))
  | .Constant k j p => gTru (f (.Constant k j p))
  | .BinOp a o b p => gTru (f (.BinOp a o b p))
  | _ => gBadT
theorem stepE_ok {c : Ct} {k : Nat} (G : Good c k X) {sub : Ct → (Expr → GE) × (Expr → GT)} (hb : ∀ c X, Good c k X → (∀ e, JE X e ((sub c).1 e)) ∧ ∀ e, JT X e ((sub c).2 e)) {f : Expr → GE} {t : Expr → GT} (h : ∀ e, JE X e (f e)) (ht : ∀ e, JT X e (t e)) (e : Expr) : JE X e (stepE c sub f t e) := by
  have hu : X.A.units + 64 < cLine := G.un
  cases e with
  | Name x p => exact cName_ok G x p
  | Constant v j p => exact cConst_ok v j p
  | BinOp a o b p => exact je_bin (binO_ok o) (h a) (h b)
  | UnaryOp o a p =>
    cases o with
    | USub => exact je_neg (h a)
    | Not => exact je_not (h a)
    | _ => exact je_bad
  | BoolOp o es p =>
    cases o with
    | And => exact andV_ok h p es
    | Or => exact orV_ok h p es
  | Compare a os bs p => exact cmp_ok hu h a os bs p
  | IfExp q a b p => exact je_if (ht q) (h a) (h b)
  | Tuple es j p =>
    show JE X _ (seqG f gTup es)
    unfold seqG
    by_cases g : es.all plain = true
    · rw [if_pos g]; exact je_tup (args_ok h es g)
    · rw [if_neg g]; exact je_bad
  | List es p =>
    show JE X _ (seqG f gLst es)
    unfold seqG
    by_cases g : es.all plain = true
    · rw [if_pos g]; exact je_lst (args_ok h es g)
    · rw [if_neg g]; exact je_bad
  | Subscript a b p => exact sub_ok h a b p
  | Call g as ks p => exact cCall_ok G h g as ks p
  | ListComp elt gens scope p => exact (co_both G hb h elt scope gens p).1
  | _ => exact je_bad
def isCo : Expr → Bool
  | .ListComp .. => true
  | .SetComp .. => true
  | .DictComp .. => true
  | .Set .. => true
  | _ => false
theorem swap_no {e : Expr} {t : Option Expr} {n : Nat} {env : Env} (h : isCo e = false) : swapsWith e t n env = pure false := by
  cases e <;> first | rfl | cases h
theorem stepE_as {c : Ct} {k : Nat} (G : Good c k X) {sub : Ct → (Expr → GE) × (Expr → GT)} (hb : ∀ c X, Good c k X → (∀ e, JE X e ((sub c).1 e)) ∧ ∀ e, JT X e ((sub c).2 e)) {f : Expr → GE} {t : Expr → GT} (h : ∀ e, JE X e (f e)) (ht : ∀ e, JT X e (t e)) (e : Expr) : JAs X e (stepE c sub f t e) := by
  by_cases g : isCo e = false
  · exact fun i y py spos hN hi hl hf => js_set i hN (stepE_ok G hb h ht e) hi hl (swap_no g) hf
  · cases e with
    | ListComp elt gens scope p => exact (co_both G hb h elt scope gens p).2
    | SetComp => exact jas_bad
    | DictComp => exact jas_bad
    | Set => exact jas_bad
    | _ => exact absurd rfl g
theorem stepT_ok {c : Ct} {k : Nat} (G : Good c k X) {f : Expr → GE} {t : Expr → GT} (h : ∀ e, JE X e (f e)) (ht : ∀ e, JT X e (t e)) (e : Expr) : JT X e (stepT f t e) := by
  have hu : X.A.units + 64 < cLine := G.un
  cases e with
  | UnaryOp o a p =>
    cases o with
    | Not => exact jt_not (ht a)
    | _ => exact jt_bad
  | BoolOp o es p =>
    cases o with
    | And => exact (andT_ok ht p es).jt
    | Or => exact (orT_ok ht p es).jt
  | Compare a os bs p => exact cmpT_ok hu h a os bs p
  | Name x p => exact jt_tru (h _) (fun _ => rfl)
  | Call g as ks p => exact jt_tru (h _) (fun _ => rfl)
  | Subscript a b p => exact jt_tru (h _) (fun _ => rfl)
  | Constant v j p => exact jt_tru (h _) (fun _ => rfl)
  | BinOp a o b p => exact jt_tru (h _) (fun _ => rfl)
  | _ => exact jt_bad
end
noncomputable def compE : Nat → Ct → (Expr → GE) × (Expr → GT)
  | 0, _ => (fun _ => gBad, fun _ => gBadT)
  | n + 1, c => (stepE c (compE n) (compE n c).1 (compE n c).2, stepT (compE n c).1 (compE n c).2)
section
variable {X : Cx}
theorem compE_ok {k : Nat} : ∀ (n : Nat) (c : Ct) (X : Cx), Good c k X → (∀ e, JE X e ((compE n c).1 e)) ∧ ∀ e, JT X e ((compE n c).2 e)
  | 0, _, _, _ => ⟨fun _ => je_bad, fun _ => jt_bad⟩
  | n + 1, c, X, G => ⟨fun e => stepE_ok G (fun c X G => compE_ok n c X G) (compE_ok n c X G).1 (compE_ok n c X G).2 e, fun e => stepT_ok G (compE_ok n c X G).1 (compE_ok n c X G).2 e⟩
theorem compE_as {k : Nat} : ∀ (n : Nat) (c : Ct) (X : Cx), Good c k X → ∀ e, JAs X e ((compE n c).1 e)
  | 0, _, _, _, _ => jas_bad
  | n + 1, c, X, G, e => stepE_as G (fun c X G => compE_ok n c X G) (compE_ok n c X G).1 (compE_ok n c X G).2 e

/-! ### statements -/
def slot (c : Ct) (x : Str) : Option Nat := if c.names.lookup x = some .local ∨ (c.names.lookup x = some .cell ∧ c.top = true) then ixOf x c.N else none
def slotL (c : Ct) (x : Str) : Option Nat := if c.names.lookup x = some .local then ixOf x c.N else none
theorem slotL_ok {c : Ct} {k : Nat} (G : Good c k X) {x : Str} {i : Nat} (h : slotL c x = some i) : X.N[i]? = some x ∧ X.env.scope.names.lookup x = some .local := by
  unfold slotL at h
  by_cases e : c.names.lookup x = some .local
  · rw [if_pos e] at h
    exact ⟨by rw [G.N]; exact ixOf_get h, by rw [G.sc]; exact e⟩
  · rw [if_neg e] at h; cases h
theorem slot_ok {c : Ct} {k : Nat} (G : Good c k X) {x : Str} {i : Nat} (h : slot c x = some i) : X.N[i]? = some x ∧ (Loc X.env.scope x ∧ (X.fn x = true ∨ X.env.scope.names.lookup x = some .local)) := by
  unfold slot at h
  by_cases e : c.names.lookup x = some .local ∨ (c.names.lookup x = some .cell ∧ c.top = true)
  · rw [if_pos e] at h
    refine ⟨by rw [G.N]; exact ixOf_get h, ?_⟩
    rcases e with e | ⟨e, e2⟩
    · have q : X.env.scope.names.lookup x = some .local := by rw [G.sc]; exact e
      exact ⟨.inl q, .inr q⟩
    · have q : X.env.scope.names.lookup x = some .cell := by rw [G.sc]; exact e
      exact ⟨.inr q, .inl (G.fn e2 x)⟩
  · rw [if_neg e] at h; cases h
def slots (c : Ct) : List Expr → Option (List Nat)
  | [] => some []
  | .Name x _ :: es => (match slot c x, slots c es with | some i, some is => some (i :: is) | _, _ => none)
  | _ => none
theorem slots_ok {c : Ct} {k : Nat} (G : Good c k X) : ∀ {es : List Expr} {is : List Nat}, slots c es = some is → Slots X es is
  | [], is, h => by cases h; exact .nil
  | .Name x p :: es, is, h => by
    unfold slots at h
    cases e1 : slot c x with
    | none => rw [e1] at h; cases h
    | some i =>
      cases e2 : slots c es with
      | none => rw [e1, e2] at h; cases h
      | some js =>
        rw [e1, e2] at h
        cases h
        obtain ⟨q1, q2⟩ := slot_ok G e1
        exact .cons q1 q2 (slots_ok G e2)
def isTp : Expr → Bool
  | .Tuple .. => true
  | _ => false
def asgG (c : Ct) (f : Expr → GE) (v : Expr) : List Expr → GS
  | [.Name x _] => (match slot c x with | some i => gSet i (f v) | none => gNever)
  | [.Subscript o i _] => if isCo v = false ∧ isSl i = false then gSetI (f v) (f o) (f i) else gNever
  | [.Tuple es _ _] => if isCo v = false ∧ isTp v = false ∧ c.free = true then (match slots c es with | some is => gSetT is (f v) | none => gNever) else gNever
  | _ => gNever
theorem asg_ok {c : Ct} {k : Nat} (G : Good c k X) {f : Expr → GE} (h : ∀ e, JE X e (f e)) (ha : ∀ e, JAs X e (f e)) (v : Expr) (ts : List Expr) (pos : Pos) : JS X (.Assign ts v pos) (asgG c f v ts) := by
  unfold asgG
  split
  · rename_i x p
    cases e : slot c x with
    | none => exact js_never
    | some i =>
      obtain ⟨e1, e2⟩ := slot_ok G e
      exact ha v i x _ _ (by rw [G.N]; exact G.nd) e1 e2.1 e2.2
  · rename_i o i p
    by_cases g : isCo v = false ∧ isSl i = false
    · rw [if_pos g]
      have g2 := g.2
      refine js_setI (h v) (h o) (h i) (by unfold swapsWithSole; exact swap_no g.1) ?_ rfl ?_
      · cases v <;> rfl
      · intro _
        cases i <;> first | rfl | cases g2
    · rw [if_neg g]; exact js_never
  · rename_i es kk p
    by_cases g : isCo v = false ∧ isTp v = false ∧ c.free = true
    · rw [if_pos g]
      cases e1 : slots c es with
      | none => exact js_never
      | some is =>
        have g2 := g.2.1
        refine js_setT (by rw [G.N]; exact G.nd) (G.free g.2.2).2 (slots_ok G e1) (h v) (swap_no g.1) ?_
        cases v <;> first | rfl | cases g2
    · rw [if_neg g]; exact js_never
  · exact js_never
/-- the loop's way: a range is walked as such -/
noncomputable def forG (c : Ct) (f : Expr → GE) (i : Nat) (gb : GS) : Expr → GS
  | .Call (.Name x p) [a] [] q => if isRange c x = true then (if plain a = true then gForR1 i (argsG f [a]) gb else gNever) else gFor i (f (.Call (.Name x p) [a] [] q)) gb
  | .Call (.Name x p) [a, b] [] q => if isRange c x = true then (if plain a = true ∧ plain b = true then gForR2 i (argsG f [a, b]) gb else gNever) else gFor i (f (.Call (.Name x p) [a, b] [] q)) gb
  | e => if isSet e = false then gFor i (f e) gb else gNever
theorem for_ok {c : Ct} {k : Nat} (G : Good c k X) (hl : c.loop = true) {f : Expr → GE} (h : ∀ e, JE X e (f e)) {x : Str} {i : Nat} (hx : slot c x = some i) {body : List Stmt} {gb : GS} (hb : JSs X body gb) (e : Expr) (pos pos' : Pos) : JS X (.For (.Name x pos') e body [] pos) (forG c f i gb e) := by
  have nd : X.N.Nodup := by rw [G.N]; exact G.nd
  obtain ⟨e1, e2⟩ := slot_ok G hx
  have rg := range_ok G
  unfold forG
  split
  · rename_i y p a q
    by_cases g : isRange c y = true
    · rw [if_pos g]
      obtain ⟨rfl, g2, g3⟩ := rg y g
      by_cases ga : plain a = true
      · rw [if_pos ga]
        exact js_forR1 i nd (G.loop hl).2 (G.loop hl).1 g2 g3 (args_ok h [a] (by simp [ga])) hb e1 e2.1 e2.2 (star_plain ga)
      · rw [if_neg ga]; exact js_never
    · rw [if_neg g]; exact js_for i nd (G.loop hl).2 (G.loop hl).1 (h _) hb e1 e2.1 e2.2 (fold_no rfl)
  · rename_i y p a b q
    by_cases g : isRange c y = true
    · rw [if_pos g]
      obtain ⟨rfl, g2, g3⟩ := rg y g
      by_cases ga : plain a = true ∧ plain b = true
      · rw [if_pos ga]
        exact js_forR2 i nd (G.loop hl).2 (G.loop hl).1 g2 g3 (args_ok h [a, b] (by simp [ga])) hb e1 e2.1 e2.2 (by rw [star_plain ga.1, star_plain ga.2]; rfl) (by rw [star_plain ga.2]; rfl)
      · rw [if_neg ga]; exact js_never
    · rw [if_neg g]; exact js_for i nd (G.loop hl).2 (G.loop hl).1 (h _) hb e1 e2.1 e2.2 (fold_no rfl)
  · by_cases g : isSet e = false
    · rw [if_pos g]; exact js_for i nd (G.loop hl).2 (G.loop hl).1 (h _) hb e1 e2.1 e2.2 (fold_no g)
    · rw [if_neg g]; exact js_never
def raiseG (c : Ct) (f : Expr → GE) : Expr → GS
  | .Call (.Name x _) (e :: es) [] _ => if okN x = true ∧ (e :: es).all plain = true ∧ c.names.lookup x = some .globalImplicit ∧ c.clss.contains x = true ∧ c.free = true then gRaise x (argsG f (e :: es)) else gNever
  | _ => gNever
theorem raise_ok {c : Ct} {k : Nat} (G : Good c k X) {f : Expr → GE} (h : ∀ e, JE X e (f e)) (e : Expr) (pos : Pos) : JS X (.Raise (some e) none pos) (raiseG c f e) := by
  unfold raiseG
  split
  · rename_i x p e es q
    by_cases g : okN x = true ∧ (e :: es).all plain = true ∧ c.names.lookup x = some .globalImplicit ∧ c.clss.contains x = true ∧ c.free = true
    · rw [if_pos g]
      obtain ⟨g1, g2, g3, g4, g5⟩ := g
      have hg : Gl X x := by
        show X.env.scope.names.lookup x = _
        rw [G.sc]; exact g3
      have gp : plain e = true ∧ es.all plain = true := by rw [List.all_cons, Bool.and_eq_true] at g2; exact g2
      obtain ⟨C, q1, q2⟩ := G.cls x g4
      exact js_raise (G.free g5).2 q2 hg q1 (args_ok h (e :: es) g2) (okN_d g1) (star_plain gp.1) (any_plain gp.2)
    · rw [if_neg g]; exact js_never
  · exact js_never
def tryG (c : Ct) (b : Ct → List Stmt → GS) (body : List Stmt) : List ExceptHandler → GS
  | [.ExceptHandler (some (.Name x _)) (some n) (b0 :: suite) _] => if okN x = true ∧ c.names.lookup x = some .globalImplicit ∧ c.clss.contains x = true ∧ c.free = true ∧ c.top = true then
      (match slotL c n with
      | some i => gTry (fun y => c.tb.lookup (y, x)) i (b c.inTry body) (b c.inSuite (b0 :: suite))
      | none => gNever) else gNever
  | _ => gNever
theorem try_ok {c : Ct} {k : Nat} (G : Good c k X) {b : Ct → List Stmt → GS} (hb : ∀ c X, Good c k X → ∀ s, JSs X s (b c s)) (body : List Stmt) (hs : List ExceptHandler) (pos : Pos) : JS X (.Try body hs [] [] pos) (tryG c b body hs) := by
  unfold tryG
  split
  · rename_i x p n b0 suite q
    by_cases g : okN x = true ∧ c.names.lookup x = some .globalImplicit ∧ c.clss.contains x = true ∧ c.free = true ∧ c.top = true
    · rw [if_pos g]
      obtain ⟨g1, g3, g4, g5, g6⟩ := g
      have hg : Gl X x := by
        show X.env.scope.names.lookup x = _
        rw [G.sc]; exact g3
      obtain ⟨D, q1, q2⟩ := G.cls x g4
      cases e1 : slotL c n with
      | none => exact js_never
      | some i =>
        obtain ⟨e2, e3⟩ := slotL_ok G e1
        exact js_try (G.stk g6) (by rw [G.N]; exact G.nd) e2 e3 (G.free g5).2 G.tab hg q1 q2.cls (okN_d g1) (fun pn E => hb _ _ (G.body g5 pn E) _) fun e pn E => hb _ _ (G.suite e pn E) _
    · rw [if_neg g]; exact js_never
  · exact js_never
noncomputable def stepS (c : Ct) (f : Expr → GE) (t : Expr → GT) (b : Ct → List Stmt → GS) : Stmt → GS
  | .Return (some e) _ => gRet (f e)
  | .Return none _ => gRet (gC .non)
  | .Expr e _ => if isCo e = false then gExpr (f e) else gNever
  | .If q x y _ => gIf (t q) (b c x) (b c y)
  | .Assign ts v _ => asgG c f v ts
  | .For (.Name x _) e body [] _ => if c.loop = true then (match slot c x with | some i => forG c f i (b c body) e | none => gNever) else gNever
  | .For (.Tuple es _ _) e body [] _ => if c.loop = true ∧ isSet e = false then (match slots c es with | some is => gForB is (f e) (b c body) | none => gNever) else gNever
  | .Raise (some e) none _ => raiseG c f e
  | .Try body hs [] [] _ => tryG c b body hs
  | .Pass _ => gNext
  | .Break _ => gBrk
  | .Continue _ => gCnt
  | _ => gNever
theorem stepS_ok {c : Ct} {k : Nat} (G : Good c k X) {f : Expr → GE} {t : Expr → GT} {b : Ct → List Stmt → GS} (h : ∀ e, JE X e (f e)) (ha : ∀ e, JAs X e (f e)) (ht : ∀ e, JT X e (t e)) (hb : ∀ c X, Good c k X → ∀ s, JSs X s (b c s)) (s : Stmt) : JS X s (stepS c f t b s) := by
  unfold stepS
  split
  · exact js_ret (h _)
  · exact js_retN
  · rename_i e p
    by_cases g : isCo e = false
    · rw [if_pos g]; exact js_expr (h _) (swap_no g)
    · rw [if_neg g]; exact js_never
  · exact js_if (ht _) (hb c X G _) (hb c X G _)
  · exact asg_ok G h ha _ _ _
  · rename_i x p e body q
    by_cases g : c.loop = true
    · rw [if_pos g]
      cases e1 : slot c x with
      | none => exact js_never
      | some i => exact for_ok G g h e1 (hb c X G body) e _ _
    · rw [if_neg g]; exact js_never
  · rename_i es kk p e body q
    by_cases g : c.loop = true ∧ isSet e = false
    · rw [if_pos g]
      cases e1 : slots c es with
      | none => exact js_never
      | some is => exact js_forB (by rw [G.N]; exact G.nd) (G.loop g.1).2 (G.loop g.1).1 (slots_ok G e1) (h e) (hb c X G body) (fold_no g.2)
    · rw [if_neg g]; exact js_never
  · exact raise_ok G h _ _
  · exact try_ok G hb _ _ _
  · exact js_pass
  · exact js_brk
  · exact js_cnt
  · exact js_never
end
def stmtsG (f : Stmt → GS) : List Stmt → GS
  | [] => gNext
  | [s] => f s
  | s :: s' :: r => gSeq (f s) (stmtsG f (s' :: r))
theorem stmts_ok {X : Cx} {f : Stmt → GS} (h : ∀ s, JS X s (f s)) : ∀ ss, JSs X ss (stmtsG f ss)
  | [] => jss_nil
  | [s] => jss_one (h s)
  | s :: s' :: r => jss_cons (h s) (stmts_ok h (s' :: r))
noncomputable def compS : Nat → Ct → List Stmt → GS
  | 0, _ => fun _ => gNever
  | n + 1, c => stmtsG (stepS c (compE 40 c).1 (compE 40 c).2 (compS n))
theorem compS_ok {k : Nat} : ∀ (n : Nat) (c : Ct) (X : Cx), Good c k X → ∀ ss : List Stmt, JSs X ss (compS n c ss)
  | 0, _, _, _, _ => jss_never
  | n + 1, c, X, G, ss => stmts_ok (fun s => stepS_ok G (compE_ok 40 c X G).1 (compE_as 40 c X G) (compE_ok 40 c X G).2 (compS_ok n) s) ss

/-! ### a def -/
/-- the top's facts of a context: constants, names of builtins, callees -/
structure TopOk (c : Ct) (k : Nat) (P : Program) (w : World) (K : PySem.W.Frag) (mg : Str → Option Value) (base : Heap) : Prop where
  cst : ∀ x w, c.consts.lookup x = some w → CstOk K mg x w
  bl : ∀ x, c.bl.contains x = true → mg x = none
  fns : ∀ x n F, c.fns.lookup x = some (n, F) → Has P w K mg base k x n F
  tab : TabOk K c.tb c.tt
  cls : ∀ x, c.clss.contains x = true → ∃ C, mg x = some (.ref C) ∧ ExcC K x C
theorem has_def {P : Program} {w : World} {K : PySem.W.Frag} {mg : Str → Option Value} {base : Heap} {h : Heap} {k : Nat} {c : Ct} {x : Str} {st : Stmt} {ps : List Str} {g : GS} (KX : K.In h) (NS : h.Ns mainGlobals mg) (D : DefAt K x st) (T : TopOk c k P w K mg base)
    (S : FnScope c.N ps (defScope st)) (hn : (defScope st).names = c.names) (hg : compS 30 c (defBody st) = g)
    (hb : ∀ (kV doc pm : Value) (an : Option Addr) (cdv ct : Value) (us : List Value), us.length = ps.length → bindArgs (PySem.W.fnOf x x (defArgs st) (defBody st) (defScope st) .none kV doc pm an cdv ct) ⟨us, []⟩ = pure (ps.zip us)) :
    Has P w K mg base (k + 1) x ps.length (fnF c.N.length g) := by
  obtain ⟨f, fd, a, F⟩ := D
  refine ⟨f, fd, ps, ?_, PySem.W.mg_of KX NS a, F.kp, F.binds hb⟩
  subst hg
  refine fn_ok F S fun cdv A outer s H E hr => ?_
  exact compS_ok (k := k) 30 c _ ⟨rfl, hn, S.nd, room_un hr, fun _ => ⟨hr, rfl⟩, fun _ => ⟨rfl, PassesOwn.leaving⟩, T.cst, T.bl, T.fns, fun _ => ⟨rfl, rfl, rfl⟩, fun _ _ => rfl, S.kind, T.tab, T.cls⟩ _
theorem law_has {P : Program} {w : World} {K : PySem.W.Frag} {mg : Str → Option Value} {h : Heap} {k : Nat} {F : List Wv → Hs → Re Wv} {fa : Addr} {st : Stmt} (KX : K.In h) (NS : h.Ns mainGlobals mg) (hmg : mg "law" = some (.ref fa)) (D : DefAt K "law" st)
    (hp : ∀ (kV doc pm : Value) (an : Option Addr) (cdv ct : Value) (s : Shared) (u : Value), BindsTo s (PySem.W.fnOf "law" "law" (defArgs st) (defBody st) (defScope st) .none kV doc pm an cdv ct) ⟨[u], []⟩ [("script", u)])
    (FN : ∀ (f : Addr) (fd : FuncData), Fun K "law" "law" st f fd → ∀ base : Heap, K.In base → base.Ns mainGlobals mg → FnOk P w K mg base (CXJ P w) k f fd ["script"] (spW K 1 F)) :
    ∃ fd : FuncData, (∀ (s : Shared) (u : Value), BindsTo s fd ⟨[u], []⟩ [("script", u)]) ∧ ∀ base : Heap, K.In base → base.Ns mainGlobals mg → FnOk P w K mg base (CXJ P w) k fa fd ["script"] (spW K 1 F) := by
  obtain ⟨f, fd, a, Fu⟩ := D
  have e := hmg.symm.trans (PySem.W.mg_of KX NS a)
  cases e
  refine ⟨fd, fun s u => ?_, FN fa fd Fu⟩
  obtain ⟨oc, od, kV, doc, pm, an, cdv, ct, osl, rfl, lk, hcd⟩ := Fu.ex
  exact hp kV doc pm an cdv ct s u
theorem fn_def {P : Program} {w : World} {K : PySem.W.Frag} {mg : Str → Option Value} {base : Heap} {k : Nat} {c : Ct} {x : Str} {st : Stmt} {ps : List Str} {g : GS} {f : Addr} {fd : FuncData} (F : Fun K x x st f fd) (T : TopOk c k P w K mg base)
    (S : FnScope c.N ps (defScope st)) (hn : (defScope st).names = c.names) (hg : compS 30 c (defBody st) = g) : FnOk P w K mg base (CXJ P w) (k + 1) f fd ps (spW K ps.length (fnF c.N.length g)) := by
  subst hg
  refine fn_ok F S fun cdv A outer s H E hr => ?_
  exact compS_ok (k := k) 30 c _ ⟨rfl, hn, S.nd, room_un hr, fun _ => ⟨hr, rfl⟩, fun _ => ⟨rfl, PassesOwn.leaving⟩, T.cst, T.bl, T.fns, fun _ => ⟨rfl, rfl, rfl⟩, fun _ _ => rfl, S.kind, T.tab, T.cls⟩ _
end J

set_option Elab.async false
set_option linter.all false
set_option maxRecDepth 100000
set_option maxHeartbeats 4000000
namespace J
open PySem PySem.Spec PyProof.Rows L2
def AllP {α : Type} (P : α → Prop) : List α → Prop
  | [] => True
  | a :: l => P a ∧ AllP P l
theorem AllP.look {κ β : Type} [BEq κ] [LawfulBEq κ] {P : κ × β → Prop} : ∀ {l : List (κ × β)} {x : κ} {b : β}, AllP P l → l.lookup x = some b → P (x, b)
  | [], _, _, _, h => by cases h
  | (y, c) :: l, x, b, a, h => by
    rw [List.lookup_cons] at h
    cases e : x == y with
    | true =>
      rw [e] at h
      cases h
      have e' := eq_of_beq e
      subst e'
      exact a.1
    | false => rw [e] at h; exact AllP.look a.2 h
theorem AllP.mem {P : Str → Prop} : ∀ {l : List Str} {x : Str}, AllP P l → l.contains x = true → P x
  | [], _, _, h => by cases h
  | y :: l, x, a, h => by
    rw [List.contains_cons, Bool.or_eq_true] at h
    rcases h with e | h
    · have e' := eq_of_beq e
      subst e'
      exact a.1
    · exact AllP.mem a.2 h
theorem cls_one {K : PySem.W.Frag} {c : PySem.Str} {C D : Addr} (h : ClsAt K c C) (k : ClsAt K c D) : C = D := by
  unfold ClsAt at h k
  rw [h] at k
  cases k
  rfl
theorem tab_mk {K : PySem.W.Frag} {tb : Tab} {tt : TabT} (h : AllP (fun p => ∃ C D, ClsAt K p.1.1 C ∧ ClsAt K p.1.2 D ∧ ExcK K C ∧ ExcK K D ∧ PySem.W.kitOne K (.ref C) (.ref D) = some p.2 ∧ PySem.W.mroIn K C (.ref D) = some p.2) tb)
    (g : AllP (fun p => ∃ C, ClsAt K p.1.1 C ∧ ExcK K C ∧ PySem.W.kitOne K (.ref C) (.type p.1.2) = some p.2) tt) : TabOk K tb tt :=
  ⟨fun c d b C D e hC hD => by
    obtain ⟨C', D', q1, q2, r⟩ := AllP.look h e
    cases cls_one hC q1
    cases cls_one hD q2
    exact r, fun c T b C e hC => by
    obtain ⟨C', q1, r⟩ := AllP.look g e
    cases cls_one hC q1
    exact r⟩
theorem topOk_mk {c : Ct} {k : Nat} {P : Program} {w : World} {K : PySem.W.Frag} {mg : Str → Option Value} {base : Heap} (hc : AllP (fun p => CstOk K mg p.1 p.2) c.consts) (hb : AllP (fun x => mg x = none) c.bl) (hf : AllP (fun p => Has P w K mg base k p.1 p.2.1 p.2.2) c.fns)
    (ht : TabOk K c.tb c.tt) (hk : AllP (fun x => ∃ C, mg x = some (.ref C) ∧ ExcC K x C) c.clss) : TopOk c k P w K mg base :=
  ⟨fun _ _ h => hc.look h, fun _ h => hb.mem h, fun x n F h => hf.look (b := (n, F)) h, ht, fun _ h => hk.mem h⟩
end J

set_option Elab.async false
set_option linter.all false
set_option maxRecDepth 100000
set_option maxHeartbeats 4000000
namespace J
open PySem PySem.Spec PyProof.Rows L2

/-! Running the functions: small steps for simp. -/
def Rs.sq (r : Rs) (h : GS) : Rs := match r with
  | .nx ρ st => h ρ st
  | r => r
section
variable {α β : Type} {ρ ρ' : Rho} {st : Hs} {h g ga' gb' : GS} {ga gb gc : GE} {gt gu : GT} {w : Wv} {c : PySem.Str} {f : α → Hs → Re β} {k : α → Hs → Rs} {a : α} {i : Nat}
@[simp] theorem sq_nx : (Rs.nx ρ st).sq h = h ρ st := rfl
@[simp] theorem sq_rt : (Rs.rt w st).sq h = .rt w st := rfl
@[simp] theorem sq_bk : (Rs.bk ρ st).sq h = .bk ρ st := rfl
@[simp] theorem sq_ct : (Rs.ct ρ st).sq h = .ct ρ st := rfl
@[simp] theorem sq_err : (Rs.err c ρ st).sq h = .err c ρ st := rfl
@[simp] theorem sq_bad : Rs.bad.sq h = .bad := rfl
@[simp] theorem bind_ok : (Re.ok a st).bind f = f a st := rfl
@[simp] theorem bind_err : (Re.err c st).bind f = .err c st := rfl
@[simp] theorem bind_bad : (Re.bad : Re α).bind f = .bad := rfl
@[simp] theorem thn_ok : (Re.ok a st).thn ρ k = k a st := rfl
@[simp] theorem thn_err : (Re.err c st : Re α).thn ρ k = .err c ρ st := rfl
@[simp] theorem nox_ok : (Re.ok a st).nox = .ok a st := rfl
@[simp] theorem nox_bad : (Re.bad : Re α).nox = .bad := rfl
@[simp] theorem thn_bad : (Re.bad : Re α).thn ρ k = .bad := rfl
@[simp] theorem e_seq : gSeq g h ρ st = (g ρ st).sq h := by unfold gSeq Rs.sq; cases g ρ st <;> rfl
@[simp] theorem e_next : gNext ρ st = .nx ρ st := rfl
@[simp] theorem e_ret : gRet ga ρ st = (ga ρ st).thn ρ fun w st' => .rt w st' := rfl
@[simp] theorem e_expr : gExpr ga ρ st = (ga ρ st).thn ρ fun _ st' => .nx ρ st' := rfl
@[simp] theorem e_set : gSet i ga ρ st = (ga ρ st).thn ρ fun w st' => .nx (ρ.set i (some w)) st' := rfl
def kIf (ga gb : GS) (ρ : Rho) : Bool → Hs → Rs := fun b st' => if b = true then ga ρ st' else gb ρ st'
@[simp] theorem kIf_t : kIf g h ρ true st = g ρ st := rfl
@[simp] theorem kIf_f : kIf g h ρ false st = h ρ st := rfl
@[simp] theorem e_if : gIf gt g h ρ st = (gt ρ st).thn ρ (kIf g h ρ) := rfl
def rdV (o : Option (Option Wv)) (st : Hs) : Re Wv := match o with
  | some (some w) => .ok w st
  | _ => .bad
@[simp] theorem rdV_s : rdV (some (some w)) st = .ok w st := rfl
@[simp] theorem e_var : gVar i ρ st = rdV ρ[i]? st := rfl
@[simp] theorem e_c : gC w ρ st = .ok w st := rfl
def kB (op : Op2) (gb : GE) (ρ : Rho) : Wv → Hs → Re Wv := fun x st1 => (gb ρ st1).bind fun y st2 => (op x y st2).nox
@[simp] theorem kB_d {op : Op2} {x : Wv} : kB op gb ρ x st = (gb ρ st).bind fun y st2 => (op x y st2).nox := rfl
@[simp] theorem e_bin {op : Op2} : gBin op ga gb ρ st = (ga ρ st).bind (kB op gb ρ) := rfl
@[simp] theorem e_tst : gTst ga ρ st = (ga ρ st).bind tst := rfl
@[simp] theorem tst_b {b : Bool} : tst (.bl b) st = .ok b st := rfl
@[simp] theorem e_tru : gTru ga ρ st = (ga ρ st).bind truW := rfl
@[simp] theorem truW_b {b : Bool} : truW (.bl b) st = .ok b st := rfl
@[simp] theorem e_not : gNot gt ρ st = (gt ρ st).bind fun b st1 => .ok (!b) st1 := rfl
def kAnd (gb : GT) (ρ : Rho) : Bool → Hs → Re Bool := fun b st1 => if b = true then gb ρ st1 else .ok false st1
@[simp] theorem kAnd_t : kAnd gu ρ true st = gu ρ st := rfl
@[simp] theorem kAnd_f : kAnd gu ρ false st = .ok false st := rfl
@[simp] theorem e_and : gAnd gt gu ρ st = (gt ρ st).bind (kAnd gu ρ) := rfl
def kOr (gb : GT) (ρ : Rho) : Bool → Hs → Re Bool := fun b st1 => if b = true then .ok true st1 else gb ρ st1
@[simp] theorem kOr_t : kOr gu ρ true st = .ok true st := rfl
@[simp] theorem kOr_f : kOr gu ρ false st = gu ρ st := rfl
@[simp] theorem e_or : gOr gt gu ρ st = (gt ρ st).bind (kOr gu ρ) := rfl
def kAndV (gb : GE) (ρ : Rho) : Wv → Hs → Re Wv := fun w st1 => match w with
  | .bl true => gb ρ st1
  | .bl false => .ok (.bl false) st1
  | _ => .bad
@[simp] theorem kAndV_t : kAndV gb ρ (.bl true) st = gb ρ st := rfl
@[simp] theorem kAndV_f : kAndV gb ρ (.bl false) st = .ok (.bl false) st := rfl
@[simp] theorem e_andV : gAndV ga gb ρ st = (ga ρ st).bind (kAndV gb ρ) := rfl
def kOrV (gb : GE) (ρ : Rho) : Wv → Hs → Re Wv := fun w st1 => match w with
  | .bl true => .ok (.bl true) st1
  | .bl false => gb ρ st1
  | _ => .bad
@[simp] theorem kOrV_t : kOrV gb ρ (.bl true) st = .ok (.bl true) st := rfl
@[simp] theorem kOrV_f : kOrV gb ρ (.bl false) st = gb ρ st := rfl
@[simp] theorem e_orV : gOrV ga gb ρ st = (ga ρ st).bind (kOrV gb ρ) := rfl
def kNotV : Wv → Hs → Re Wv := fun w st1 => match w with
  | .bl b => .ok (.bl (!b)) st1
  | _ => .bad
@[simp] theorem kNotV_b {b : Bool} : kNotV (.bl b) st = .ok (.bl (!b)) st := rfl
@[simp] theorem e_notV : gNotV ga ρ st = (ga ρ st).bind kNotV := rfl
def kIfE (ga gb : GE) (ρ : Rho) : Bool → Hs → Re Wv := fun b st1 => if b = true then ga ρ st1 else gb ρ st1
@[simp] theorem kIfE_t : kIfE ga gb ρ true st = ga ρ st := rfl
@[simp] theorem kIfE_f : kIfE ga gb ρ false st = gb ρ st := rfl
@[simp] theorem e_ifE : gIfE gt ga gb ρ st = (gt ρ st).bind (kIfE ga gb ρ) := rfl
@[simp] theorem e_nil : gNil ρ st = .ok [] st := rfl
def kCons (gr : GA) (ρ : Rho) : Wv → Hs → Re (List Wv) := fun x st1 => (gr ρ st1).bind fun xs st2 => .ok (x :: xs) st2
@[simp] theorem kCons_d {gr : GA} {x : Wv} : kCons gr ρ x st = (gr ρ st).bind fun xs st2 => .ok (x :: xs) st2 := rfl
@[simp] theorem e_cons {gr : GA} : gCons ga gr ρ st = (ga ρ st).bind (kCons gr ρ) := rfl
def kTup : List Wv → Hs → Re Wv := fun ws st1 => if ws.length ≤ lim then .ok (.tup ws) st1 else .bad
theorem kTup_d {ws : List Wv} (hl : ws.length ≤ lim) : kTup ws st = .ok (.tup ws) st := if_pos hl
@[simp] theorem e_tup {gr : GA} : gTup gr ρ st = (gr ρ st).bind kTup := rfl
def kLst : List Wv → Hs → Re Wv := fun ws st1 => if ws.length ≤ lim then .ok (.ref st1.length) (st1 ++ [.lst ws]) else .bad
theorem kLst_d {ws : List Wv} (hl : ws.length ≤ lim) : kLst ws st = .ok (.ref st.length) (st ++ [.lst ws]) := if_pos hl
@[simp] theorem e_lst {gr : GA} : gLst gr ρ st = (gr ρ st).bind kLst := rfl
section
variable {x x0 x1 x2 x3 x4 x5 x6 x7 : Wv}
@[simp] theorem kTup_0 : kTup [] st = .ok (.tup []) st := kTup_d (by simp [lim])
@[simp] theorem kTup_1 : kTup [x0] st = .ok (.tup [x0]) st := kTup_d (by simp [lim])
@[simp] theorem kTup_2 : kTup [x0, x1] st = .ok (.tup [x0, x1]) st := kTup_d (by simp [lim])
@[simp] theorem kTup_3 : kTup [x0, x1, x2] st = .ok (.tup [x0, x1, x2]) st := kTup_d (by simp [lim])
@[simp] theorem kTup_4 : kTup [x0, x1, x2, x3] st = .ok (.tup [x0, x1, x2, x3]) st := kTup_d (by simp [lim])
@[simp] theorem kTup_5 : kTup [x0, x1, x2, x3, x4] st = .ok (.tup [x0, x1, x2, x3, x4]) st := kTup_d (by simp [lim])
@[simp] theorem kLst_0 : kLst [] st = .ok (.ref st.length) (st ++ [.lst []]) := kLst_d (by simp [lim])
@[simp] theorem kLst_1 : kLst [x0] st = .ok (.ref st.length) (st ++ [.lst [x0]]) := kLst_d (by simp [lim])
@[simp] theorem kLst_2 : kLst [x0, x1] st = .ok (.ref st.length) (st ++ [.lst [x0, x1]]) := kLst_d (by simp [lim])
@[simp] theorem kLst_3 : kLst [x0, x1, x2] st = .ok (.ref st.length) (st ++ [.lst [x0, x1, x2]]) := kLst_d (by simp [lim])
@[simp] theorem kLst_4 : kLst [x0, x1, x2, x3] st = .ok (.ref st.length) (st ++ [.lst [x0, x1, x2, x3]]) := kLst_d (by simp [lim])
@[simp] theorem kLst_5 : kLst [x0, x1, x2, x3, x4] st = .ok (.ref st.length) (st ++ [.lst [x0, x1, x2, x3, x4]]) := kLst_d (by simp [lim])
@[simp] theorem kLst_6 : kLst [x0, x1, x2, x3, x4, x5] st = .ok (.ref st.length) (st ++ [.lst [x0, x1, x2, x3, x4, x5]]) := kLst_d (by simp [lim])
@[simp] theorem kLst_7 : kLst [x0, x1, x2, x3, x4, x5, x6] st = .ok (.ref st.length) (st ++ [.lst [x0, x1, x2, x3, x4, x5, x6]]) := kLst_d (by simp [lim])
@[simp] theorem kLst_8 : kLst [x0, x1, x2, x3, x4, x5, x6, x7] st = .ok (.ref st.length) (st ++ [.lst [x0, x1, x2, x3, x4, x5, x6, x7]]) := kLst_d (by simp [lim])
end
def kCall (n : Nat) (F : List Wv → Hs → Re Wv) : List Wv → Hs → Re Wv := fun ws st1 => if ws.length = n then F ws st1 else .bad
section
variable {F : List Wv → Hs → Re Wv} {x0 x1 x2 x3 : Wv} {gr : GA}
@[simp] theorem kCall_1 : kCall 1 F [x0] st = F [x0] st := rfl
@[simp] theorem kCall_2 : kCall 2 F [x0, x1] st = F [x0, x1] st := rfl
@[simp] theorem kCall_3 : kCall 3 F [x0, x1, x2] st = F [x0, x1, x2] st := rfl
@[simp] theorem kCall_4 : kCall 4 F [x0, x1, x2, x3] st = F [x0, x1, x2, x3] st := rfl
@[simp] theorem e_call {n : Nat} : gCall n F gr ρ st = (gr ρ st).bind (kCall n F) := rfl
@[simp] theorem e_callB {op : List Wv → Hs → Re Wv} : gCallB op gr ρ st = (gr ρ st).bind fun ws st1 => (op ws st1).nox := rfl
end
@[simp] theorem e_un {op : Wv → Hs → Re Wv} : gUn op ga ρ st = (ga ρ st).bind op := rfl
@[simp] theorem neg_i {i : Int} : opNeg (.int i) st = .ok (.int (-i)) st := rfl
@[simp] theorem add_i {i j : Int} : oAdd (.int i) (.int j) st = .ok (.int (i + j)) st := rfl
@[simp] theorem sub_i {i j : Int} : oSub (.int i) (.int j) st = .ok (.int (i - j)) st := rfl
@[simp] theorem lt_i {i j : Int} : oLt (.int i) (.int j) st = .ok (.bl (decide (i < j))) st := rfl
@[simp] theorem le_i {i j : Int} : oLe (.int i) (.int j) st = .ok (.bl (decide (i ≤ j))) st := rfl
@[simp] theorem gt_i {i j : Int} : oGt (.int i) (.int j) st = .ok (.bl (decide (j < i))) st := rfl
@[simp] theorem ge_i {i j : Int} : oGe (.int i) (.int j) st = .ok (.bl (decide (j ≤ i))) st := rfl
@[simp] theorem eq_i {i j : Int} : oEq (.int i) (.int j) st = .ok (.bl (i == j)) st := rfl
@[simp] theorem ne_i {i j : Int} : oNe (.int i) (.int j) st = .ok (.bl (!(i == j))) st := rfl
@[simp] theorem eq_s {i j : PySem.Str} : oEq (.str i) (.str j) st = .ok (.bl (i == j)) st := rfl
@[simp] theorem ne_s {i j : PySem.Str} : oNe (.str i) (.str j) st = .ok (.bl (!(i == j))) st := rfl
@[simp] theorem eq_b {i j : Bool} : oEq (.bl i) (.bl j) st = .ok (.bl (i == j)) st := by cases i <;> cases j <;> rfl
@[simp] theorem ne_b {i j : Bool} : oNe (.bl i) (.bl j) st = .ok (.bl (!(i == j))) st := by cases i <;> cases j <;> rfl
theorem fdiv_i {i j : Int} (h : j ≠ 0 ∧ j.natAbs.log2 < 9000) : oFdiv (.int i) (.int j) st = .ok (.int (i.fdiv j)) st := by show (if _ then _ else _) = _; rw [if_pos h]
theorem mod_i {i j : Int} (h : j ≠ 0) : oMod (.int i) (.int j) st = .ok (.int (i.fmod j)) st := by show (if _ then _ else _) = _; rw [if_pos h]
theorem mul_i {i j : Int} (h : IntMulOk i j) : oMulL (.int i) (.int j) st = .ok (.int (i * j)) st := by show (if _ then _ else _) = _; rw [if_pos h]
theorem mul_l {i j : Int} (h1 : -(2 ^ 64) < i) (h2 : i < 2 ^ 64) : oMulL (.int i) (.int j) st = .ok (.int (i * j)) st := mul_i (IntMulOk.of_left (intBits_le_64 h1 h2))
theorem mul_r {i j : Int} (h1 : -(2 ^ 64) < j) (h2 : j < 2 ^ 64) : oMulL (.int i) (.int j) st = .ok (.int (i * j)) st := mul_i (IntMulOk.of_right (intBits_le_64 h1 h2))
theorem pow_i {i j : Int} (h : 0 ≤ j ∧ j ≤ 1000000 ∧ i.natAbs < 2 ^ 64) : oPow (.int i) (.int j) st = .ok (.int (i ^ j.toNat)) st := by show (if _ then _ else _) = _; rw [if_pos h]
theorem ix_l {l : Nat} {i : Int} {ws : List Wv} {v : Wv} (h : lstOf st l = some ws) (h2 : atI ws i = some v) : oIx (.ref l) (.int i) st = .ok v st := by
  show (match lstOf st l with | some ws => (match atI ws i with | some w => Re.ok w st | none => .bad) | none => .bad) = _
  rw [h]
  dsimp only
  rw [h2]
theorem add_l {l k : Nat} {xs ys : List Wv} (h1 : lstOf st l = some xs) (h2 : lstOf st k = some ys) (hl : xs.length + ys.length ≤ lim) : oAdd (.ref l) (.ref k) st = .ok (.ref st.length) (st ++ [.lst (xs ++ ys)]) := by
  show (match lstOf st l, lstOf st k with | some i, some j => if i.length + j.length ≤ lim then Re.ok (Wv.ref st.length) (st ++ [Ob.lst (i ++ j)]) else .bad | _, _ => .bad) = _
  rw [h1, h2]
  exact if_pos hl
theorem ix_t {i : Int} {ws : List Wv} {v : Wv} (h2 : atI ws i = some v) : oIx (.tup ws) (.int i) st = .ok v st := by
  show (match atI ws i with | some w => Re.ok w st | none => .bad) = _
  rw [h2]
end
/-! ### a def's answer -/
theorem fn_rt {n : Nat} {g : GS} {ws : List Wv} {st st' : Hs} {w : Wv} (h : g (ws.map some ++ List.replicate (n - ws.length) none) st = .rt w st') : fnF n g ws st = .ok w st' := by unfold fnF; rw [h]
theorem fn_nx {n : Nat} {g : GS} {ws : List Wv} {st st' : Hs} {ρ : Rho} (h : g (ws.map some ++ List.replicate (n - ws.length) none) st = .nx ρ st') : fnF n g ws st = .ok .non st' := by unfold fnF; rw [h]
theorem fn_err {n : Nat} {g : GS} {ws : List Wv} {st st' : Hs} {ρ : Rho} {c : PySem.Str} (h : g (ws.map some ++ List.replicate (n - ws.length) none) st = .err c ρ st') : fnF n g ws st = .err c st' := by unfold fnF; rw [h]
/-! ### slices, lengths, chains, tries -/
section
variable {ρ : Rho} {st : Hs} {ga gb gc : GE} {gl gh : GO}
def kSl (gl gh : GO) (ρ : Rho) : Wv → Hs → Re Wv := fun x st1 => (gl ρ st1).bind fun lo st2 => (gh ρ st2).bind fun hi st3 => oSl2 x lo hi st3
@[simp] theorem e_slice : gSlice2 ga gl gh ρ st = (ga ρ st).bind (kSl gl gh ρ) := rfl
@[simp] theorem kSl_d {x : Wv} : kSl gl gh ρ x st = (gl ρ st).bind fun lo st2 => (gh ρ st2).bind fun hi st3 => oSl2 x lo hi st3 := rfl
@[simp] theorem e_nopart : gNoPart ρ st = .ok none st := rfl
def kPart : Wv → Hs → Re (Option Int) := fun w st1 => match w with
  | .int i => .ok (some i) st1
  | _ => .bad
@[simp] theorem e_part : gPart ga ρ st = (ga ρ st).bind kPart := rfl
@[simp] theorem kPart_i {i : Int} : kPart (.int i) st = .ok (some i) st := rfl
theorem sl_l {l : Nat} {ws : List Wv} {lo hi : Option Int} (h : lstOf st l = some ws) : oSl2 (.ref l) lo hi st = .ok (.ref st.length) (st ++ [.lst (cutW ws lo hi)]) := by
  show (match lstOf st l with | some ws => Re.ok (Wv.ref st.length) (st ++ [Ob.lst (cutW ws lo hi)]) | none => .bad) = _
  rw [h]
theorem len_l {l : Nat} {ws : List Wv} (h : lstOf st l = some ws) : oLen [.ref l] st = .ok (.int ws.length) st := by
  show (match lstOf st l with | some ws => Re.ok (Wv.int ws.length) st | none => .bad) = _
  rw [h]
theorem cutW_map {xs : List Int} {lo hi : Option Int} : ∃ ys : List Int, cutW (xs.map Wv.int) lo hi = ys.map Wv.int := by
  unfold cutW
  rw [← List.map_drop, ← List.map_take]
  exact ⟨_, rfl⟩
def kCh2 (op' : Op2) (gc : GE) (y : Wv) (ρ : Rho) : Wv → Hs → Re Wv := fun z st3 => match z with
  | .bl true => (gc ρ st3).bind fun u st4 => (op' y u st4).nox
  | .bl false => .ok (.bl false) st3
  | _ => .bad
@[simp] theorem kCh2_t {op' : Op2} {y : Wv} : kCh2 op' gc y ρ (.bl true) st = (gc ρ st).bind fun u st4 => (op' y u st4).nox := rfl
@[simp] theorem kCh2_f {op' : Op2} {y : Wv} : kCh2 op' gc y ρ (.bl false) st = .ok (.bl false) st := rfl
@[simp] theorem e_chain {op op' : Op2} : gChain op op' ga gb gc ρ st = (ga ρ st).bind fun x st1 => (gb ρ st1).bind fun y st2 => (op x y st2).nox.bind (kCh2 op' gc y ρ) := rfl
def kTry (cat : PySem.Str → Option Bool) (i : Nat) (gs : GS) (r : Rs) : Rs := match r with
  | .err c ρ' st' => (match cat c with
    | some true => (match gs (ρ'.set i (some (.exn c))) st' with
      | .nx ρ2 st2 => .nx (ρ2.set i none) st2
      | .rt w st2 => .rt w st2
      | _ => .bad)
    | _ => .bad)
  | r => r
@[simp] theorem e_try {cat : PySem.Str → Option Bool} {i : Nat} {g gs : GS} : gTry cat i g gs ρ st = kTry cat i gs (g ρ st) := by
  unfold gTry kTry
  cases g ρ st <;> rfl
@[simp] theorem kTry_nx {cat : PySem.Str → Option Bool} {i : Nat} {gs : GS} : kTry cat i gs (.nx ρ st) = .nx ρ st := rfl
@[simp] theorem kTry_rt {cat : PySem.Str → Option Bool} {i : Nat} {gs : GS} {w : Wv} : kTry cat i gs (.rt w st) = .rt w st := rfl
theorem kTry_err {cat : PySem.Str → Option Bool} {i : Nat} {gs : GS} {c : PySem.Str} {ρ2 : Rho} {st2 : Hs} (h : cat c = some true) (k : gs (ρ.set i (some (.exn c))) st = .nx ρ2 st2) : kTry cat i gs (.err c ρ st) = .nx (ρ2.set i none) st2 := by
  unfold kTry
  simp only [h, k]
end
/-! ### lists in the row of objects -/
theorem lstOf_new {st : Hs} {ws : List Wv} : lstOf (st ++ [.lst ws]) st.length = some ws := by unfold lstOf; simp
theorem lstOf_old {st : Hs} {o : Ob} {l : Nat} {ws : List Wv} (h : lstOf st l = some ws) : lstOf (st ++ [o]) l = some ws := by
  have hl : l < st.length := by
    unfold lstOf at h
    cases e : st[l]? with
    | none => rw [e] at h; cases h
    | some o => exact (List.getElem?_eq_some_iff.mp e).1
  unfold lstOf at h ⊢
  rw [List.getElem?_append_left hl]
  exact h
theorem lstOf_lt {st : Hs} {l : Nat} {ws : List Wv} (h : lstOf st l = some ws) : l < st.length := by
  unfold lstOf at h
  cases e : st[l]? with
  | none => rw [e] at h; cases h
  | some o => exact (List.getElem?_eq_some_iff.mp e).1
/-- what was there is as it was, but for l -/
def Keep (l : Nat) (st st' : Hs) : Prop := st.length ≤ st'.length ∧ ∀ k, k < st.length → k ≠ l → st'[k]? = st[k]?
theorem Keep.refl {l : Nat} {st : Hs} : Keep l st st := ⟨Nat.le_refl _, fun _ _ _ => rfl⟩
theorem Keep.trans {l : Nat} {a b c : Hs} (h : Keep l a b) (k : Keep l b c) : Keep l a c := ⟨Nat.le_trans h.1 k.1, fun j h1 h2 => (k.2 j (Nat.lt_of_lt_of_le h1 h.1) h2).trans (h.2 j h1 h2)⟩
theorem Keep.push {l : Nat} {st : Hs} {o : Ob} : Keep l st (st ++ [o]) := ⟨by simp, fun k h _ => List.getElem?_append_left h⟩
theorem Keep.set {l : Nat} {st : Hs} {o : Ob} : Keep l st (st.set l o) := ⟨by simp, fun k _ h => List.getElem?_set_ne (fun z => h z.symm)⟩
theorem Keep.lst {l : Nat} {st st' : Hs} (k : Keep l st st') {j : Nat} {ws : List Wv} (h : lstOf st j = some ws) (hj : j ≠ l) : lstOf st' j = some ws := by
  unfold lstOf at h ⊢
  rw [k.2 j (lstOf_lt (st := st) (ws := ws) (by unfold lstOf; exact h)) hj]
  exact h
/-! ### loops by an invariant -/
@[simp] theorem e_forR1 {i : Nat} {ga : GA} {gb : GS} {ρ : Rho} {st : Hs} : gForR1 i ga gb ρ st = (ga ρ st).thn ρ fun ws st1 => match ws with
  | [.int j] => if CRng j then forT i gb (rngW 0 j.toNat) ρ st1 else .bad
  | _ => .bad := rfl
@[simp] theorem e_forR2 {i : Nat} {ga : GA} {gb : GS} {ρ : Rho} {st : Hs} : gForR2 i ga gb ρ st = (ga ρ st).thn ρ fun ws st1 => match ws with
  | [.int a, .int j] => if CRng a ∧ CRng j then forT i gb (rngW a (j - a).toNat) ρ st1 else .bad
  | _ => .bad := rfl
@[simp] theorem e_raise {c : PySem.Str} {ga : GA} {ρ : Rho} {st : Hs} : gRaise c ga ρ st = (ga ρ st).thn ρ fun ws st1 => if ws.length ≤ lim then .err c ρ st1 else .bad := rfl
def kMeth (mt : Wv → Wv → Hs → Re Wv) (ga : GE) (ρ : Rho) : Wv → Hs → Re Wv := fun o st1 => match o with
  | .ref l => (match lstOf st1 l with
    | some _ => (ga ρ st1).bind fun v st2 => (mt o v st2).nox
    | none => .bad)
  | _ => .bad
@[simp] theorem e_meth {mt : Wv → Wv → Hs → Re Wv} {go ga : GE} {ρ : Rho} {st : Hs} : gMeth mt go ga ρ st = (go ρ st).bind (kMeth mt ga ρ) := rfl
theorem kMeth_l {mt : Wv → Wv → Hs → Re Wv} {ga : GE} {ρ : Rho} {st : Hs} {l : Nat} {ws : List Wv} (h : lstOf st l = some ws) : kMeth mt ga ρ (.ref l) st = (ga ρ st).bind fun v st2 => (mt (.ref l) v st2).nox := by
  show (match lstOf st l with | some _ => (ga ρ st).bind fun v st2 => (mt (.ref l) v st2).nox | none => .bad) = _
  rw [h]
theorem app_l {st : Hs} {l : Nat} {v : Wv} {ws : List Wv} (h : st[l]? = some (.lst ws)) (hl : ws.length < lim) : mApp (.ref l) v st = .ok .non (st.set l (.lst (ws ++ [v]))) := by
  show (match st[l]? with | some (.lst ws) => if ws.length < lim then Re.ok Wv.non (st.set l (.lst (ws ++ [v]))) else .bad | _ => .bad) = _
  rw [h]
  exact if_pos hl
noncomputable def kFor (i : Nat) (gb : GS) (ρ : Rho) : Wv → Hs → Rs := fun w st1 => match w with
  | .ref l => (match lstOf st1 l with | some ws => forL i gb l ws ws ρ st1 | none => .bad)
  | .tup ws => forT i gb ws ρ st1
  | _ => .bad
@[simp] theorem e_for {i : Nat} {ga : GE} {gb : GS} {ρ : Rho} {st : Hs} : gFor i ga gb ρ st = (ga ρ st).thn ρ (kFor i gb ρ) := rfl
theorem kFor_l {i : Nat} {gb : GS} {ρ : Rho} {st : Hs} {l : Nat} {ws : List Wv} (h : lstOf st l = some ws) : kFor i gb ρ (.ref l) st = forL i gb l ws ws ρ st := by
  show (match lstOf st l with | some ws => forL i gb l ws ws ρ st | none => .bad) = _
  rw [h]
@[simp] theorem kFor_t {i : Nat} {gb : GS} {ρ : Rho} {st : Hs} {ws : List Wv} : kFor i gb ρ (.tup ws) st = forT i gb ws ρ st := rfl
theorem forL_inv {i : Nat} {gb : GS} {l : Nat} {all : List Wv} (P : Rho → Hs → Prop) : ∀ (ws : List Wv) (ρ : Rho) (st : Hs), P ρ st → lstOf st l = some all →
    (∀ w ∈ ws, ∀ ρ st, P ρ st → lstOf st l = some all → ∃ ρ' st', gb (ρ.set i (some w)) st = .nx ρ' st' ∧ lstOf st' l = some all ∧ P ρ' st') →
    ∃ ρ' st', forL i gb l all ws ρ st = .nx ρ' st' ∧ P ρ' st' ∧ lstOf st' l = some all
  | [], ρ, st, h, hl, _ => ⟨ρ, st, rfl, h, hl⟩
  | w :: r, ρ, st, h, hl, step => by
    obtain ⟨ρ1, st1, e1, l1, p1⟩ := step w List.mem_cons_self ρ st h hl
    obtain ⟨ρ2, st2, e2, p2, l2⟩ := forL_inv P r ρ1 st1 p1 l1 fun w hw => step w (List.mem_cons_of_mem _ hw)
    refine ⟨ρ2, st2, ?_, p2, l2⟩
    unfold forL
    rw [e1]
    simp only [if_pos l1]
    exact e2
theorem forT_ix {i : Nat} {gb : GS} (P : Nat → Rho → Hs → Prop) : ∀ (ws : List Wv) (k : Nat) (ρ : Rho) (st : Hs), P k ρ st →
    (∀ (j : Nat) (w : Wv), ws[j]? = some w → ∀ ρ st, P (k + j) ρ st → ∃ ρ' st', gb (ρ.set i (some w)) st = .nx ρ' st' ∧ P (k + j + 1) ρ' st') → ∃ ρ' st', forT i gb ws ρ st = .nx ρ' st' ∧ P (k + ws.length) ρ' st'
  | [], k, ρ, st, h, _ => ⟨ρ, st, rfl, h⟩
  | w :: r, k, ρ, st, h, step => by
    obtain ⟨ρ1, st1, e1, p1⟩ := step 0 w rfl ρ st h
    obtain ⟨ρ2, st2, e2, p2⟩ := forT_ix P r (k + 1) ρ1 st1 p1 fun j w hw ρ st hp => by
      have e : k + (j + 1) = k + 1 + j := by omega
      have q := step (j + 1) w hw ρ st (by rw [e]; exact hp)
      rw [e] at q
      exact q
    refine ⟨ρ2, st2, ?_, ?_⟩
    · unfold forT
      rw [e1]
      exact e2
    · have e : k + (w :: r).length = k + 1 + r.length := by simp; omega
      rw [e]
      exact p2
theorem forT_inv {i : Nat} {gb : GS} (P : Rho → Hs → Prop) : ∀ (ws : List Wv) (ρ : Rho) (st : Hs), P ρ st →
    (∀ w ∈ ws, ∀ ρ st, P ρ st → ∃ ρ' st', gb (ρ.set i (some w)) st = .nx ρ' st' ∧ P ρ' st') → ∃ ρ' st', forT i gb ws ρ st = .nx ρ' st' ∧ P ρ' st'
  | [], ρ, st, h, _ => ⟨ρ, st, rfl, h⟩
  | w :: r, ρ, st, h, step => by
    obtain ⟨ρ1, st1, e1, p1⟩ := step w List.mem_cons_self ρ st h
    obtain ⟨ρ2, st2, e2, p2⟩ := forT_inv P r ρ1 st1 p1 fun w hw => step w (List.mem_cons_of_mem _ hw)
    refine ⟨ρ2, st2, ?_, p2⟩
    unfold forT
    rw [e1]
    exact e2
/-! ### comprehensions -/
@[simp] theorem str2_i {i : Int} {st : Hs} : oStr2 [.int i] st = oStr [.int i] st := rfl
@[simp] theorem e_comp {cs : Caps} {gi : GI} {gt : GT} {ge : GE} {ρ : Rho} {st : Hs} : gComp cs gi gt ge ρ st = (gi ρ st).bind (compRun cs gt ge ρ) := rfl
@[simp] theorem e_giSeq {g : GE} {ρ : Rho} {st : Hs} : giSeq2 g ρ st = (g ρ st).bind seqW2 := rfl
@[simp] theorem e_giR1 {g : GA} {ρ : Rho} {st : Hs} : giR1 g ρ st = (g ρ st).bind rng1W := rfl
@[simp] theorem e_giR2 {g : GA} {ρ : Rho} {st : Hs} : giR2 g ρ st = (g ρ st).bind rng2W := rfl
theorem rng1_i {j : Int} {st : Hs} (h : CRng j) : rng1W [.int j] st = .ok (none, rngW 0 j.toNat) st := if_pos h
theorem rng2_i {i j : Int} {st : Hs} (h : CRng i) (k : CRng j) : rng2W [.int i, .int j] st = .ok (none, rngW i (j - i).toNat) st := if_pos ⟨h, k⟩
theorem seqW_l {l : Nat} {st : Hs} {ws : List Wv} (h : lstOf st l = some ws) : seqW2 (.ref l) st = .ok (some l, ws) st := by
  show (match lstOf st l with | some ws => Re.ok (some l, ws) st | none => .bad) = _
  rw [h]
@[simp] theorem seqW_s {st : Hs} {z : PySem.Str} : seqW2 (.str z) st = .ok (none, signsW z) st := rfl
@[simp] theorem seqW_t {st : Hs} {ws : List Wv} : seqW2 (.tup ws) st = .ok (none, ws) st := rfl
theorem app_new {st : Hs} {acc : List Wv} {v : Wv} (h : acc.length < lim) : mApp (.ref st.length) v (st ++ [.lst acc]) = .ok .non (st ++ [.lst (acc ++ [v])]) := by
  rw [app_l (ws := acc) (by simp) h]
  congr 1
  simp
theorem compG_pure {w : Wk} {gt : Wv → Hs → Re Bool} {ge : Wv → Hs → Re Wv} {st : Hs} {t : Wv → Bool} {f : Wv → Wv} (ck : ckOf w st) : ∀ (ws acc : List Wv), (∀ v ∈ ws, ∀ acc, gt v (st ++ [.lst acc]) = .ok (t v) (st ++ [.lst acc])) →
    (∀ v ∈ ws, t v = true → ∀ acc, ge v (st ++ [.lst acc]) = .ok (f v) (st ++ [.lst acc])) → acc.length + ws.length < lim → compG (ckOf w) gt ge st.length ws (st ++ [.lst acc]) = some (st ++ [.lst (acc ++ (ws.filter t).map f)])
  | [], acc, _, _, _ => by simp [compG]
  | v :: r, acc, h1, h2, hl => by
    have hl' : acc.length + (r.length + 1) < lim := hl
    unfold compG
    rw [h1 v List.mem_cons_self acc]
    cases e : t v with
    | false =>
      dsimp only
      rw [if_pos (ckOf_app ck), compG_pure ck r acc (fun v hv => h1 v (List.mem_cons_of_mem _ hv)) (fun v hv => h2 v (List.mem_cons_of_mem _ hv)) (by omega), List.filter_cons_of_neg (by simp [e])]
    | true =>
      dsimp only
      rw [h2 v List.mem_cons_self e acc]
      dsimp only
      rw [app_new (by omega)]
      dsimp only
      rw [if_pos (ckOf_app ck), compG_pure ck r (acc ++ [f v]) (fun v hv => h1 v (List.mem_cons_of_mem _ hv)) (fun v hv => h2 v (List.mem_cons_of_mem _ hv)) (by simp; omega), List.filter_cons_of_pos e]
      simp
theorem comp_pure {cs : Caps} {gt : GT} {ge : GE} {ρ : Rho} {w : Wk} {st : Hs} {t : Wv → Bool} {f : Wv → Wv} (ck : ckOf w st) (h1 : ∀ v ∈ w.2, ∀ acc, gt (some v :: capR cs ρ) (st ++ [.lst acc]) = .ok (t v) (st ++ [.lst acc]))
    (h2 : ∀ v ∈ w.2, t v = true → ∀ acc, ge (some v :: capR cs ρ) (st ++ [.lst acc]) = .ok (f v) (st ++ [.lst acc])) (hl : w.2.length < lim) : compRun cs gt ge ρ w st = .ok (.ref st.length) (st ++ [.lst ((w.2.filter t).map f)]) := by
  unfold compRun
  rw [compG_pure ck w.2 [] h1 h2 (by simpa using hl)]
  simp
end J

set_option Elab.async false
set_option linter.all false
set_option maxRecDepth 100000
set_option maxHeartbeats 4000000
namespace J
open PySem PySem.Spec PyProof.Rows L2
/-! Small facts that many laws want. -/
theorem atI_some {α : Type} {ws : List α} {d : Int} (h0 : 0 ≤ d) (h1 : d < ws.length) : ∃ v, L2.atI ws d = some v ∧ v ∈ ws := by
  have hk : d.toNat < ws.length := by omega
  have ek : d = ((d.toNat : Nat) : Int) := by omega
  refine ⟨ws[d.toNat], ?_, List.getElem_mem hk⟩
  have q := L2.atI_nat (List.getElem?_eq_getElem hk)
  rw [← ek] at q
  exact q
theorem atI_ix {α : Type} {ws : List α} {k : Nat} (h : k < ws.length) : L2.atI ws (k : Int) = some ws[k] := L2.atI_nat (List.getElem?_eq_getElem h)
theorem set_get {st : Hs} {l : Nat} {o o' : Ob} (h : st[l]? = some o) : (st.set l o')[l]? = some o' := List.getElem?_set_self (List.getElem?_eq_some_iff.mp h).1
theorem push_get {st : Hs} {l : Nat} {o o' : Ob} (h : st[l]? = some o) : (st ++ [o'])[l]? = some o := by rw [List.getElem?_append_left (List.getElem?_eq_some_iff.mp h).1]; exact h
theorem lst_get {st : Hs} {l : Nat} {ws : List Wv} (h : st[l]? = some (.lst ws)) : lstOf st l = some ws := by unfold lstOf; rw [h]
theorem get_lt {st : Hs} {l : Nat} {o : Ob} (h : st[l]? = some o) : l < st.length := (List.getElem?_eq_some_iff.mp h).1
theorem new_get {st : Hs} {o : Ob} : (st ++ [o])[st.length]? = some o := by simp
theorem add_s {x y : PySem.Str} {st : Hs} (h : x.length + y.length ≤ lim) : oAdd (.str x) (.str y) st = .ok (.str (x ++ y)) st := by
  show (if x.length + y.length ≤ lim then Re.ok (Wv.str (x ++ y)) st else .bad) = _
  rw [if_pos h]
theorem str_any {i : Int} {st : Hs} (h : i.natAbs.log2 < 1920) : oStr [.int i] st = .ok (.str (toString i : String)) st := by
  show (if _ then _ else _) = _
  rw [if_pos h]
theorem log_lt {i b : Int} {k : Nat} (h1 : -b ≤ i) (h2 : i ≤ b) (hb : b.natAbs < 2 ^ k) (hk : 0 < k) : i.natAbs.log2 < k := by
  by_cases e : i.natAbs = 0
  · rw [e]
    exact hk
  · exact (Nat.log2_lt e).mpr (by omega)
theorem strIx {z : PySem.Str} {d : Int} {st : Hs} (hz : z.length ≤ lim) (h0 : 0 ≤ d) (h1 : d < z.length) : ∃ ch : Nat, ∀ st : Hs, oIx (.str z) (.int d) st = .ok (.str ⟨#[ch]⟩) st := by
  obtain ⟨c, e, _⟩ := atI_some (ws := z.cps.toList) (d := d) h0 (by simpa [PySem.Str.length] using h1)
  refine ⟨c, fun st => ?_⟩
  show (if z.length ≤ lim then (match L2.atI z.cps.toList d with | some c => Re.ok (Wv.str ⟨#[c]⟩) st | none => .bad) else .bad) = _
  rw [if_pos hz, e]
theorem len_s {z : PySem.Str} {st : Hs} (h : z.length ≤ lim) : oLen [.str z] st = .ok (.int z.length) st := by
  show (if z.length ≤ lim then Re.ok (Wv.int z.length) st else .bad) = _
  rw [if_pos h]
def kMethS (mt : PySem.Str → List Wv → Hs → Re Wv) (ga : GA) (ρ : Rho) : Wv → Hs → Re Wv := fun o st1 => match o with
  | .str z => (ga ρ st1).bind fun ws st2 => (mt z ws st2).nox
  | _ => .bad
@[simp] theorem e_methS {mt : PySem.Str → List Wv → Hs → Re Wv} {go : GE} {ga : GA} {ρ : Rho} {st : Hs} : gMethS mt go ga ρ st = (go ρ st).bind (kMethS mt ga ρ) := rfl
@[simp] theorem kMethS_s {mt : PySem.Str → List Wv → Hs → Re Wv} {ga : GA} {ρ : Rho} {st : Hs} {z : PySem.Str} : kMethS mt ga ρ (.str z) st = (ga ρ st).bind fun ws st2 => (mt z ws st2).nox := rfl
@[simp] theorem abs_i {i : Int} {st : Hs} : oAbs [.int i] st = .ok (.int (if i < 0 then -i else i)) st := rfl
@[simp] theorem sum_l {l : Nat} {st : Hs} {ns : List Int} (h : lstOf st l = some (ns.map Wv.int)) : oSum [.ref l] st = .ok (.int ns.sum) st := by
  show (match lstOf st l with | some ws => (match intsOf ws with | some ns => Re.ok (Wv.int ns.sum) st | none => .bad) | none => .bad) = _
  rw [h]
  dsimp only
  rw [intsOf_map]
theorem join_l {l : Nat} {st : Hs} {z : PySem.Str} {ys : List PySem.Str} (h : lstOf st l = some (ys.map Wv.str)) (hz : (ys.map (·.length)).sum + ys.length * z.length ≤ 16777216) : mJoin z [.ref l] st = .ok (.str (Txt.join z ys)) st := by
  unfold mJoin
  simp only [h, strsOf_map]
  rw [if_pos hz]
theorem rng_mem {lo : Int} {n : Nat} {w : Wv} (h : w ∈ rngW lo n) : ∃ k : Int, w = .int k ∧ lo ≤ k ∧ k < lo + n := by
  unfold rngW at h
  obtain ⟨k, hk, rfl⟩ := List.mem_map.mp h
  have := List.mem_range.mp hk
  exact ⟨lo + k, rfl, by omega, by omega⟩
theorem crng {i : Int} (h1 : -1000000 ≤ i) (h2 : i ≤ 1000000) : CRng i := ⟨by omega, by omega⟩
theorem crngI {i : Int} (h1 : -1000000 ≤ i) (h2 : i ≤ 1000000) : -(2 ^ 64) < i ∧ i < 2 ^ 64 := ⟨by omega, by omega⟩
@[simp] theorem kCall_0 {F : List Wv → Hs → Re Wv} {st : Hs} : kCall 0 F [] st = F [] st := rfl
theorem e_alt1 {ga gb : GE} {ρ : Rho} {st : Hs} {w : Wv} {st' : Hs} (h : ga ρ st = .ok w st') : gAlt ga gb ρ st = .ok w st' := by unfold gAlt; rw [h]
theorem e_alt2 {ga gb : GE} {ρ : Rho} {st : Hs} (h : ga ρ st = .bad) : gAlt ga gb ρ st = gb ρ st := by unfold gAlt; rw [h]
/-! ### comprehensions by an invariant -/
theorem compG_inv {w : Wk} {gt : Wv → Hs → Re Bool} {ge : Wv → Hs → Re Wv} {rr : Nat} (P : Hs → Prop) (E : Wv → Prop) (hP : ∀ st acc, P st → P (st.set rr (.lst acc))) (hck : ∀ st, P st → ckOf w st) :
    ∀ (ws : List Wv), (∀ v ∈ ws, ∀ st acc, P st → st[rr]? = some (.lst acc) → ∃ st1, gt v st = .ok true st1 ∧ P st1 ∧ st1[rr]? = some (.lst acc) ∧ ∃ u st2, ge v st1 = .ok u st2 ∧ E u ∧ P st2 ∧ st2[rr]? = some (.lst acc)) →
      ∀ (acc : List Wv) (st : Hs), P st → st[rr]? = some (.lst acc) → acc.length + ws.length < lim → (∀ a ∈ acc, E a) → ∃ st' acc', compG (ckOf w) gt ge rr ws st = some st' ∧ P st' ∧ st'[rr]? = some (.lst acc') ∧ (∀ a ∈ acc', E a) ∧ acc'.length = acc.length + ws.length
  | [], _, acc, st, hp, hg, _, ha => ⟨st, acc, rfl, hp, hg, ha, rfl⟩
  | v :: r, step, acc, st, hp, hg, hl, ha => by
    obtain ⟨st1, e1, p1, g1, u, st2, e2, hu, p2, g2⟩ := step v List.mem_cons_self st acc hp hg
    have hl' : acc.length + (r.length + 1) < lim := hl
    obtain ⟨st3, acc3, f1, f2, f3, f4, f5⟩ := compG_inv P E hP hck r (fun v hv => step v (List.mem_cons_of_mem _ hv)) (acc ++ [u]) (st2.set rr (.lst (acc ++ [u]))) (hP _ _ p2) (set_get g2) (by simp; omega) (by
      intro a h
      rcases List.mem_append.mp h with z | z
      · exact ha a z
      · simp at z; rw [z]; exact hu)
    refine ⟨st3, acc3, ?_, f2, f3, f4, ?_⟩
    · unfold compG
      rw [e1]
      dsimp only
      rw [e2]
      dsimp only
      rw [app_l g2 (by omega)]
      dsimp only
      rw [if_pos (hck _ (hP _ _ p2)), f1]
    · rw [f5]; simp; omega
/-! ### what was there stays -/
def Gr (st st' : Hs) : Prop := st.length ≤ st'.length ∧ ∀ k, k < st.length → st'[k]? = st[k]?
theorem Gr.refl {st : Hs} : Gr st st := ⟨Nat.le_refl _, fun _ _ => rfl⟩
theorem Gr.trans {a b c : Hs} (h : Gr a b) (k : Gr b c) : Gr a c := ⟨Nat.le_trans h.1 k.1, fun j h1 => (k.2 j (Nat.lt_of_lt_of_le h1 h.1)).trans (h.2 j h1)⟩
theorem Gr.push {st : Hs} {o : Ob} : Gr st (st ++ [o]) := ⟨by simp, fun k h => List.getElem?_append_left h⟩
theorem Gr.app {st xs : Hs} : Gr st (st ++ xs) := ⟨by simp, fun k h => List.getElem?_append_left h⟩
theorem Gr.lst {st st' : Hs} (k : Gr st st') {j : Nat} {ws : List Wv} (h : lstOf st j = some ws) : lstOf st' j = some ws := by
  unfold lstOf at h ⊢
  rw [k.2 j (lstOf_lt (st := st) (ws := ws) (by unfold lstOf; exact h))]
  exact h
theorem Gr.get {st st' : Hs} (k : Gr st st') {j : Nat} {o : Ob} (h : st[j]? = some o) : st'[j]? = some o := by rw [k.2 j (get_lt h)]; exact h
theorem Gr.keep {st st' : Hs} {l : Nat} (k : Gr st st') : Keep l st st' := ⟨k.1, fun j h _ => k.2 j h⟩
/-- a list made new and then changed -/
theorem Keep.gr {st st' : Hs} {l : Nat} (h : st.length ≤ l) (k : Keep l st st') : Gr st st' := ⟨k.1, fun j h1 => k.2 j h1 (by omega)⟩
theorem Gr.keepAt {st s1 s2 : Hs} {l : Nat} (h : st.length ≤ l) (g : Gr st s1) (k : Keep l s1 s2) : Gr st s2 := ⟨Nat.le_trans g.1 k.1, fun j h1 => (k.2 j (Nat.lt_of_lt_of_le h1 g.1) (by omega)).trans (g.2 j h1)⟩
/-! ### loops over lists of what is known -/
theorem forL_map {α : Type} (f : α → Wv) {i : Nat} {gb : GS} {l : Nat} {all : List Wv} (full : List α) (P : List α → Rho → Hs → Prop)
    (step : ∀ a pre post ρ st, full = pre ++ a :: post → P pre ρ st → lstOf st l = some all → ∃ ρ' st', gb (ρ.set i (some (f a))) st = .nx ρ' st' ∧ lstOf st' l = some all ∧ P (pre ++ [a]) ρ' st') :
    ∀ (post pre : List α) (ρ : Rho) (st : Hs), full = pre ++ post → P pre ρ st → lstOf st l = some all → ∃ ρ' st', forL i gb l all (post.map f) ρ st = .nx ρ' st' ∧ P full ρ' st' ∧ lstOf st' l = some all
  | [], pre, ρ, st, hf, h, hl => ⟨ρ, st, rfl, by rw [hf]; simpa using h, hl⟩
  | a :: r, pre, ρ, st, hf, h, hl => by
    obtain ⟨ρ1, st1, e1, l1, p1⟩ := step a pre r ρ st hf h hl
    obtain ⟨ρ2, st2, e2, p2, l2⟩ := forL_map f full P step r (pre ++ [a]) ρ1 st1 (by rw [hf]; simp) p1 l1
    refine ⟨ρ2, st2, ?_, p2, l2⟩
    rw [List.map_cons]
    unfold forL
    rw [e1]
    simp only [if_pos l1]
    exact e2
theorem forT_map {α : Type} (f : α → Wv) {i : Nat} {gb : GS} (full : List α) (P : List α → Rho → Hs → Prop)
    (step : ∀ a pre post ρ st, full = pre ++ a :: post → P pre ρ st → ∃ ρ' st', gb (ρ.set i (some (f a))) st = .nx ρ' st' ∧ P (pre ++ [a]) ρ' st') :
    ∀ (post pre : List α) (ρ : Rho) (st : Hs), full = pre ++ post → P pre ρ st → ∃ ρ' st', forT i gb (post.map f) ρ st = .nx ρ' st' ∧ P full ρ' st'
  | [], pre, ρ, st, hf, h => ⟨ρ, st, rfl, by rw [hf]; simpa using h⟩
  | a :: r, pre, ρ, st, hf, h => by
    obtain ⟨ρ1, st1, e1, p1⟩ := step a pre r ρ st hf h
    obtain ⟨ρ2, st2, e2, p2⟩ := forT_map f full P step r (pre ++ [a]) ρ1 st1 (by rw [hf]; simp) p1
    refine ⟨ρ2, st2, ?_, p2⟩
    rw [List.map_cons]
    unfold forT
    rw [e1]
    exact e2
theorem compG_map {α : Type} {w : Wk} {gt : Wv → Hs → Re Bool} {ge : Wv → Hs → Re Wv} {rr : Nat} (f : α → Wv) (P : Hs → Prop) (E : α → Wv → Prop) (hP : ∀ st acc, P st → P (st.set rr (.lst acc))) (hck : ∀ st, P st → ckOf w st) :
    ∀ (ws : List α), (∀ v ∈ ws, ∀ st acc, P st → st[rr]? = some (.lst acc) → ∃ st1, gt (f v) st = .ok true st1 ∧ P st1 ∧ st1[rr]? = some (.lst acc) ∧ ∃ u st2, ge (f v) st1 = .ok u st2 ∧ E v u ∧ P st2 ∧ st2[rr]? = some (.lst acc)) →
      ∀ (acc : List Wv) (st : Hs), P st → st[rr]? = some (.lst acc) → acc.length + ws.length < lim → ∃ st' us, compG (ckOf w) gt ge rr (ws.map f) st = some st' ∧ P st' ∧ st'[rr]? = some (.lst (acc ++ us)) ∧ us.length = ws.length ∧ ∀ k (h : k < ws.length) (h' : k < us.length), E ws[k] us[k]
  | [], _, acc, st, hp, hg, _ => ⟨st, [], rfl, hp, by simpa using hg, rfl, fun k h => by cases h⟩
  | v :: r, step, acc, st, hp, hg, hl => by
    obtain ⟨st1, e1, p1, g1, u, st2, e2, hu, p2, g2⟩ := step v List.mem_cons_self st acc hp hg
    have hl' : acc.length + (r.length + 1) < lim := hl
    obtain ⟨st3, us, f1, f2, f3, f4, f5⟩ := compG_map f P E hP hck r (fun v hv => step v (List.mem_cons_of_mem _ hv)) (acc ++ [u]) (st2.set rr (.lst (acc ++ [u]))) (hP _ _ p2) (set_get g2) (by simp; omega)
    refine ⟨st3, u :: us, ?_, f2, by simpa using f3, by simp [f4], fun k h h' => ?_⟩
    · rw [List.map_cons]
      unfold compG
      rw [e1]
      dsimp only
      rw [e2]
      dsimp only
      rw [app_l g2 (by omega)]
      dsimp only
      rw [if_pos (hck _ (hP _ _ p2)), f1]
    · cases k with
      | zero => exact hu
      | succ k => exact f5 k (by simpa using h) (by simpa using h')
theorem eqv_i {i : Int} : PyData.eqv (.int i) (.int i) = true := by simp [PyData.eqv]
theorem eqv_s {x : PySem.Str} : PyData.eqv (.str x) (.str x) = true := by simp [PyData.eqv]
theorem eqv_ss {x y : PySem.Str} : PyData.eqv (.tuple [.str x, .str y]) (.tuple [.str x, .str y]) = true := by simp [PyData.eqv, PyData.eqvAll]
theorem ne_dat {st : Hs} {x y : Wv} {d : PyData} (h1 : datum st 20 x = some d) (h2 : datum st 20 y = some d) (h : PyData.eqv d d = true) : oNe x y st = .ok (.bl false) st := by
  unfold oNe
  rw [h1, h2]
  show Re.ok (Wv.bl (!PyData.eqv d d)) st = _
  rw [h]
  rfl
theorem eq_dat {st : Hs} {x y : Wv} {d : PyData} (h1 : datum st 20 x = some d) (h2 : datum st 20 y = some d) (h : PyData.eqv d d = true) : oEq x y st = .ok (.bl true) st := by
  unfold oEq
  rw [h1, h2]
  show Re.ok (Wv.bl (PyData.eqv d d)) st = _
  rw [h]
theorem dat_l {st : Hs} {n l : Nat} {ws : List Wv} (h : lstOf st l = some ws) : datum st (n + 1) (.ref l) = (mapO (datum st n) ws).map PyData.list := by
  show (match lstOf st l with | some ws => (mapO (datum st n) ws).map PyData.list | none => none) = _
  rw [h]
theorem ne_ii {i : Int} {st : Hs} : oNe (.int i) (.int i) st = .ok (.bl false) st := ne_dat rfl rfl eqv_i
theorem ne_ff {x y : PySem.Str} {st : Hs} : oNe (.tup [.str x, .str y]) (.tup [.str x, .str y]) st = .ok (.bl false) st := ne_dat rfl rfl eqv_ss
theorem cutW_map' {α : Type} {f : α → Wv} {xs : List α} {lo hi : Option Int} : ∃ ys : List α, cutW (xs.map f) lo hi = ys.map f ∧ ys.length ≤ xs.length := by
  unfold cutW
  rw [← List.map_drop, ← List.map_take]
  exact ⟨_, rfl, by simp; omega⟩
theorem srt_l {l : Nat} {st : Hs} {ns : List Int} (h : lstOf st l = some (ns.map Wv.int)) (hn : ns.length < 64) : oSrt [.ref l] st = .ok (.ref st.length) (st ++ [.lst ((srtI ns).map Wv.int)]) := by
  unfold oSrt
  simp only [h, intsOf_map]
  rw [if_pos hn]
theorem max_l {l : Nat} {st : Hs} {n : Int} {ns : List Int} (h : lstOf st l = some ((n :: ns).map Wv.int)) : oMax2 [.ref l] st = .ok (.int (mxI n ns)) st := by
  unfold oMax2
  simp only [h, intsOf_map]
theorem min_l {l : Nat} {st : Hs} {n : Int} {ns : List Int} (h : lstOf st l = some ((n :: ns).map Wv.int)) : oMin2 [.ref l] st = .ok (.int (mnI n ns)) st := by
  unfold oMin2
  simp only [h, intsOf_map]
@[simp] theorem max_2 {i j : Int} {st : Hs} : oMax2 [.int i, .int j] st = .ok (.int (if j > i then j else i)) st := rfl
@[simp] theorem min_2 {i j : Int} {st : Hs} : oMin2 [.int i, .int j] st = .ok (.int (if j < i then j else i)) st := rfl
theorem sum_perm {a b : List Int} (h : a.Perm b) : a.sum = b.sum := by
  induction h with
  | nil => rfl
  | cons x _ ih => simp [ih]
  | swap x y l => simp only [List.sum_cons]; omega
  | trans _ _ h1 h2 => exact h1.trans h2
theorem srt_head {n : Int} {r : List Int} {a : Int} {t : List Int} (h : srtI (n :: r) = a :: t) : a = mnI n r := by
  have hp := srtI_perm (n :: r)
  have hs := srtI_srt (n :: r)
  rw [h] at hp hs
  rw [List.pairwise_cons] at hs
  refine mn_eq (hp.mem_iff.mp List.mem_cons_self) fun b hb => ?_
  rcases List.mem_cons.mp (hp.mem_iff.mpr hb) with z | z
  · omega
  · exact hs.1 b z
theorem srt_last {n : Int} {r : List Int} {a : Int} {t : List Int} (h : srtI (n :: r) = t ++ [a]) : a = mxI n r := by
  have hp := srtI_perm (n :: r)
  have hs := srtI_srt (n :: r)
  rw [h] at hp hs
  rw [List.pairwise_append] at hs
  refine mx_eq (hp.mem_iff.mp (by simp)) fun b hb => ?_
  rcases List.mem_append.mp (hp.mem_iff.mpr hb) with z | z
  · exact hs.2.2 b z a (by simp)
  · simp at z; omega
theorem atI_0 {α : Type} {a : α} {r : List α} : L2.atI (a :: r) 0 = some a := L2.atI_nat (j := 0) rfl
theorem atI_last {α : Type} {t : List α} {a : α} : L2.atI (t ++ [a]) (-1) = some a := by
  unfold L2.atI L2.ixN
  simp
  rw [if_pos (by omega)]
  have e : (-1 + ((t.length : Int) + 1)).toNat = t.length := by omega
  simp [e]
end J

set_option Elab.async false
set_option linter.all false
set_option maxRecDepth 100000
set_option maxHeartbeats 4000000
namespace K45
open PySem J
open L2 (defScope defBody defArgs FnScope CX0 FnOk XK Hp)
def top (i : Nat) : Stmt := PySem.Challenge.pw_onelook_k45_areas_moved.main.body.getD i (.Pass ⟨0, 0, 0, 0⟩)
def tbl : Tab := [(("BadArea", "BadArea"), true)]
def tblT : TabT := [(("BadArea", "ValueError"), true)]
abbrev s__law_pot : Stmt := top 29
noncomputable def g__law_pot : GS := (gRet (gLst (gCons (gVar 0) (gCons (gBin oAdd (gBin oMod (gVar 0) (gC (.int 1000000007))) (gC (.int 1))) gNil))))
noncomputable def F__law_pot : List Wv → Hs → Re Wv := fnF 1 g__law_pot
noncomputable def c__law_pot : Ct where
  N := ["cell"]
  names := (defScope s__law_pot).names
  consts := []
  bl := []
  fns := []
  tb := tbl
  tt := tblT
  clss := []
theorem r__law_pot : compS 30 c__law_pot (defBody s__law_pot) = g__law_pot := by kernel_rfl
theorem sc__law_pot : FnScope (c__law_pot).N ["cell"] (defScope s__law_pot) := ⟨rfl, rfl, rfl, by decide +kernel, rfl, by decide +kernel, by decide +kernel⟩
abbrev s__law_most : Stmt := top 30
noncomputable def g__law_most : GS := (gRet (gBin oIx (gLst (gCons (gC (.int 26)) (gCons (gC (.int 99)) gNil))) (gCallB oInt2 (gCons (gBin oEq (gSlice2 (gVar 0) gNoPart (gPart (gC (.int 4)))) (gC (.str "rows"))) gNil))))
noncomputable def F__law_most : List Wv → Hs → Re Wv := fnF 1 g__law_most
noncomputable def c__law_most : Ct where
  N := ["way"]
  names := (defScope s__law_most).names
  consts := []
  bl := ["int"]
  fns := []
  tb := tbl
  tt := tblT
  clss := []
theorem r__law_most : compS 30 c__law_most (defBody s__law_most) = g__law_most := by kernel_rfl
theorem sc__law_most : FnScope (c__law_most).N ["way"] (defScope s__law_most) := ⟨rfl, rfl, rfl, by decide +kernel, rfl, by decide +kernel, by decide +kernel⟩
abbrev s__law_take : Stmt := top 28
noncomputable def g__law_take : GS := (gSeq (gIf (gTst (gBin oGt (gBin oIx (gVar 0) (gC (.int 0))) (gC (.int 0)))) (gSeq (gSet 2 (gBin oMod (gBin oIx (gVar 0) (gC (.int 0))) (gVar 1)))
    (gSeq (gSetI (gBin oFdiv (gBin oIx (gVar 0) (gC (.int 0))) (gVar 1)) (gVar 0) (gC (.int 0)))
    (gRet (gVar 2)))) gNext)
  (gSeq (gSetI (gBin oMod (gBin oAdd (gBin oMulL (gBin oIx (gVar 0) (gC (.int 1))) (gC (.int 48271))) (gC (.int 11))) (gC (.int 2147483647))) (gVar 0) (gC (.int 1)))
  (gRet (gBin oMod (gBin oFdiv (gBin oMod (gBin oMulL (gBin oIx (gVar 0) (gC (.int 1))) (gBin oIx (gVar 0) (gC (.int 1)))) (gC (.int 2147483629))) (gC (.int 8))) (gVar 1)))))
noncomputable def F__law_take : List Wv → Hs → Re Wv := fnF 3 g__law_take
noncomputable def c__law_take : Ct where
  N := ["pot", "many", "digit"]
  names := (defScope s__law_take).names
  consts := []
  bl := []
  fns := []
  tb := tbl
  tt := tblT
  clss := []
theorem r__law_take : compS 30 c__law_take (defBody s__law_take) = g__law_take := by kernel_rfl
theorem sc__law_take : FnScope (c__law_take).N ["pot", "many"] (defScope s__law_take) := ⟨rfl, rfl, rfl, by decide +kernel, rfl, by decide +kernel, by decide +kernel⟩
abbrev s__law_shift : Stmt := top 32
noncomputable def g__law_shift : GS := (gSeq (gSet 1 (gBin oIx (gLst (gCons (gC (.str "rows in")) (gCons (gC (.str "rows out")) (gCons (gC (.str "columns in")) (gCons (gC (.str "columns out")) gNil))))) (gCall 2 F__law_take (gCons (gVar 0) (gCons (gC (.int 4)) gNil)))))
  (gSeq (gSet 2 (gCall 1 F__law_most (gCons (gVar 1) gNil)))
  (gSeq (gSet 3 (gCall 2 F__law_take (gCons (gVar 0) (gCons (gC (.int 12)) gNil))))
  (gSeq (gIf (gTst (gBin oEq (gCall 2 F__law_take (gCons (gVar 0) (gCons (gC (.int 3)) gNil))) (gC (.int 0)))) (gSet 3 (gCall 2 F__law_take (gCons (gVar 0) (gCons (gVar 2) gNil)))) gNext)
  (gSeq (gSet 4 (gBin oAdd (gC (.int 1)) (gCall 2 F__law_take (gCons (gVar 0) (gCons (gC (.int 5)) gNil)))))
  (gSeq (gIf (gTst (gBin oEq (gCall 2 F__law_take (gCons (gVar 0) (gCons (gC (.int 6)) gNil))) (gC (.int 0)))) (gSet 4 (gBin oAdd (gC (.int 1)) (gCall 2 F__law_take (gCons (gVar 0) (gCons (gVar 2) gNil))))) gNext)
  (gSeq (gIf (gTst (gBin oEq (gSlice2 (gVar 1) (gPart (gUn opNeg (gC (.int 3)))) gNoPart) (gC (.str "out")))) (gSet 4 (gCallB oMin2 (gCons (gVar 4) (gCons (gBin oSub (gVar 2) (gVar 3)) gNil)))) gNext)
  (gRet (gTup (gCons (gVar 1) (gCons (gVar 3) (gCons (gVar 4) gNil))))))))))))
noncomputable def F__law_shift : List Wv → Hs → Re Wv := fnF 5 g__law_shift
noncomputable def c__law_shift : Ct where
  N := ["pot", "way", "most", "at", "many"]
  names := (defScope s__law_shift).names
  consts := []
  bl := ["min"]
  fns := [("_law_most", 1, F__law_most), ("_law_take", 2, F__law_take)]
  tb := tbl
  tt := tblT
  clss := []
theorem r__law_shift : compS 30 c__law_shift (defBody s__law_shift) = g__law_shift := by kernel_rfl
theorem sc__law_shift : FnScope (c__law_shift).N ["pot"] (defScope s__law_shift) := ⟨rfl, rfl, rfl, by decide +kernel, rfl, by decide +kernel, by decide +kernel⟩
abbrev s_is_of_rows : Stmt := top 20
noncomputable def g_is_of_rows : GS := (gRet (gBin oIn2 (gBin oIx (gVar 0) (gC (.int 0))) (gC (.tup [.str "rows in", .str "rows out"]))))
noncomputable def F_is_of_rows : List Wv → Hs → Re Wv := fnF 1 g_is_of_rows
noncomputable def c_is_of_rows : Ct where
  N := ["shift"]
  names := (defScope s_is_of_rows).names
  consts := [("ROW_WAYS", (.tup [.str "rows in", .str "rows out"]))]
  bl := []
  fns := []
  tb := tbl
  tt := tblT
  clss := []
theorem r_is_of_rows : compS 30 c_is_of_rows (defBody s_is_of_rows) = g_is_of_rows := by kernel_rfl
theorem sc_is_of_rows : FnScope (c_is_of_rows).N ["shift"] (defScope s_is_of_rows) := ⟨rfl, rfl, rfl, by decide +kernel, rfl, by decide +kernel, by decide +kernel⟩
abbrev s_is_in : Stmt := top 19
noncomputable def g_is_in : GS := (gRet (gBin oIn2 (gBin oIx (gVar 0) (gC (.int 0))) (gC (.tup [.str "rows in", .str "columns in"]))))
noncomputable def F_is_in : List Wv → Hs → Re Wv := fnF 1 g_is_in
noncomputable def c_is_in : Ct where
  N := ["shift"]
  names := (defScope s_is_in).names
  consts := [("IN_WAYS", (.tup [.str "rows in", .str "columns in"]))]
  bl := []
  fns := []
  tb := tbl
  tt := tblT
  clss := []
theorem r_is_in : compS 30 c_is_in (defBody s_is_in) = g_is_in := by kernel_rfl
theorem sc_is_in : FnScope (c_is_in).N ["shift"] (defScope s_is_in) := ⟨rfl, rfl, rfl, by decide +kernel, rfl, by decide +kernel, by decide +kernel⟩
abbrev s_is_taken : Stmt := top 21
noncomputable def g_is_taken : GS := (gRet (gAndV (gNotV (gCall 1 F_is_in (gCons (gVar 0) gNil))) (gChain oLe oLt (gBin oIx (gVar 0) (gC (.int 1))) (gVar 1) (gBin oAdd (gBin oIx (gVar 0) (gC (.int 1))) (gBin oIx (gVar 0) (gC (.int 2)))))))
noncomputable def F_is_taken : List Wv → Hs → Re Wv := fnF 2 g_is_taken
noncomputable def c_is_taken : Ct where
  N := ["shift", "line"]
  names := (defScope s_is_taken).names
  consts := []
  bl := []
  fns := [("is_in", 1, F_is_in)]
  tb := tbl
  tt := tblT
  clss := []
theorem r_is_taken : compS 30 c_is_taken (defBody s_is_taken) = g_is_taken := by kernel_rfl
theorem sc_is_taken : FnScope (c_is_taken).N ["shift", "line"] (defScope s_is_taken) := ⟨rfl, rfl, rfl, by decide +kernel, rfl, by decide +kernel, by decide +kernel⟩
abbrev s_moved_line : Stmt := top 22
noncomputable def g_moved_line : GS := (gSeq (gIf (gTru (gCall 2 F_is_taken (gCons (gVar 0) (gCons (gVar 1) gNil)))) (gRet (gC .non)) gNext)
  (gSeq (gIf (gTst (gBin oLt (gVar 1) (gBin oIx (gVar 0) (gC (.int 1))))) (gRet (gVar 1)) gNext)
  (gSeq (gIf (gNot (gTru (gCall 1 F_is_in (gCons (gVar 0) gNil)))) (gRet (gBin oSub (gVar 1) (gBin oIx (gVar 0) (gC (.int 2))))) gNext)
  (gSeq (gSet 2 (gIfE (gTru (gCall 1 F_is_of_rows (gCons (gVar 0) gNil))) (gC (.int 99)) (gC (.int 26))))
  (gRet (gIfE (gTst (gBin oLt (gBin oAdd (gVar 1) (gBin oIx (gVar 0) (gC (.int 2)))) (gVar 2))) (gBin oAdd (gVar 1) (gBin oIx (gVar 0) (gC (.int 2)))) (gC .non)))))))
noncomputable def F_moved_line : List Wv → Hs → Re Wv := fnF 3 g_moved_line
noncomputable def c_moved_line : Ct where
  N := ["shift", "line", "lines"]
  names := (defScope s_moved_line).names
  consts := [("ROWS", (.int 99)), ("COLUMNS", (.int 26))]
  bl := []
  fns := [("is_taken", 2, F_is_taken), ("is_in", 1, F_is_in), ("is_of_rows", 1, F_is_of_rows)]
  tb := tbl
  tt := tblT
  clss := []
theorem r_moved_line : compS 30 c_moved_line (defBody s_moved_line) = g_moved_line := by kernel_rfl
theorem sc_moved_line : FnScope (c_moved_line).N ["shift", "line"] (defScope s_moved_line) := ⟨rfl, rfl, rfl, by decide +kernel, rfl, by decide +kernel, by decide +kernel⟩
abbrev s_moved_ends : Stmt := top 26
noncomputable def g_moved_ends_C1t : GT := (gNot (gTru (gCall 2 F_is_taken (gCons (gVar 1) (gCons (gVar 0) gNil)))))
noncomputable def g_moved_ends_C1e : GE := (gVar 0)
noncomputable def g_moved_ends : GS := (gSeq (gSet 3 (gComp [("shift", 0)] (giR2 (gCons (gVar 1) (gCons (gBin oAdd (gVar 2) (gC (.int 1))) gNil))) g_moved_ends_C1t g_moved_ends_C1e))
  (gSeq (gIf (gNot (gTru (gVar 3))) (gRet (gC .non)) gNext)
  (gSeq (gSet 4 (gTup (gCons (gCall 2 F_moved_line (gCons (gVar 0) (gCons (gBin oIx (gVar 3) (gC (.int 0))) gNil))) (gCons (gCall 2 F_moved_line (gCons (gVar 0) (gCons (gBin oIx (gVar 3) (gUn opNeg (gC (.int 1)))) gNil))) gNil))))
  (gRet (gIfE (gTst (gBin oIn2 (gC .non) (gVar 4))) (gC .non) (gVar 4))))))
noncomputable def F_moved_ends : List Wv → Hs → Re Wv := fnF 5 g_moved_ends
noncomputable def c_moved_ends : Ct where
  N := ["shift", "first", "last", "left", "ends"]
  names := (defScope s_moved_ends).names
  consts := []
  bl := ["range"]
  fns := [("moved_line", 2, F_moved_line), ("is_taken", 2, F_is_taken)]
  tb := tbl
  tt := tblT
  clss := []
theorem r_moved_ends : compS 30 c_moved_ends (defBody s_moved_ends) = g_moved_ends := by kernel_rfl
theorem sc_moved_ends : FnScope (c_moved_ends).N ["shift", "first", "last"] (defScope s_moved_ends) := ⟨rfl, rfl, rfl, by decide +kernel, rfl, by decide +kernel, by decide +kernel⟩
abbrev s_area_with_ends : Stmt := top 25
noncomputable def g_area_with_ends : GS := (gSeq (gIf (gTru (gCall 1 F_is_of_rows (gCons (gVar 0) gNil))) (gSeq (gSet 2 (gCall 3 F_moved_ends (gCons (gVar 0) (gCons (gBin oIx (gVar 1) (gC (.int 0))) (gCons (gBin oIx (gVar 1) (gC (.int 2))) gNil)))))
    (gRet (gIfE (gTst (gBin oIs (gVar 2) (gC .non))) (gC .non) (gTup (gCons (gBin oIx (gVar 2) (gC (.int 0))) (gCons (gBin oIx (gVar 1) (gC (.int 1))) (gCons (gBin oIx (gVar 2) (gC (.int 1))) (gCons (gBin oIx (gVar 1) (gC (.int 3))) gNil)))))))) gNext)
  (gSeq (gSet 2 (gCall 3 F_moved_ends (gCons (gVar 0) (gCons (gBin oIx (gVar 1) (gC (.int 1))) (gCons (gBin oIx (gVar 1) (gC (.int 3))) gNil)))))
  (gRet (gIfE (gTst (gBin oIs (gVar 2) (gC .non))) (gC .non) (gTup (gCons (gBin oIx (gVar 1) (gC (.int 0))) (gCons (gBin oIx (gVar 2) (gC (.int 0))) (gCons (gBin oIx (gVar 1) (gC (.int 2))) (gCons (gBin oIx (gVar 2) (gC (.int 1))) gNil)))))))))
noncomputable def F_area_with_ends : List Wv → Hs → Re Wv := fnF 3 g_area_with_ends
noncomputable def c_area_with_ends : Ct where
  N := ["shift", "area", "ends"]
  names := (defScope s_area_with_ends).names
  consts := []
  bl := []
  fns := [("is_of_rows", 1, F_is_of_rows), ("moved_ends", 3, F_moved_ends)]
  tb := tbl
  tt := tblT
  clss := []
theorem r_area_with_ends : compS 30 c_area_with_ends (defBody s_area_with_ends) = g_area_with_ends := by kernel_rfl
theorem sc_area_with_ends : FnScope (c_area_with_ends).N ["shift", "area"] (defScope s_area_with_ends) := ⟨rfl, rfl, rfl, by decide +kernel, rfl, by decide +kernel, by decide +kernel⟩
abbrev s_is_place : Stmt := top 7
noncomputable def g_is_place : GS := (gRet (gAndV (gChain oLe oLt (gC (.int 0)) (gBin oIx (gVar 0) (gC (.int 0))) (gC (.int 99))) (gChain oLe oLt (gC (.int 0)) (gBin oIx (gVar 0) (gC (.int 1))) (gC (.int 26)))))
noncomputable def F_is_place : List Wv → Hs → Re Wv := fnF 1 g_is_place
noncomputable def c_is_place : Ct where
  N := ["place"]
  names := (defScope s_is_place).names
  consts := [("ROWS", (.int 99)), ("COLUMNS", (.int 26))]
  bl := []
  fns := []
  tb := tbl
  tt := tblT
  clss := []
theorem r_is_place : compS 30 c_is_place (defBody s_is_place) = g_is_place := by kernel_rfl
theorem sc_is_place : FnScope (c_is_place).N ["place"] (defScope s_is_place) := ⟨rfl, rfl, rfl, by decide +kernel, rfl, by decide +kernel, by decide +kernel⟩
abbrev s_has_corners : Stmt := top 12
noncomputable def g_has_corners : GS := (gSeq (gSet 1 (gAndV (gBin oLe (gBin oIx (gVar 0) (gC (.int 0))) (gBin oIx (gVar 0) (gC (.int 2)))) (gBin oLe (gBin oIx (gVar 0) (gC (.int 1))) (gBin oIx (gVar 0) (gC (.int 3))))))
  (gRet (gAndV (gVar 1) (gAndV (gCall 1 F_is_place (gCons (gSlice2 (gVar 0) gNoPart (gPart (gC (.int 2)))) gNil)) (gCall 1 F_is_place (gCons (gSlice2 (gVar 0) (gPart (gC (.int 2))) gNoPart) gNil))))))
noncomputable def F_has_corners : List Wv → Hs → Re Wv := fnF 2 g_has_corners
noncomputable def c_has_corners : Ct where
  N := ["area", "in_order"]
  names := (defScope s_has_corners).names
  consts := []
  bl := []
  fns := [("is_place", 1, F_is_place)]
  tb := tbl
  tt := tblT
  clss := []
theorem r_has_corners : compS 30 c_has_corners (defBody s_has_corners) = g_has_corners := by kernel_rfl
theorem sc_has_corners : FnScope (c_has_corners).N ["area"] (defScope s_has_corners) := ⟨rfl, rfl, rfl, by decide +kernel, rfl, by decide +kernel, by decide +kernel⟩
abbrev s_area_many : Stmt := top 13
noncomputable def g_area_many : GS := (gRet (gBin oMulL (gBin oAdd (gBin oSub (gBin oIx (gVar 0) (gC (.int 2))) (gBin oIx (gVar 0) (gC (.int 0)))) (gC (.int 1))) (gBin oAdd (gBin oSub (gBin oIx (gVar 0) (gC (.int 3))) (gBin oIx (gVar 0) (gC (.int 1)))) (gC (.int 1)))))
noncomputable def F_area_many : List Wv → Hs → Re Wv := fnF 1 g_area_many
noncomputable def c_area_many : Ct where
  N := ["area"]
  names := (defScope s_area_many).names
  consts := []
  bl := []
  fns := []
  tb := tbl
  tt := tblT
  clss := []
theorem r_area_many : compS 30 c_area_many (defBody s_area_many) = g_area_many := by kernel_rfl
theorem sc_area_many : FnScope (c_area_many).N ["area"] (defScope s_area_many) := ⟨rfl, rfl, rfl, by decide +kernel, rfl, by decide +kernel, by decide +kernel⟩
abbrev s_is_area : Stmt := top 11
noncomputable def g_is_area : GS := (gRet (gAndV (gCall 1 F_has_corners (gCons (gVar 0) gNil)) (gBin oLe (gCall 1 F_area_many (gCons (gVar 0) gNil)) (gC (.int 300)))))
noncomputable def F_is_area : List Wv → Hs → Re Wv := fnF 1 g_is_area
noncomputable def c_is_area : Ct where
  N := ["area"]
  names := (defScope s_is_area).names
  consts := [("MOST_PLACES", (.int 300))]
  bl := []
  fns := [("has_corners", 1, F_has_corners), ("area_many", 1, F_area_many)]
  tb := tbl
  tt := tblT
  clss := []
theorem r_is_area : compS 30 c_is_area (defBody s_is_area) = g_is_area := by kernel_rfl
theorem sc_is_area : FnScope (c_is_area).N ["area"] (defScope s_is_area) := ⟨rfl, rfl, rfl, by decide +kernel, rfl, by decide +kernel, by decide +kernel⟩
abbrev s_moved_area : Stmt := top 24
noncomputable def g_moved_area : GS := (gSeq (gSet 2 (gCall 2 F_area_with_ends (gCons (gVar 0) (gCons (gVar 1) gNil))))
  (gRet (gIfE (gAnd (gTst (gBin oIsNot (gVar 2) (gC .non))) (gTru (gCall 1 F_is_area (gCons (gVar 2) gNil)))) (gVar 2) (gC .non))))
noncomputable def F_moved_area : List Wv → Hs → Re Wv := fnF 3 g_moved_area
noncomputable def c_moved_area : Ct where
  N := ["shift", "area", "area_now"]
  names := (defScope s_moved_area).names
  consts := []
  bl := []
  fns := [("area_with_ends", 2, F_area_with_ends), ("is_area", 1, F_is_area)]
  tb := tbl
  tt := tblT
  clss := []
theorem r_moved_area : compS 30 c_moved_area (defBody s_moved_area) = g_moved_area := by kernel_rfl
theorem sc_moved_area : FnScope (c_moved_area).N ["shift", "area"] (defScope s_moved_area) := ⟨rfl, rfl, rfl, by decide +kernel, rfl, by decide +kernel, by decide +kernel⟩
abbrev s_places_between : Stmt := top 15
noncomputable def g_places_between_C1t : GT := (fun _ st => .ok true st)
noncomputable def g_places_between_C1e : GE := (gTup (gCons (gVar 1) (gCons (gVar 0) gNil)))
noncomputable def g_places_between_L1 : GS := (gExpr (gMeth mExt (gVar 1) (gComp [("row", 2)] (giR2 (gCons (gBin oIx (gVar 0) (gC (.int 1))) (gCons (gBin oAdd (gBin oIx (gVar 0) (gC (.int 3))) (gC (.int 1))) gNil))) g_places_between_C1t g_places_between_C1e)))
noncomputable def g_places_between : GS := (gSeq (gSet 1 (gLst gNil))
  (gSeq (gForR2 2 (gCons (gBin oIx (gVar 0) (gC (.int 0))) (gCons (gBin oAdd (gBin oIx (gVar 0) (gC (.int 2))) (gC (.int 1))) gNil)) g_places_between_L1)
  (gRet (gVar 1))))
noncomputable def F_places_between : List Wv → Hs → Re Wv := fnF 3 g_places_between
noncomputable def c_places_between : Ct where
  N := ["area", "places", "row"]
  names := (defScope s_places_between).names
  consts := []
  bl := ["range"]
  fns := []
  tb := tbl
  tt := tblT
  clss := []
theorem r_places_between : compS 30 c_places_between (defBody s_places_between) = g_places_between := by kernel_rfl
theorem sc_places_between : FnScope (c_places_between).N ["area"] (defScope s_places_between) := ⟨rfl, rfl, rfl, by decide +kernel, rfl, by decide +kernel, by decide +kernel⟩
abbrev s_made_area : Stmt := top 10
noncomputable def g_made_area : GS := (gSeq (gSet 4 (gTup (gCons (gVar 0) (gCons (gVar 1) (gCons (gVar 2) (gCons (gVar 3) gNil))))))
  (gSeq (gIf (gNot (gTru (gCall 1 F_is_area (gCons (gVar 4) gNil)))) (gRaise "BadArea" (gCons (gC (.str "corners that are none, or more than 300 places")) gNil)) gNext)
  (gRet (gVar 4))))
noncomputable def F_made_area : List Wv → Hs → Re Wv := fnF 5 g_made_area
noncomputable def c_made_area : Ct where
  N := ["top", "left", "bottom", "right", "area"]
  names := (defScope s_made_area).names
  consts := []
  bl := []
  fns := [("is_area", 1, F_is_area)]
  tb := tbl
  tt := tblT
  clss := ["BadArea"]
theorem r_made_area : compS 30 c_made_area (defBody s_made_area) = g_made_area := by kernel_rfl
theorem sc_made_area : FnScope (c_made_area).N ["top", "left", "bottom", "right"] (defScope s_made_area) := ⟨rfl, rfl, rfl, by decide +kernel, rfl, by decide +kernel, by decide +kernel⟩
abbrev s_area_places : Stmt := top 14
noncomputable def g_area_places : GS := (gRet (gCall 1 F_places_between (gCons (gCall 4 F_made_area (gCons (gBin oIx (gVar 0) (gC (.int 0))) (gCons (gBin oIx (gVar 0) (gC (.int 1))) (gCons (gBin oIx (gVar 0) (gC (.int 2))) (gCons (gBin oIx (gVar 0) (gC (.int 3))) gNil))))) gNil)))
noncomputable def F_area_places : List Wv → Hs → Re Wv := fnF 1 g_area_places
noncomputable def c_area_places : Ct where
  N := ["area"]
  names := (defScope s_area_places).names
  consts := []
  bl := []
  fns := [("places_between", 1, F_places_between), ("made_area", 4, F_made_area)]
  tb := tbl
  tt := tblT
  clss := []
theorem r_area_places : compS 30 c_area_places (defBody s_area_places) = g_area_places := by kernel_rfl
theorem sc_area_places : FnScope (c_area_places).N ["area"] (defScope s_area_places) := ⟨rfl, rfl, rfl, by decide +kernel, rfl, by decide +kernel, by decide +kernel⟩
abbrev s__law_line : Stmt := top 31
noncomputable def g__law_line : GS := (gSeq (gSetT [2, 3, 4] (gVar 0))
  (gSeq (gIf (gTst (gBin oLt (gVar 1) (gVar 3))) (gRet (gVar 1)) gNext)
  (gSeq (gIf (gTst (gBin oEq (gSlice2 (gVar 2) (gPart (gUn opNeg (gC (.int 2)))) gNoPart) (gC (.str "in")))) (gRet (gBin oIx (gLst (gCons (gC .non) (gCons (gBin oAdd (gVar 1) (gVar 4)) gNil))) (gCallB oInt2 (gCons (gBin oLt (gBin oAdd (gVar 1) (gVar 4)) (gCall 1 F__law_most (gCons (gVar 2) gNil))) gNil)))) gNext)
  (gRet (gBin oIx (gLst (gCons (gBin oSub (gVar 1) (gVar 4)) (gCons (gC .non) gNil))) (gCallB oInt2 (gCons (gBin oLt (gVar 1) (gBin oAdd (gVar 3) (gVar 4))) gNil)))))))
noncomputable def F__law_line : List Wv → Hs → Re Wv := fnF 5 g__law_line
noncomputable def c__law_line : Ct where
  N := ["shift", "line", "way", "at", "many"]
  names := (defScope s__law_line).names
  consts := []
  bl := ["int"]
  fns := [("_law_most", 1, F__law_most)]
  tb := tbl
  tt := tblT
  clss := []
theorem r__law_line : compS 30 c__law_line (defBody s__law_line) = g__law_line := by kernel_rfl
theorem sc__law_line : FnScope (c__law_line).N ["shift", "line"] (defScope s__law_line) := ⟨rfl, rfl, rfl, by decide +kernel, rfl, by decide +kernel, by decide +kernel⟩
abbrev s__law_ends : Stmt := top 36
noncomputable def g__law_ends_C1t : GT := (gTst (gBin oIsNot (gVar 0) (gC .non)))
noncomputable def g__law_ends_C1e : GE := (gVar 0)
noncomputable def g__law_ends_C2t : GT := (fun _ st => .ok true st)
noncomputable def g__law_ends_C2e : GE := (gCall 2 F__law_line (gCons (gVar 1) (gCons (gVar 0) gNil)))
noncomputable def g__law_ends : GS := (gSeq (gSet 3 (gComp [("shift", 0)] (giR2 (gCons (gVar 1) (gCons (gBin oAdd (gVar 2) (gC (.int 1))) gNil))) g__law_ends_C2t g__law_ends_C2e))
  (gSeq (gIf (gAnd (gTst (gBin oEq (gSlice2 (gBin oIx (gVar 0) (gC (.int 0))) (gPart (gUn opNeg (gC (.int 2)))) gNoPart) (gC (.str "in")))) (gTst (gBin oIn2 (gC .non) (gVar 3)))) (gRet (gC .non)) gNext)
  (gSeq (gSet 3 (gComp [] (giSeq2 (gVar 3)) g__law_ends_C1t g__law_ends_C1e))
  (gSeq (gIf (gTst (gBin oEq (gVar 3) (gLst gNil))) (gRet (gC .non)) gNext)
  (gRet (gTup (gCons (gBin oIx (gVar 3) (gC (.int 0))) (gCons (gBin oIx (gVar 3) (gUn opNeg (gC (.int 1)))) gNil))))))))
noncomputable def F__law_ends : List Wv → Hs → Re Wv := fnF 4 g__law_ends
noncomputable def c__law_ends : Ct where
  N := ["shift", "low", "high", "left"]
  names := (defScope s__law_ends).names
  consts := []
  bl := ["range"]
  fns := [("_law_line", 2, F__law_line)]
  tb := tbl
  tt := tblT
  clss := []
theorem r__law_ends : compS 30 c__law_ends (defBody s__law_ends) = g__law_ends := by kernel_rfl
theorem sc__law_ends : FnScope (c__law_ends).N ["shift", "low", "high"] (defScope s__law_ends) := ⟨rfl, rfl, rfl, by decide +kernel, rfl, by decide +kernel, by decide +kernel⟩
abbrev s__law_area_moved : Stmt := top 37
noncomputable def g__law_area_moved : GS := (gSeq (gSet 2 (gTup (gCons (gBin oIx (gVar 1) (gC (.int 0))) (gCons (gBin oIx (gVar 1) (gC (.int 2))) gNil))))
  (gSeq (gSet 3 (gTup (gCons (gBin oIx (gVar 1) (gC (.int 1))) (gCons (gBin oIx (gVar 1) (gC (.int 3))) gNil))))
  (gSeq (gIf (gTst (gBin oEq (gSlice2 (gBin oIx (gVar 0) (gC (.int 0))) gNoPart (gPart (gC (.int 4)))) (gC (.str "rows")))) (gSet 2 (gCall 3 F__law_ends (gCons (gVar 0) (gCons (gBin oIx (gVar 1) (gC (.int 0))) (gCons (gBin oIx (gVar 1) (gC (.int 2))) gNil))))) (gSet 3 (gCall 3 F__law_ends (gCons (gVar 0) (gCons (gBin oIx (gVar 1) (gC (.int 1))) (gCons (gBin oIx (gVar 1) (gC (.int 3))) gNil))))))
  (gSeq (gIf (gOr (gTst (gBin oIs (gVar 2) (gC .non))) (gTst (gBin oIs (gVar 3) (gC .non)))) (gRet (gC .non)) gNext)
  (gSeq (gIf (gTst (gBin oGt (gBin oMulL (gBin oAdd (gBin oSub (gBin oIx (gVar 2) (gC (.int 1))) (gBin oIx (gVar 2) (gC (.int 0)))) (gC (.int 1))) (gBin oAdd (gBin oSub (gBin oIx (gVar 3) (gC (.int 1))) (gBin oIx (gVar 3) (gC (.int 0)))) (gC (.int 1)))) (gC (.int 300)))) (gRet (gC .non)) gNext)
  (gRet (gTup (gCons (gBin oIx (gVar 2) (gC (.int 0))) (gCons (gBin oIx (gVar 3) (gC (.int 0))) (gCons (gBin oIx (gVar 2) (gC (.int 1))) (gCons (gBin oIx (gVar 3) (gC (.int 1))) gNil)))))))))))
noncomputable def F__law_area_moved : List Wv → Hs → Re Wv := fnF 4 g__law_area_moved
noncomputable def c__law_area_moved : Ct where
  N := ["shift", "area", "rows", "columns"]
  names := (defScope s__law_area_moved).names
  consts := []
  bl := []
  fns := [("_law_ends", 3, F__law_ends)]
  tb := tbl
  tt := tblT
  clss := []
theorem r__law_area_moved : compS 30 c__law_area_moved (defBody s__law_area_moved) = g__law_area_moved := by kernel_rfl
theorem sc__law_area_moved : FnScope (c__law_area_moved).N ["shift", "area"] (defScope s__law_area_moved) := ⟨rfl, rfl, rfl, by decide +kernel, rfl, by decide +kernel, by decide +kernel⟩
abbrev s_moved_place : Stmt := top 23
noncomputable def g_moved_place : GS := (gSeq (gIf (gTru (gCall 1 F_is_of_rows (gCons (gVar 0) gNil))) (gSeq (gSet 2 (gCall 2 F_moved_line (gCons (gVar 0) (gCons (gBin oIx (gVar 1) (gC (.int 0))) gNil))))
    (gRet (gIfE (gTst (gBin oIs (gVar 2) (gC .non))) (gC .non) (gTup (gCons (gVar 2) (gCons (gBin oIx (gVar 1) (gC (.int 1))) gNil)))))) gNext)
  (gSeq (gSet 3 (gCall 2 F_moved_line (gCons (gVar 0) (gCons (gBin oIx (gVar 1) (gC (.int 1))) gNil))))
  (gRet (gIfE (gTst (gBin oIs (gVar 3) (gC .non))) (gC .non) (gTup (gCons (gBin oIx (gVar 1) (gC (.int 0))) (gCons (gVar 3) gNil)))))))
noncomputable def F_moved_place : List Wv → Hs → Re Wv := fnF 4 g_moved_place
noncomputable def c_moved_place : Ct where
  N := ["shift", "place", "row", "column"]
  names := (defScope s_moved_place).names
  consts := []
  bl := []
  fns := [("is_of_rows", 1, F_is_of_rows), ("moved_line", 2, F_moved_line)]
  tb := tbl
  tt := tblT
  clss := []
theorem r_moved_place : compS 30 c_moved_place (defBody s_moved_place) = g_moved_place := by kernel_rfl
theorem sc_moved_place : FnScope (c_moved_place).N ["shift", "place"] (defScope s_moved_place) := ⟨rfl, rfl, rfl, by decide +kernel, rfl, by decide +kernel, by decide +kernel⟩
abbrev s__law_in_new_line : Stmt := top 38
noncomputable def g__law_in_new_line : GS := (gSeq (gSet 2 (gBin oIx (gVar 1) (gCallB oInt2 (gCons (gBin oNe (gSlice2 (gBin oIx (gVar 0) (gC (.int 0))) gNoPart (gPart (gC (.int 4)))) (gC (.str "rows"))) gNil))))
  (gRet (gChain oLe oLt (gBin oIx (gVar 0) (gC (.int 1))) (gVar 2) (gBin oAdd (gBin oIx (gVar 0) (gC (.int 1))) (gBin oIx (gVar 0) (gC (.int 2)))))))
noncomputable def F__law_in_new_line : List Wv → Hs → Re Wv := fnF 3 g__law_in_new_line
noncomputable def c__law_in_new_line : Ct where
  N := ["shift", "place", "line"]
  names := (defScope s__law_in_new_line).names
  consts := []
  bl := ["int"]
  fns := []
  tb := tbl
  tt := tblT
  clss := []
theorem r__law_in_new_line : compS 30 c__law_in_new_line (defBody s__law_in_new_line) = g__law_in_new_line := by kernel_rfl
theorem sc__law_in_new_line : FnScope (c__law_in_new_line).N ["shift", "place"] (defScope s__law_in_new_line) := ⟨rfl, rfl, rfl, by decide +kernel, rfl, by decide +kernel, by decide +kernel⟩
abbrev s__law_right : Stmt := top 39
noncomputable def g__law_right_C1t : GT := (gNot (gTru (gCall 2 F__law_in_new_line (gCons (gVar 1) (gCons (gVar 0) gNil)))))
noncomputable def g__law_right_C1e : GE := (gVar 0)
noncomputable def g__law_right_C2t : GT := (gTst (gBin oIsNot (gVar 0) (gC .non)))
noncomputable def g__law_right_C2e : GE := (gVar 0)
noncomputable def g__law_right_C3t : GT := (fun _ st => .ok true st)
noncomputable def g__law_right_C3e : GE := (gCall 2 F_moved_place (gCons (gVar 1) (gCons (gVar 0) gNil)))
noncomputable def g__law_right : GS := (gSeq (gSet 2 (gCall 2 F_moved_area (gCons (gVar 0) (gCons (gVar 1) gNil))))
  (gSeq (gIf (gTst (gBin oNe (gVar 2) (gCall 2 F__law_area_moved (gCons (gVar 0) (gCons (gVar 1) gNil))))) (gRet (gC (.bl false))) gNext)
  (gSeq (gIf (gTst (gBin oIs (gVar 2) (gC .non))) (gRet (gC (.bl true))) gNext)
  (gSeq (gSet 3 (gComp [("shift", 0)] (giSeq2 (gCall 1 F_area_places (gCons (gVar 1) gNil))) g__law_right_C3t g__law_right_C3e))
  (gSeq (gSet 3 (gComp [] (giSeq2 (gVar 3)) g__law_right_C2t g__law_right_C2e))
  (gSeq (gSet 4 (gCall 1 F_area_places (gCons (gVar 2) gNil)))
  (gSeq (gIf (gTst (gBin oEq (gSlice2 (gBin oIx (gVar 0) (gC (.int 0))) (gPart (gUn opNeg (gC (.int 2)))) gNoPart) (gC (.str "in")))) (gSet 4 (gComp [("shift", 0)] (giSeq2 (gVar 4)) g__law_right_C1t g__law_right_C1e)) gNext)
  (gRet (gAndV (gCallB (oIsA tbl tblT) (gCons (gVar 2) (gCons (gC (.ty "tuple")) gNil))) (gBin oEq (gVar 3) (gVar 4)))))))))))
noncomputable def F__law_right : List Wv → Hs → Re Wv := fnF 5 g__law_right
noncomputable def c__law_right : Ct where
  N := ["shift", "area", "found", "left", "now"]
  names := (defScope s__law_right).names
  consts := []
  bl := ["isinstance", "tuple"]
  fns := [("moved_area", 2, F_moved_area), ("area_places", 1, F_area_places), ("_law_area_moved", 2, F__law_area_moved), ("moved_place", 2, F_moved_place), ("_law_in_new_line", 2, F__law_in_new_line)]
  tb := tbl
  tt := tblT
  clss := []
theorem r__law_right : compS 30 c__law_right (defBody s__law_right) = g__law_right := by kernel_rfl
theorem sc__law_right : FnScope (c__law_right).N ["shift", "area"] (defScope s__law_right) := ⟨rfl, rfl, rfl, by decide +kernel, rfl, by decide +kernel, by decide +kernel⟩
abbrev s__law_place : Stmt := top 33
noncomputable def g__law_place : GS := (gSeq (gSet 1 (gBin oAdd (gCall 2 F__law_take (gCons (gVar 0) (gCons (gC (.int 12)) gNil))) (gBin oMulL (gC (.int 87)) (gCallB oInt2 (gCons (gBin oEq (gCall 2 F__law_take (gCons (gVar 0) (gCons (gC (.int 5)) gNil))) (gC (.int 4))) gNil)))))
  (gRet (gTup (gCons (gVar 1) (gCons (gBin oAdd (gCall 2 F__law_take (gCons (gVar 0) (gCons (gC (.int 6)) gNil))) (gBin oMulL (gC (.int 20)) (gCallB oInt2 (gCons (gBin oEq (gCall 2 F__law_take (gCons (gVar 0) (gCons (gC (.int 5)) gNil))) (gC (.int 4))) gNil)))) gNil)))))
noncomputable def F__law_place : List Wv → Hs → Re Wv := fnF 2 g__law_place
noncomputable def c__law_place : Ct where
  N := ["pot", "row"]
  names := (defScope s__law_place).names
  consts := []
  bl := ["int"]
  fns := [("_law_take", 2, F__law_take)]
  tb := tbl
  tt := tblT
  clss := []
theorem r__law_place : compS 30 c__law_place (defBody s__law_place) = g__law_place := by kernel_rfl
theorem sc__law_place : FnScope (c__law_place).N ["pot"] (defScope s__law_place) := ⟨rfl, rfl, rfl, by decide +kernel, rfl, by decide +kernel, by decide +kernel⟩
abbrev s__law_area : Stmt := top 35
noncomputable def g__law_area : GS := (gSeq (gSetT [1, 2] (gCall 1 F__law_place (gCons (gVar 0) gNil)))
  (gSeq (gIf (gTst (gBin oEq (gCall 2 F__law_take (gCons (gVar 0) (gCons (gC (.int 8)) gNil))) (gC (.int 7)))) (gSeq (gSet 3 (gBin oAdd (gC (.int 1)) (gCall 2 F__law_take (gCons (gVar 0) (gCons (gBin oSub (gC (.int 99)) (gVar 1)) gNil)))))
    (gRet (gTup (gCons (gVar 1) (gCons (gVar 2) (gCons (gBin oSub (gBin oAdd (gVar 1) (gVar 3)) (gC (.int 1))) (gCons (gBin oAdd (gVar 2) (gCall 2 F__law_take (gCons (gVar 0) (gCons (gCallB oMin2 (gCons (gBin oSub (gC (.int 26)) (gVar 2)) (gCons (gBin oFdiv (gC (.int 300)) (gVar 3)) gNil))) gNil)))) gNil))))))) gNext)
  (gRet (gTup (gCons (gVar 1) (gCons (gVar 2) (gCons (gCallB oMin2 (gCons (gC (.int 98)) (gCons (gBin oAdd (gVar 1) (gCall 2 F__law_take (gCons (gVar 0) (gCons (gC (.int 6)) gNil)))) gNil))) (gCons (gCallB oMin2 (gCons (gC (.int 25)) (gCons (gBin oAdd (gVar 2) (gCall 2 F__law_take (gCons (gVar 0) (gCons (gC (.int 4)) gNil)))) gNil))) gNil))))))))
noncomputable def F__law_area : List Wv → Hs → Re Wv := fnF 4 g__law_area
noncomputable def c__law_area : Ct where
  N := ["pot", "top", "left", "high"]
  names := (defScope s__law_area).names
  consts := []
  bl := ["min"]
  fns := [("_law_place", 1, F__law_place), ("_law_take", 2, F__law_take)]
  tb := tbl
  tt := tblT
  clss := []
theorem r__law_area : compS 30 c__law_area (defBody s__law_area) = g__law_area := by kernel_rfl
theorem sc__law_area : FnScope (c__law_area).N ["pot"] (defScope s__law_area) := ⟨rfl, rfl, rfl, by decide +kernel, rfl, by decide +kernel, by decide +kernel⟩
abbrev s_law : Stmt := top 40
noncomputable def g_law_L2 : GS := (gIf (gNot (gTru (gCall 2 F__law_right (gCons (gVar 3) (gCons (gCall 1 F__law_area (gCons (gVar 2) gNil)) gNil))))) (gRet (gC (.bl false))) gNext)
noncomputable def g_law_L1 : GS := (gSeq (gSet 2 (gCall 1 F__law_pot (gCons (gVar 1) gNil)))
  (gSeq (gSet 3 (gCall 1 F__law_shift (gCons (gVar 2) gNil)))
  (gForR1 4 (gCons (gC (.int 5)) gNil) g_law_L2)))
noncomputable def g_law : GS := (gSeq (gFor 1 (gBin oAdd (gLst (gCons (gC (.int 0)) (gCons (gC (.int 1)) gNil))) (gSlice2 (gVar 0) gNoPart (gPart (gC (.int 20))))) g_law_L1)
  (gRet (gC (.bl true))))
noncomputable def F_law : List Wv → Hs → Re Wv := fnF 5 g_law
noncomputable def c_law : Ct where
  N := ["script", "cell", "pot", "shift", "k"]
  names := (defScope s_law).names
  consts := []
  bl := ["range"]
  fns := [("_law_pot", 1, F__law_pot), ("_law_shift", 1, F__law_shift), ("_law_right", 2, F__law_right), ("_law_area", 1, F__law_area)]
  tb := tbl
  tt := tblT
  clss := []
theorem r_law : compS 30 c_law (defBody s_law) = g_law := by kernel_rfl
theorem sc_law : FnScope (c_law).N ["script"] (defScope s_law) := ⟨rfl, rfl, rfl, by decide +kernel, rfl, by decide +kernel, by decide +kernel⟩
end K45

set_option Elab.async false
set_option linter.all false
set_option maxRecDepth 100000
set_option maxHeartbeats 4000000
namespace K45
open PySem J
/-! ### lines moved: the plain mathematics -/
structure Sh where
  rows : Bool
  inn : Bool
  at' : Int
  many : Int
def Sh.most (s : Sh) : Int := if s.rows = true then 99 else 26
structure Sh.Ok (s : Sh) : Prop where
  a0 : 0 ≤ s.at'
  a1 : s.at' < s.most
  m1 : 1 ≤ s.many
  mm : s.many ≤ 99
  out : s.inn = false → s.at' + s.many ≤ s.most
def Sh.line (s : Sh) (l : Int) : Option Int := if l < s.at' then some l else if s.inn = true then (if l + s.many < s.most then some (l + s.many) else none) else (if l < s.at' + s.many then none else some (l - s.many))
def Sh.taken (s : Sh) (l : Int) : Bool := !s.inn && (decide (s.at' ≤ l) && decide (l < s.at' + s.many))
theorem most_pos (s : Sh) : s.most = 99 ∨ s.most = 26 := by unfold Sh.most; cases s.rows <;> simp
/-- lo, lo + 1, .. -/
def rngI (lo : Int) (n : Nat) : List Int := (List.range n).map fun k : Nat => lo + k
theorem rngI_mem {lo x : Int} {n : Nat} : x ∈ rngI lo n ↔ lo ≤ x ∧ x < lo + n := by
  unfold rngI
  rw [List.mem_map]
  constructor
  · rintro ⟨k, hk, rfl⟩
    have := List.mem_range.mp hk
    omega
  · intro h
    exact ⟨(x - lo).toNat, List.mem_range.mpr (by omega), by omega⟩
theorem rngI_lt (lo : Int) (n : Nat) : (rngI lo n).Pairwise (· < ·) := by
  unfold rngI
  rw [List.pairwise_map]
  exact List.pairwise_lt_range.imp fun h => by omega
theorem rngW_I {lo : Int} {n : Nat} : rngW lo n = (rngI lo n).map Wv.int := by
  unfold rngW rngI
  rw [List.map_map]
  rfl
theorem same_list {a b : List Int} (ha : a.Pairwise (· < ·)) (hb : b.Pairwise (· < ·)) (h : ∀ x, x ∈ a ↔ x ∈ b) : a = b := by
  have na : a.Nodup := ha.imp fun q => by omega
  have nb : b.Nodup := hb.imp fun q => by omega
  have p : a.Perm b := (List.perm_ext_iff_of_nodup na nb).mpr h
  exact srt_one p (ha.imp fun q => by omega) (hb.imp fun q => by omega)
theorem line_mono {s : Sh} (o : s.Ok) {l l' x x' : Int} (h : l < l') (e : s.line l = some x) (e' : s.line l' = some x') : x < x' := by
  have := o.m1
  unfold Sh.line at e e'
  cases hi : s.inn <;> simp only [hi] at e e' <;> (repeat' split at e) <;> (repeat' split at e') <;> simp_all <;> omega
theorem fm_lt {s : Sh} (o : s.Ok) : ∀ {ls : List Int}, ls.Pairwise (· < ·) → (ls.filterMap s.line).Pairwise (· < ·)
  | [], _ => by simp
  | l :: r, h => by
    rw [List.pairwise_cons] at h
    have ih := fm_lt o h.2
    cases e : s.line l with
    | none => rw [List.filterMap_cons_none e]; exact ih
    | some x =>
      rw [List.filterMap_cons_some e, List.pairwise_cons]
      refine ⟨fun y hy => ?_, ih⟩
      obtain ⟨l', hl', e'⟩ := List.mem_filterMap.mp hy
      exact line_mono o (h.1 l' hl') e e'
/-- the ends of lo .. hi, as the program tells them -/
def Sh.left (s : Sh) (lo hi : Int) : List Int := (rngI lo (hi + 1 - lo).toNat).filter fun l => !s.taken l
def Sh.ends (s : Sh) (lo hi : Int) : Option (Int × Int) := match s.left lo hi with
  | [] => none
  | h :: r => match s.line h, s.line ((h :: r).getLast (by simp)) with
    | some a, some b => some (a, b)
    | _, _ => none
/-- .. as the law tells them -/
def Sh.ends' (s : Sh) (lo hi : Int) : Option (Int × Int) := if s.inn = true ∧ none ∈ (rngI lo (hi + 1 - lo).toNat).map s.line then none else match (rngI lo (hi + 1 - lo).toNat).filterMap s.line with
  | [] => none
  | h :: r => some (h, (h :: r).getLast (by simp))
theorem left_mem {s : Sh} {lo hi x : Int} : x ∈ s.left lo hi ↔ (lo ≤ x ∧ x ≤ hi) ∧ s.taken x = false := by
  unfold Sh.left
  rw [List.mem_filter, rngI_mem]
  simp
  omega
theorem left_lt {s : Sh} {lo hi : Int} : (s.left lo hi).Pairwise (· < ·) := (rngI_lt _ _).filter _
theorem taken_line {s : Sh} (o : s.Ok) {l : Int} (h : s.inn = false) : s.line l = none ↔ s.taken l = true := by
  have := o.m1
  unfold Sh.line Sh.taken
  rw [h]
  simp
  by_cases c : l < s.at'
  · simp [c]; omega
  · by_cases d : l < s.at' + s.many
    · simp [c, d]; omega
    · simp [c, d]
theorem taken_in {s : Sh} {l : Int} (h : s.inn = true) : s.taken l = false := by unfold Sh.taken; rw [h]; rfl
theorem line_in {s : Sh} {l : Int} (h : s.inn = true) : s.line l = if l < s.at' then some l else if l + s.many < s.most then some (l + s.many) else none := by unfold Sh.line; rw [h]; rfl
theorem line_out {s : Sh} {l : Int} (h : s.inn = false) : s.line l = if l < s.at' then some l else if l < s.at' + s.many then none else some (l - s.many) := by unfold Sh.line; rw [h]; rfl
/-- first and last of a list that ascends -/
theorem first_last {h : Int} {r : List Int} (p : (h :: r).Pairwise (· < ·)) : (∀ x ∈ h :: r, h ≤ x) ∧ ∀ x ∈ h :: r, x ≤ (h :: r).getLast (by simp) := by
  constructor
  · intro x hx
    rcases List.mem_cons.mp hx with z | z
    · omega
    · have := (List.pairwise_cons.mp p).1 x z; omega
  · intro x hx
    obtain ⟨t, a, e⟩ : ∃ t a, h :: r = t ++ [a] := ⟨_, _, (List.dropLast_concat_getLast (l := h :: r) (by simp)).symm⟩
    have el : (h :: r).getLast (by simp) = a := by simp [e]
    rw [el]
    rw [e] at hx p
    rcases List.mem_append.mp hx with z | z
    · have := (List.pairwise_append.mp p).2.2 x z a (by simp); omega
    · simp at z; omega
theorem fm_ends {s : Sh} (o : s.Ok) {h : Int} {r : List Int} (pw : (h :: r).Pairwise (· < ·)) (all : ∀ l ∈ h :: r, ∃ x, s.line l = some x) :
    ∃ xh xg t, s.line h = some xh ∧ s.line ((h :: r).getLast (by simp)) = some xg ∧ (h :: r).filterMap s.line = xh :: t ∧ (xh :: t).getLast (by simp) = xg := by
  obtain ⟨fl1, fl2⟩ := first_last pw
  have gl := List.getLast_mem (l := h :: r) (by simp)
  generalize hg : (h :: r).getLast (by simp) = g at fl2 gl
  obtain ⟨xh, exh⟩ := all h List.mem_cons_self
  obtain ⟨xg, exg⟩ := all g gl
  have pf := fm_lt o pw
  have ef := List.filterMap_cons_some (l := r) exh
  rw [ef] at pf
  obtain ⟨f1, f2⟩ := first_last pf
  have gm := List.getLast_mem (l := xh :: r.filterMap s.line) (by simp)
  have xgm : xg ∈ xh :: r.filterMap s.line := by rw [← ef]; exact List.mem_filterMap.mpr ⟨g, gl, exg⟩
  refine ⟨xh, xg, r.filterMap s.line, exh, exg, ef, ?_⟩
  generalize (xh :: r.filterMap s.line).getLast (by simp) = z at f2 gm
  have q1 := f2 xg xgm
  rw [← ef] at gm
  obtain ⟨l, hlm, el⟩ := List.mem_filterMap.mp gm
  have q2 := fl2 l hlm
  have q3 : z ≤ xg := by
    rcases Int.lt_or_eq_of_le q2 with y | y
    · exact Int.le_of_lt (line_mono o y el exg)
    · subst y
      rw [exg] at el
      have := Option.some.inj el
      omega
  omega
theorem ends_same {s : Sh} (o : s.Ok) {lo hi : Int} (hl : lo ≤ hi) : s.ends lo hi = s.ends' lo hi := by
  have ho := o.m1
  cases hi' : s.inn with
  | true =>
    have el : s.left lo hi = rngI lo (hi + 1 - lo).toNat := by
      unfold Sh.left
      exact List.filter_eq_self.mpr fun l _ => by rw [taken_in hi']; rfl
    unfold Sh.ends Sh.ends'
    rw [el]
    cases er : rngI lo (hi + 1 - lo).toNat with
    | nil =>
      have : lo ∈ rngI lo (hi + 1 - lo).toNat := rngI_mem.mpr (by omega)
      rw [er] at this
      cases this
    | cons h r =>
      have pw := rngI_lt lo (hi + 1 - lo).toNat
      rw [er] at pw
      obtain ⟨fl1, fl2⟩ := first_last pw
      have mem : ∀ x, x ∈ h :: r ↔ lo ≤ x ∧ x ≤ hi := fun x => by rw [← er, rngI_mem]; omega
      by_cases hn : none ∈ (h :: r).map s.line
      · rw [if_pos ⟨hi', hn⟩]
        obtain ⟨l, hlm, ln⟩ := List.mem_map.mp hn
        have nh : s.line ((h :: r).getLast (by simp)) = none := by
          have q := fl2 l hlm
          generalize (h :: r).getLast (by simp) = g at q
          rw [line_in hi'] at ln ⊢
          by_cases c : l < s.at'
          · rw [if_pos c] at ln; cases ln
          · rw [if_neg c] at ln
            by_cases c2 : l + s.many < s.most
            · rw [if_pos c2] at ln; cases ln
            · rw [if_neg (by omega), if_neg (by omega)]
        dsimp only
        rw [nh]
        cases s.line h <;> rfl
      · rw [if_neg (fun z => hn z.2)]
        obtain ⟨xh, xg, t, e1, e2, e3, e4⟩ := fm_ends o pw fun l hlm => by
          cases e : s.line l with
          | none => exact absurd (List.mem_map.mpr ⟨l, hlm, e⟩) hn
          | some x => exact ⟨x, rfl⟩
        dsimp only
        rw [e1, e2, e3]
        dsimp only
        rw [e4]
  | false =>
    unfold Sh.ends Sh.ends'
    rw [if_neg (fun z => by rw [hi'] at z; cases z.1)]
    have fe : (rngI lo (hi + 1 - lo).toNat).filterMap s.line = (s.left lo hi).filterMap s.line := by
      unfold Sh.left
      rw [List.filterMap_filter]
      congr 1
      funext l
      cases e : s.taken l with
      | true => simp [(taken_line o hi').mpr e]
      | false => simp
    rw [fe]
    cases el : s.left lo hi with
    | nil => rfl
    | cons h r =>
      have pw : (h :: r).Pairwise (· < ·) := by rw [← el]; exact left_lt
      obtain ⟨xh, xg, t, e1, e2, e3, e4⟩ := fm_ends o pw fun l hlm => by
        have q := left_mem.mp (by rw [el]; exact hlm : l ∈ s.left lo hi)
        cases e : s.line l with
        | none => have := (taken_line o hi').mp e; rw [q.2] at this; cases this
        | some x => exact ⟨x, rfl⟩
      dsimp only
      rw [e1, e2, e3]
      dsimp only
      rw [e4]
/-- the new lines -/
def Sh.new (s : Sh) (l : Int) : Bool := decide (s.at' ≤ l) && decide (l < s.at' + s.many)
theorem ends_facts {s : Sh} (o : s.Ok) {lo hi e0 e1 : Int} (h0 : 0 ≤ lo) (hl : lo ≤ hi) (h1 : hi < s.most) (he : s.ends lo hi = some (e0, e1)) :
    0 ≤ e0 ∧ e0 ≤ e1 ∧ e1 < s.most ∧ (rngI lo (hi + 1 - lo).toNat).filterMap s.line = (if s.inn = true then (rngI e0 (e1 + 1 - e0).toNat).filter (fun l => !s.new l) else rngI e0 (e1 + 1 - e0).toNat) := by
  have om := o.m1
  have oa := o.a0
  unfold Sh.ends at he
  cases el : s.left lo hi with
  | nil => rw [el] at he; cases he
  | cons h r =>
    rw [el] at he
    dsimp only at he
    have pw : (h :: r).Pairwise (· < ·) := by rw [← el]; exact left_lt
    obtain ⟨fl1, fl2⟩ := first_last pw
    have gl := List.getLast_mem (l := h :: r) (by simp)
    generalize (h :: r).getLast (by simp) = g at fl2 gl he
    have mem : ∀ x, x ∈ h :: r ↔ (lo ≤ x ∧ x ≤ hi) ∧ s.taken x = false := fun x => by rw [← el]; exact left_mem
    have hh := (mem h).mp List.mem_cons_self
    have hg := (mem g).mp gl
    cases e1' : s.line h with
    | none => rw [e1'] at he; cases he
    | some a =>
      cases e2' : s.line g with
      | none => rw [e1', e2'] at he; cases he
      | some b =>
        rw [e1', e2'] at he
        cases he
        have hgl := fl1 g gl
        have ab : e0 ≤ e1 := by
          rcases Int.lt_or_eq_of_le hgl with z | z
          · exact Int.le_of_lt (line_mono o z e1' e2')
          · subst z; rw [e1'] at e2'; have := Option.some.inj e2'; omega
        cases hi' : s.inn with
        | true =>
          rw [line_in hi'] at e1' e2'
          have hlo : h = lo := by
            have := fl1 lo ((mem lo).mpr ⟨by omega, taken_in hi'⟩)
            omega
          have hhi : g = hi := by
            have := fl2 hi ((mem hi).mpr ⟨by omega, taken_in hi'⟩)
            omega
          subst hlo
          subst hhi
          have c0 : (h < s.at' ∧ e0 = h) ∨ (¬ h < s.at' ∧ h + s.many < s.most ∧ e0 = h + s.many) := by
            by_cases c : h < s.at'
            · rw [if_pos c] at e1'; exact .inl ⟨c, (Option.some.inj e1').symm⟩
            · rw [if_neg c] at e1'
              by_cases c2 : h + s.many < s.most
              · rw [if_pos c2] at e1'; exact .inr ⟨c, c2, (Option.some.inj e1').symm⟩
              · rw [if_neg c2] at e1'; cases e1'
          have c1 : (g < s.at' ∧ e1 = g) ∨ (¬ g < s.at' ∧ g + s.many < s.most ∧ e1 = g + s.many) := by
            by_cases c : g < s.at'
            · rw [if_pos c] at e2'; exact .inl ⟨c, (Option.some.inj e2').symm⟩
            · rw [if_neg c] at e2'
              by_cases c2 : g + s.many < s.most
              · rw [if_pos c2] at e2'; exact .inr ⟨c, c2, (Option.some.inj e2').symm⟩
              · rw [if_neg c2] at e2'; cases e2'
          refine ⟨by omega, ab, by omega, ?_⟩
          rw [if_pos rfl]
          refine same_list (fm_lt o (rngI_lt _ _)) ((rngI_lt _ _).filter _) fun x => ?_
          rw [List.mem_filterMap, List.mem_filter, rngI_mem]
          constructor
          · rintro ⟨l, hlm, ln⟩
            rw [rngI_mem] at hlm
            rw [line_in hi'] at ln
            unfold Sh.new
            by_cases c : l < s.at'
            · rw [if_pos c] at ln; have := Option.some.inj ln; subst this; refine ⟨by omega, ?_⟩; simp; omega
            · rw [if_neg c] at ln
              by_cases c2 : l + s.many < s.most
              · rw [if_pos c2] at ln; have := Option.some.inj ln; subst this; refine ⟨by omega, ?_⟩; simp; omega
              · rw [if_neg c2] at ln; cases ln
          · rintro ⟨hx, hnew⟩
            unfold Sh.new at hnew
            simp at hnew
            by_cases c : x < s.at'
            · refine ⟨x, rngI_mem.mpr (by omega), ?_⟩
              rw [line_in hi', if_pos c]
            · refine ⟨x - s.many, rngI_mem.mpr (by omega), ?_⟩
              rw [line_in hi', if_neg (by omega), if_pos (by omega)]
              congr 1
              omega
        | false =>
          rw [line_out hi'] at e1' e2'
          have tk : ∀ x, s.taken x = false ↔ (x < s.at' ∨ s.at' + s.many ≤ x) := fun x => by
            unfold Sh.taken
            rw [hi']
            simp
            omega
          have oo := o.out hi'
          have th := (tk h).mp hh.2
          have tg := (tk g).mp hg.2
          have c0 : (h < s.at' ∧ e0 = h) ∨ (s.at' + s.many ≤ h ∧ e0 = h - s.many) := by
            by_cases c : h < s.at'
            · rw [if_pos c] at e1'; exact .inl ⟨c, (Option.some.inj e1').symm⟩
            · rw [if_neg c, if_neg (by omega)] at e1'; exact .inr ⟨by omega, (Option.some.inj e1').symm⟩
          have c1 : (g < s.at' ∧ e1 = g) ∨ (s.at' + s.many ≤ g ∧ e1 = g - s.many) := by
            by_cases c : g < s.at'
            · rw [if_pos c] at e2'; exact .inl ⟨c, (Option.some.inj e2').symm⟩
            · rw [if_neg c, if_neg (by omega)] at e2'; exact .inr ⟨by omega, (Option.some.inj e2').symm⟩
          refine ⟨by omega, ab, by omega, ?_⟩
          rw [if_neg (by simp)]
          refine same_list (fm_lt o (rngI_lt _ _)) (rngI_lt _ _) fun x => ?_
          rw [List.mem_filterMap, rngI_mem]
          constructor
          · rintro ⟨l, hlm, ln⟩
            rw [rngI_mem] at hlm
            have lm : l ∈ h :: r := (mem l).mpr ⟨by omega, by
              cases et : s.taken l with
              | false => rfl
              | true => rw [(taken_line o hi').mpr et] at ln; cases ln⟩
            have q1 := fl1 l lm
            have q2 := fl2 l lm
            have tl := (tk l).mp ((mem l).mp lm).2
            rw [line_out hi'] at ln
            by_cases c : l < s.at'
            · rw [if_pos c] at ln; have := Option.some.inj ln; omega
            · rw [if_neg c, if_neg (by omega)] at ln; have := Option.some.inj ln; omega
          · intro hx
            by_cases c : x < s.at'
            · refine ⟨x, rngI_mem.mpr (by omega), ?_⟩
              rw [line_out hi', if_pos c]
            · refine ⟨x + s.many, rngI_mem.mpr (by omega), ?_⟩
              rw [line_out hi', if_neg (by omega), if_neg (by omega)]
              congr 1
              omega
def isP (r c : Int) : Bool := decide (0 ≤ r) && decide (r < 99) && (decide (0 ≤ c) && decide (c < 26))
theorem is_place {r c : Int} {st : Hs} : F_is_place [.tup [.int r, .int c]] st = .ok (.bl (isP r c)) st := by
  have a0 : L2.atI [Wv.int r, .int c] 0 = some (.int r) := rfl
  have a1 : L2.atI [Wv.int r, .int c] 1 = some (.int c) := rfl
  refine fn_rt (n := 1) (g := g_is_place) ?_
  unfold g_is_place isP
  by_cases h1 : 0 ≤ r <;> by_cases h2 : r < 99 <;> by_cases h3 : 0 ≤ c <;> by_cases h4 : c < 26 <;> simp [ix_t a0, ix_t a1, h1, h2, h3, h4]
theorem lstOf_mid {st : Hs} {xs : List Ob} {ws : List Wv} : lstOf (st ++ .lst ws :: xs) st.length = some ws := by unfold lstOf; simp
def isO (a b c d : Int) : Bool := decide (a ≤ c) && decide (b ≤ d)
def isC (a b c d : Int) : Bool := isO a b c d && (isP a b && isP c d)
def isA (a b c d : Int) : Bool := isC a b c d && decide ((c - a + 1) * (d - b + 1) ≤ 300)
section
variable {a b c d : Int} {st : Hs}
theorem at0 : L2.atI [Wv.int a, .int b, .int c, .int d] 0 = some (.int a) := rfl
theorem at1 : L2.atI [Wv.int a, .int b, .int c, .int d] 1 = some (.int b) := rfl
theorem at2 : L2.atI [Wv.int a, .int b, .int c, .int d] 2 = some (.int c) := rfl
theorem at3 : L2.atI [Wv.int a, .int b, .int c, .int d] 3 = some (.int d) := rfl
theorem cut0 : oSl2 (.tup [.int a, .int b, .int c, .int d]) none (some 2) st = .ok (.tup [.int a, .int b]) st := rfl
theorem cut2 : oSl2 (.tup [.int a, .int b, .int c, .int d]) (some 2) none st = .ok (.tup [.int c, .int d]) st := rfl
theorem has_corners : F_has_corners [.tup [.int a, .int b, .int c, .int d]] st = .ok (.bl (isC a b c d)) st := by
  refine fn_rt (n := 2) (g := g_has_corners) ?_
  unfold g_has_corners isC isO
  by_cases h1 : a ≤ c <;> by_cases h2 : b ≤ d <;> cases h3 : isP a b <;> simp [ix_t at0, ix_t at1, ix_t at2, ix_t at3, cut0, cut2, is_place, h1, h2, h3]
theorem isC_of (h : isC a b c d = true) : 0 ≤ a ∧ a ≤ c ∧ c < 99 ∧ 0 ≤ b ∧ b ≤ d ∧ d < 26 := by
  unfold isC isO isP at h
  simp at h
  omega
theorem area_many (h : isC a b c d = true) : F_area_many [.tup [.int a, .int b, .int c, .int d]] st = .ok (.int ((c - a + 1) * (d - b + 1))) st := by
  have q := isC_of h
  have m := mul_l (st := st) (i := c - a + 1) (j := d - b + 1) (by omega) (by omega)
  refine fn_rt (n := 1) (g := g_area_many) ?_
  unfold g_area_many
  simp [ix_t at0, ix_t at1, ix_t at2, ix_t at3, m]
theorem is_area : F_is_area [.tup [.int a, .int b, .int c, .int d]] st = .ok (.bl (isA a b c d)) st := by
  refine fn_rt (n := 1) (g := g_is_area) ?_
  unfold g_is_area isA
  cases h : isC a b c d with
  | true => simp [has_corners, h, area_many h]
  | false => simp [has_corners, h]
theorem made_area_ok (h : isA a b c d = true) : F_made_area [.int a, .int b, .int c, .int d] st = .ok (.tup [.int a, .int b, .int c, .int d]) st := by
  refine fn_rt (n := 5) (g := g_made_area) ?_
  unfold g_made_area
  simp [is_area, h]
theorem made_area_no (h : isA a b c d = false) : F_made_area [.int a, .int b, .int c, .int d] st = .err "BadArea" st := by
  have l1 : (1 : Nat) ≤ lim := by unfold lim; omega
  refine fn_err (n := 5) (g := g_made_area) (ρ := [some (.int a), some (.int b), some (.int c), some (.int d), some (.tup [.int a, .int b, .int c, .int d])]) ?_
  unfold g_made_area
  simp [is_area, h, l1]
theorem isA_p (h : isA a b c d = true) : isP a b = true ∧ isP c d = true ∧ isC a b c d = true := by
  unfold isA at h
  rw [Bool.and_eq_true] at h
  have h2 := h.1
  unfold isC at h2
  simp only [Bool.and_eq_true] at h2
  exact ⟨h2.2.1, h2.2.2, h.1⟩
/-- the places of a row, of an area -/
def rowW (r b : Int) (n : Nat) : List Wv := (List.range n).map fun k : Nat => .tup [.int r, .int (b + k)]
def areaW (a b : Int) (m n : Nat) : List Wv := ((List.range m).map fun k : Nat => rowW (a + k) b n).flatten
theorem areaW_len {m n : Nat} : (areaW a b m n).length = m * n := by
  unfold areaW
  rw [List.length_flatten, List.map_map]
  have : (List.length ∘ fun k : Nat => rowW (a + k) b n) = fun _ => n := by funext k; simp [rowW]
  rw [this]
  clear this
  induction m with
  | zero => simp
  | succ m ih => rw [List.range_succ, List.map_append, List.sum_append, ih, Nat.succ_mul]; simp
theorem areaW_succ {m n : Nat} : areaW a b (m + 1) n = areaW a b m n ++ rowW (a + m) b n := by
  unfold areaW
  rw [List.range_succ, List.map_append, List.flatten_append]
  simp
theorem row_comp {o : Wv} {r : Int} {st : Hs} (hb : CRng b) (hd : CRng (d + 1)) (hn : (d + 1 - b).toNat ≤ 300) :
    gComp [("row", 2)] (giR2 (gCons (gBin oIx (gVar 0) (gC (.int 1))) (gCons (gBin oAdd (gBin oIx (gVar 0) (gC (.int 3))) (gC (.int 1))) gNil))) g_places_between_C1t g_places_between_C1e [some (.tup [.int a, .int b, .int c, .int d]), some o, some (.int r)] st =
      .ok (.ref st.length) (st ++ [.lst (rowW r b (d + 1 - b).toNat)]) := by
  have q := comp_pure (cs := [("row", 2)]) (gt := g_places_between_C1t) (ge := g_places_between_C1e) (ρ := [some (.tup [.int a, .int b, .int c, .int d]), some o, some (.int r)]) (w := (none, rngW b (d + 1 - b).toNat)) (st := st) (t := fun _ => true) (f := fun v => .tup [.int r, v]) trivial
    (fun v _ acc => rfl) (fun v _ _ acc => by unfold g_places_between_C1e; simp [capR]) (by rw [show ((none, rngW b (d + 1 - b).toNat) : Wk).2 = rngW b (d + 1 - b).toNat from rfl, rngW_len]; unfold lim; omega)
  have e : ((rngW b (d + 1 - b).toNat).filter fun _ => true).map (fun v => Wv.tup [.int r, v]) = rowW r b (d + 1 - b).toNat := by
    rw [List.filter_eq_self.mpr (fun _ _ => rfl)]
    unfold rngW rowW
    rw [List.map_map]
    rfl
  rw [show ((none, rngW b (d + 1 - b).toNat) : Wk).2 = rngW b (d + 1 - b).toNat from rfl, e] at q
  simp [ix_t at1, ix_t at3, rng2_i hb hd, q]
theorem lstOf_at {st xs : Hs} {i : Nat} : lstOf (st ++ xs) (st.length + i) = lstOf xs i := by
  unfold lstOf
  rw [List.getElem?_append_right (by omega), Nat.add_sub_cancel_left]
theorem ext_mid {st more : Hs} {acc row : List Wv} (h : acc.length + row.length ≤ lim) : mExt (.ref st.length) (.ref (st ++ .lst acc :: more).length) ((st ++ .lst acc :: more) ++ [.lst row]) = .ok .non (st ++ .lst (acc ++ row) :: (more ++ [.lst row])) := by
  have g1 : ((st ++ Ob.lst acc :: more) ++ [Ob.lst row])[st.length]? = some (.lst acc) := by simp
  have g2 : ((st ++ Ob.lst acc :: more) ++ [Ob.lst row])[(st ++ Ob.lst acc :: more).length]? = some (.lst row) := by rw [List.getElem?_append_right (Nat.le_refl _), Nat.sub_self]; rfl
  show (match ((st ++ Ob.lst acc :: more) ++ [Ob.lst row])[st.length]?, ((st ++ Ob.lst acc :: more) ++ [Ob.lst row])[(st ++ Ob.lst acc :: more).length]? with
    | some (.lst ws), some (.lst zs) => if ws.length + zs.length ≤ lim then Re.ok Wv.non (((st ++ Ob.lst acc :: more) ++ [Ob.lst row]).set st.length (.lst (ws ++ zs))) else .bad
    | _, _ => .bad) = _
  rw [g1, g2]
  dsimp only
  rw [if_pos h]
  congr 1
  simp
theorem app_mid {st more : Hs} {acc : List Wv} {v : Wv} (h : acc.length < lim) : mApp (.ref st.length) v (st ++ .lst acc :: more) = .ok .non (st ++ .lst (acc ++ [v]) :: more) := by
  rw [app_l (ws := acc) (by simp) h]
  congr 1
  simp
theorem rows_loop (hb : CRng b) (hd : CRng (d + 1)) (hn : (d + 1 - b).toNat ≤ 300) {m : Nat} (hm : m ≤ 100) {ρ0 : Option Wv} : ∃ (o : Option Wv) (more : Hs),
    forT 2 g_places_between_L1 (rngW a m) [some (.tup [.int a, .int b, .int c, .int d]), some (.ref st.length), ρ0] (st ++ [.lst []]) = .nx [some (.tup [.int a, .int b, .int c, .int d]), some (.ref st.length), o] (st ++ .lst (areaW a b m (d + 1 - b).toNat) :: more) := by
  obtain ⟨ρ1, st1, e1, o, more, rfl, rfl⟩ := forT_ix (i := 2) (gb := g_places_between_L1) (fun k ρ st' => ∃ (o : Option Wv) (more : Hs), ρ = [some (.tup [.int a, .int b, .int c, .int d]), some (.ref st.length), o] ∧ st' = st ++ .lst (areaW a b k (d + 1 - b).toNat) :: more)
    (rngW a m) 0 [some (.tup [.int a, .int b, .int c, .int d]), some (.ref st.length), ρ0] (st ++ [.lst []]) ⟨ρ0, [], rfl, rfl⟩ (fun j w hw ρ st' hP => by
      obtain ⟨o, more, rfl, rfl⟩ := hP
      have hj : j < m := by
        have q := (List.getElem?_eq_some_iff.mp hw).1
        rw [rngW_len] at q
        exact q
      rw [rngW_get? hj] at hw
      cases hw
      have ln : (areaW a b (0 + j) (d + 1 - b).toNat).length + (rowW (a + j) b (d + 1 - b).toNat).length ≤ lim := by
        rw [areaW_len]
        have z : (rowW (a + (j : Int)) b (d + 1 - b).toNat).length = (d + 1 - b).toNat := by unfold rowW; simp
        rw [z]
        have : (0 + j) * (d + 1 - b).toNat ≤ 100 * 300 := Nat.mul_le_mul (by omega) hn
        unfold lim
        omega
      refine ⟨_, _, ?_, some (.int (a + (j : Int))), more ++ [.lst (rowW (a + j) b (d + 1 - b).toNat)], rfl, rfl⟩
      have e : areaW a b (0 + j + 1) (d + 1 - b).toNat = areaW a b (0 + j) (d + 1 - b).toNat ++ rowW (a + j) b (d + 1 - b).toNat := by rw [Nat.zero_add]; exact areaW_succ
      rw [e]
      have rc := row_comp (a := a) (c := c) (o := .ref st.length) (r := a + (j : Int)) (st := st ++ .lst (areaW a b (0 + j) (d + 1 - b).toNat) :: more) hb hd hn
      have km := fun ga ρ => kMeth_l (mt := mExt) (ga := ga) (ρ := ρ) (st := st ++ .lst (areaW a b (0 + j) (d + 1 - b).toNat) :: more) (l := st.length) lstOf_mid
      have em := ext_mid (st := st) (more := more) ln
      unfold g_places_between_L1
      simp only [e_expr, e_meth, e_var, List.set_cons_succ, List.set_cons_zero, List.getElem?_cons_succ, List.getElem?_cons_zero, rdV_s, bind_ok, km, rc, em, nox_ok, thn_ok])
  exact ⟨o, more, by rw [e1, rngW_len, Nat.zero_add]⟩
theorem places_between (h : isC a b c d = true) : ∃ more : Hs, F_places_between [.tup [.int a, .int b, .int c, .int d]] st = .ok (.ref st.length) (st ++ .lst (areaW a b (c + 1 - a).toNat (d + 1 - b).toNat) :: more) := by
  have q := isC_of h
  obtain ⟨o, more, e⟩ := rows_loop (a := a) (c := c) (st := st) (b := b) (d := d) (ρ0 := none) (by unfold CRng; omega) (by unfold CRng; omega) (by omega) (m := (c + 1 - a).toNat) (by omega)
  have ca : CRng a := by unfold CRng; omega
  have cc : CRng (c + 1) := by unfold CRng; omega
  refine ⟨more, fn_rt (n := 3) (g := g_places_between) ?_⟩
  unfold g_places_between
  simp [ix_t at0, ix_t at2, ca, cc, e]
theorem area_places_ok (h : isA a b c d = true) : ∃ more : Hs, F_area_places [.tup [.int a, .int b, .int c, .int d]] st = .ok (.ref st.length) (st ++ .lst (areaW a b (c + 1 - a).toNat (d + 1 - b).toNat) :: more) := by
  obtain ⟨more, e⟩ := places_between (st := st) (isA_p h).2.2
  refine ⟨more, fn_rt (n := 1) (g := g_area_places) ?_⟩
  unfold g_area_places
  simp [ix_t at0, ix_t at1, ix_t at2, ix_t at3, made_area_ok h, e]
end
/-! ### the program's and the law's lines -/
def wayB (r i : Bool) : PySem.Str := match r, i with
  | true, true => "rows in"
  | true, false => "rows out"
  | false, true => "columns in"
  | false, false => "columns out"
def Sh.way (s : Sh) : PySem.Str := wayB s.rows s.inn
theorem q4 : ∀ r i, (Txt.slice (wayB r i) none (some 4) == ("rows" : PySem.Str)) = r := by decide +kernel
theorem q2 : ∀ r i, (Txt.slice (wayB r i) (some (-2)) none == ("in" : PySem.Str)) = i := by decide +kernel
theorem q3 : ∀ r i, (Txt.slice (wayB r i) (some (-3)) none == ("out" : PySem.Str)) = !i := by decide +kernel
def Sh.w (s : Sh) : Wv := .tup [.str s.way, .int s.at', .int s.many]
def ow : Option Int → Wv
  | none => .non
  | some x => .int x
theorem is_in {s : Sh} {st : Hs} : F_is_in [s.w] st = .ok (.bl s.inn) st := by
  obtain ⟨r, i, a, m⟩ := s
  cases r <;> cases i <;> rfl
theorem is_of_rows {s : Sh} {st : Hs} : F_is_of_rows [s.w] st = .ok (.bl s.rows) st := by
  obtain ⟨r, i, a, m⟩ := s
  cases r <;> cases i <;> rfl
theorem w0 {s : Sh} {st : Hs} : oIx s.w (.int 0) st = .ok (.str s.way) st := ix_t rfl
theorem w1 {s : Sh} {st : Hs} : oIx s.w (.int 1) st = .ok (.int s.at') st := ix_t rfl
theorem w2 {s : Sh} {st : Hs} : oIx s.w (.int 2) st = .ok (.int s.many) st := ix_t rfl
theorem is_taken {s : Sh} {l : Int} {st : Hs} : F_is_taken [s.w, .int l] st = .ok (.bl (s.taken l)) st := by
  unfold F_is_taken fnF g_is_taken Sh.taken
  cases h : s.inn with
  | true => simp [is_in, h]
  | false =>
    by_cases c : s.at' ≤ l
    · simp [is_in, h, w1, w2, c]
    · simp [is_in, h, w1, w2, c]
theorem moved_line {s : Sh} (o : s.Ok) {l : Int} {st : Hs} : F_moved_line [s.w, .int l] st = .ok (ow (s.line l)) st := by
  have om := o.m1
  unfold F_moved_line fnF g_moved_line
  cases h : s.inn with
  | true =>
    rw [line_in h]
    have t := taken_in (l := l) h
    by_cases c : l < s.at'
    · simp [is_taken, t, w1, c, ow]
    · cases hr : s.rows with
      | true =>
        have hm : s.most = 99 := by unfold Sh.most; rw [hr]; rfl
        rw [hm]
        by_cases d : l + s.many < 99
        · simp [is_taken, t, w1, w2, c, is_in, h, is_of_rows, hr, d, ow]
        · simp [is_taken, t, w1, w2, c, is_in, h, is_of_rows, hr, d, ow]
      | false =>
        have hm : s.most = 26 := by unfold Sh.most; rw [hr]; rfl
        rw [hm]
        by_cases d : l + s.many < 26
        · simp [is_taken, t, w1, w2, c, is_in, h, is_of_rows, hr, d, ow]
        · simp [is_taken, t, w1, w2, c, is_in, h, is_of_rows, hr, d, ow]
  | false =>
    cases t : s.taken l with
    | true =>
      rw [(taken_line o h).mpr t]
      simp [is_taken, t, ow]
    | false =>
      rw [line_out h]
      have q : l < s.at' ∨ s.at' + s.many ≤ l := by unfold Sh.taken at t; rw [h] at t; simp at t; omega
      by_cases c : l < s.at'
      · simp [is_taken, t, w1, c, ow]
      · have d : ¬ l < s.at' + s.many := by omega
        simp [is_taken, t, w1, w2, c, d, is_in, h, ow]
/-! texts of the ways -/
theorem sl4 {s : Sh} {st : Hs} : oSl2 (.str s.way) none (some 4) st = .ok (.str (Txt.slice s.way none (some 4))) st := by
  obtain ⟨r, i, a, m⟩ := s
  cases r <;> cases i <;> rfl
theorem e4 {s : Sh} {st : Hs} : oEq (.str (Txt.slice s.way none (some 4))) (.str "rows") st = .ok (.bl s.rows) st := by
  rw [eq_s]
  congr 2
  exact q4 _ _
theorem n4 {s : Sh} {st : Hs} : oNe (.str (Txt.slice s.way none (some 4))) (.str "rows") st = .ok (.bl (!s.rows)) st := by
  rw [ne_s]
  congr 3
  exact q4 _ _
theorem sl2 {s : Sh} {st : Hs} : oSl2 (.str s.way) (some (-2)) none st = .ok (.str (Txt.slice s.way (some (-2)) none)) st := by
  obtain ⟨r, i, a, m⟩ := s
  cases r <;> cases i <;> rfl
theorem e2 {s : Sh} {st : Hs} : oEq (.str (Txt.slice s.way (some (-2)) none)) (.str "in") st = .ok (.bl s.inn) st := by
  rw [eq_s]
  congr 2
  exact q2 _ _
theorem sl3 {s : Sh} {st : Hs} : oSl2 (.str s.way) (some (-3)) none st = .ok (.str (Txt.slice s.way (some (-3)) none)) st := by
  obtain ⟨r, i, a, m⟩ := s
  cases r <;> cases i <;> rfl
theorem e3 {s : Sh} {st : Hs} : oEq (.str (Txt.slice s.way (some (-3)) none)) (.str "out") st = .ok (.bl (!s.inn)) st := by
  rw [eq_s]
  congr 2
  exact q3 _ _
theorem int_b {b : Bool} {st : Hs} : oInt2 [.bl b] st = .ok (.int (if b = true then 1 else 0)) st := rfl
theorem two_ix {x y : Wv} {b : Bool} {st : Hs} : oIx (.ref st.length) (.int (if b = true then 1 else 0)) (st ++ [.lst [x, y]]) = .ok (if b = true then y else x) (st ++ [.lst [x, y]]) := by
  have l : lstOf (st ++ [.lst [x, y]]) st.length = some [x, y] := lstOf_new
  cases b with
  | true => exact ix_l l rfl
  | false => exact ix_l l rfl
theorem most {s : Sh} {st : Hs} : ∃ st', F__law_most [.str s.way] st = .ok (.int s.most) st' ∧ Gr st st' := by
  refine ⟨st ++ [.lst [.int 26, .int 99]], ?_, Gr.push⟩
  have ti := two_ix (x := .int 26) (y := .int 99) (b := s.rows) (st := st)
  have hm : (if s.rows = true then Wv.int 99 else .int 26) = .int s.most := by unfold Sh.most; cases s.rows <;> rfl
  rw [hm] at ti
  unfold F__law_most fnF g__law_most
  simp only [List.map_cons, List.map_nil, List.length_cons, List.length_nil]
  simp [-ite_eq_left_iff, -eq_s, sl4, e4, int_b, ti]
theorem law_line {s : Sh} {l : Int} {st : Hs} : ∃ st', F__law_line [s.w, .int l] st = .ok (ow (s.line l)) st' ∧ Gr st st' := by
  unfold Sh.line F__law_line fnF g__law_line
  have sT : ∀ st' : Hs, gSetT [2, 3, 4] (gVar 0) [some s.w, some (.int l), none, none, none] st' = .nx [some s.w, some (.int l), some (.str s.way), some (.int s.at'), some (.int s.many)] st' := fun _ => rfl
  by_cases c : l < s.at'
  · exact ⟨st, by simp [sT, c, ow], Gr.refl⟩
  · cases h : s.inn with
    | true =>
      obtain ⟨s1, em, g1⟩ := most (s := s) (st := st ++ [.lst [.non, .int (l + s.many)]])
      have l1 : lstOf s1 st.length = some [.non, .int (l + s.many)] := g1.lst lstOf_new
      refine ⟨s1, ?_, Gr.push.trans g1⟩
      have e2' := e2 (s := s) (st := st)
      rw [h] at e2'
      by_cases d : l + s.many < s.most
      · have ix := ix_l (i := 1) (v := .int (l + s.many)) l1 rfl
        have ib : oInt2 [.bl (decide (l + s.many < s.most))] s1 = .ok (.int 1) s1 := by rw [decide_eq_true d]; rfl
        simp [-eq_s, sT, c, sl2, e2', em, int_b, ix, d, ow]
      · have ix := ix_l (i := 0) (v := .non) l1 rfl
        have ib : oInt2 [.bl (decide (l + s.many < s.most))] s1 = .ok (.int 0) s1 := by rw [decide_eq_false d]; rfl
        simp [-eq_s, sT, c, sl2, e2', em, int_b, ix, d, ow]
    | false =>
      have l1 : lstOf (st ++ [.lst [.int (l - s.many), .non]]) st.length = some [.int (l - s.many), .non] := lstOf_new
      refine ⟨st ++ [.lst [.int (l - s.many), .non]], ?_, Gr.push⟩
      have e2' := e2 (s := s) (st := st)
      rw [h] at e2'
      by_cases d : l < s.at' + s.many
      · have ix := ix_l (i := 1) (v := .non) l1 rfl
        have ib : ∀ st : Hs, oInt2 [.bl (decide (l < s.at' + s.many))] st = .ok (.int 1) st := fun _ => by rw [decide_eq_true d]; rfl
        simp [-eq_s, sT, c, sl2, e2', int_b, ix, d, ow]
      · have ix := ix_l (i := 0) (v := .int (l - s.many)) l1 rfl
        have ib : ∀ st : Hs, oInt2 [.bl (decide (l < s.at' + s.many))] st = .ok (.int 0) st := fun _ => by rw [decide_eq_false d]; rfl
        simp [-eq_s, sT, c, sl2, e2', int_b, ix, d, ow]
/-! ### ends and areas -/
def ew : Option (Int × Int) → Wv
  | none => .non
  | some (a, b) => .tup [.int a, .int b]
theorem tru_l {l : Nat} {ws : List Wv} {st : Hs} (h : lstOf st l = some ws) : truW (.ref l) st = .ok (!ws.isEmpty) st := by
  unfold truW
  simp only [h]
theorem none_in {a b : Option Int} {st : Hs} : oIn2 .non (.tup [ow a, ow b]) st = .ok (.bl (a.isNone || b.isNone)) st := by cases a <;> cases b <;> rfl
theorem last_split {h : Int} {r : List Int} : ∃ t, h :: r = t ++ [(h :: r).getLast (by simp)] := ⟨_, (List.dropLast_concat_getLast (l := h :: r) (by simp)).symm⟩
theorem moved_ends {s : Sh} (o : s.Ok) {lo hi : Int} (h0 : -1000 ≤ lo) (h1 : hi ≤ 1000) (h2 : lo ≤ 1000) (h3 : -1000 ≤ hi) {st : Hs} : ∃ st', F_moved_ends [s.w, .int lo, .int hi] st = .ok (ew (s.ends lo hi)) st' ∧ Gr st st' := by
  have c1 : CRng lo := crng (by omega) (by omega)
  have c2 : CRng (hi + 1) := crng (by omega) (by omega)
  have cr : ∀ ρ : Rho, ρ[0]? = some (some s.w) → compRun [("shift", 0)] g_moved_ends_C1t g_moved_ends_C1e ρ (none, rngW lo (hi + 1 - lo).toNat) st = .ok (.ref st.length) (st ++ [.lst ((s.left lo hi).map Wv.int)]) := by
    intro ρ hρ
    rw [comp_pure (w := (none, rngW lo (hi + 1 - lo).toNat)) (t := fun v => match v with | .int l => !s.taken l | _ => false) (f := id) trivial]
    · rw [List.map_id, rngW_I, List.filter_map]
      rfl
    · intro v hv acc
      have hv : v ∈ rngW lo (hi + 1 - lo).toNat := hv
      obtain ⟨k, rfl, _, _⟩ := rng_mem hv
      unfold g_moved_ends_C1t capR
      simp [hρ, is_taken]
    · intro v hv _ acc
      rfl
    · show (rngW lo (hi + 1 - lo).toNat).length < lim
      rw [rngW_len]; unfold lim; omega
  have l1 : lstOf (st ++ [.lst ((s.left lo hi).map Wv.int)]) st.length = some ((s.left lo hi).map Wv.int) := lstOf_new
  have g1 : Gr st (st ++ [.lst ((s.left lo hi).map Wv.int)]) := Gr.push
  have cr1 := cr [some s.w, some (.int lo), some (.int hi), none, none] rfl
  generalize st ++ [.lst ((s.left lo hi).map Wv.int)] = s1 at l1 g1 cr1
  refine ⟨s1, ?_, g1⟩
  have tr := tru_l l1
  have hends : ∀ h r, s.left lo hi = h :: r → ∀ g, (h :: r).getLast (by simp) = g → s.ends lo hi = (match s.line h, s.line g with | some a, some b => some (a, b) | _, _ => none) := by
    intro h r el g hg
    subst hg
    unfold Sh.ends
    split
    · rename_i e; rw [el] at e; cases e
    · rename_i h' r' e
      rw [el] at e
      cases e
      rfl
  unfold F_moved_ends fnF g_moved_ends
  cases el : s.left lo hi with
  | nil =>
    rw [el] at tr
    have hn : s.ends lo hi = none := by
      unfold Sh.ends
      split
      · rfl
      · rename_i e; rw [el] at e; cases e
    rw [hn]
    simp [rng2_i c1 c2, cr1, tr, ew]
  | cons h r =>
    rw [el] at tr l1
    have i0 := ix_l (i := 0) (v := .int h) l1 (by rw [List.map_cons]; exact atI_0)
    obtain ⟨t, et⟩ := last_split (h := h) (r := r)
    obtain ⟨g, hg⟩ : ∃ g, (h :: r).getLast (by simp) = g := ⟨_, rfl⟩
    rw [hg] at et
    rw [hends h r el g hg]
    have i1 := ix_l (i := -1) (v := .int g) l1 (by rw [et, List.map_append]; exact atI_last)
    have m0 := moved_line o (l := h) (st := s1)
    have m1 := moved_line o (l := g) (st := s1)
    have ni := none_in (a := s.line h) (b := s.line g) (st := s1)
    have tr' : truW (.ref st.length) s1 = .ok true s1 := tr
    cases e1 : s.line h with
    | none =>
      rw [e1] at m0 ni
      simp [rng2_i c1 c2, cr1, tr', i0, i1, m0, m1, ni, ew]
    | some a =>
      cases e2 : s.line g with
      | none =>
        rw [e1, e2] at ni
        rw [e1] at m0
        rw [e2] at m1
        simp [rng2_i c1 c2, cr1, tr', i0, i1, m0, m1, ni, ew]
      | some b =>
        rw [e1, e2] at ni
        rw [e1] at m0
        rw [e2] at m1
        simp [ow] at m0 m1 ni
        simp [rng2_i c1 c2, cr1, tr', i0, i1, m0, m1, ni, ew]
theorem any_none {xs : List (Option Int)} {l : Nat} {st : Hs} (h : lstOf st l = some (xs.map ow)) : oIn2 .non (.ref l) st = .ok (.bl (decide (none ∈ xs))) st := by
  have fl : (xs.map ow).all flatW = true := by
    rw [List.all_eq_true]
    intro v hv
    obtain ⟨x, _, rfl⟩ := List.mem_map.mp hv
    cases x <;> rfl
  show oIn .non (.ref l) st = _
  unfold oIn seqOf
  simp only [h]
  rw [if_pos ⟨rfl, fl⟩]
  congr 2
  rw [Bool.eq_iff_iff, List.any_eq_true, decide_eq_true_eq]
  constructor
  · rintro ⟨v, hv, e⟩
    obtain ⟨x, hx, rfl⟩ := List.mem_map.mp hv
    cases x with
    | none => exact hx
    | some i => cases e
  · intro hn
    exact ⟨.non, List.mem_map.mpr ⟨none, hn, rfl⟩, rfl⟩
theorem eq_empty {ns : List Int} {a b : Nat} {st : Hs} (ha : lstOf st a = some (ns.map Wv.int)) (hb : lstOf st b = some []) : oEq (.ref a) (.ref b) st = .ok (.bl ns.isEmpty) st := by
  have d1 : ∀ ns : List Int, mapO (datum st 19) (ns.map Wv.int) = some (ns.map PyData.int) := by
    intro ns
    induction ns with
    | nil => rfl
    | cons n r ih =>
      rw [List.map_cons]
      unfold mapO
      rw [ih]
      rfl
  unfold oEq
  rw [dat_l ha, dat_l hb, d1]
  cases ns with
  | nil => rfl
  | cons n r => simp [mapO, PyData.eqv, PyData.eqvAll]
theorem law_ends {s : Sh} {lo hi : Int} (h0 : -1000 ≤ lo) (h1 : hi ≤ 1000) (h2 : lo ≤ 1000) (h3 : -1000 ≤ hi) {st : Hs} : ∃ st', F__law_ends [s.w, .int lo, .int hi] st = .ok (ew (s.ends' lo hi)) st' ∧ Gr st st' := by
  have c1 : CRng lo := crng (by omega) (by omega)
  have c2 : CRng (hi + 1) := crng (by omega) (by omega)
  have hlen : (rngI lo (hi + 1 - lo).toNat).length ≤ 3000 := by unfold rngI; simp; omega
  unfold Sh.ends'
  generalize hR : rngI lo (hi + 1 - lo).toNat = R' at hlen
  obtain ⟨s1, us, e1, g1, n1, hus, hE⟩ := compG_map (w := (none, rngW lo (hi + 1 - lo).toNat)) (gt := fun v => g__law_ends_C2t (some v :: capR [("shift", 0)] [some s.w, some (.int lo), some (.int hi), none])) (ge := fun v => g__law_ends_C2e (some v :: capR [("shift", 0)] [some s.w, some (.int lo), some (.int hi), none])) (rr := st.length)
    Wv.int (fun s' => Gr st s') (fun l u => u = ow (s.line l)) (fun s' acc h => Gr.keepAt (Nat.le_refl _) h Keep.set) (fun _ _ => trivial) R' (by
      intro l _ s' acc hg hs
      refine ⟨s', rfl, hg, hs, ?_⟩
      obtain ⟨s2, e2, g2⟩ := law_line (s := s) (l := l) (st := s')
      refine ⟨ow (s.line l), s2, ?_, rfl, hg.trans g2, g2.get hs⟩
      unfold g__law_ends_C2e capR
      simp [e2]) [] (st ++ [.lst []]) Gr.push new_get (by show 0 + _ < _; unfold lim; omega)
  have hus' : us = (R'.map s.line).map ow := by
    refine List.ext_getElem (by simp [hus]) fun k h h' => ?_
    rw [hE k (by rw [← hus]; exact h) h]
    simp
  subst hus'
  have l1 : lstOf s1 st.length = some ((R'.map s.line).map ow) := lst_get (by simpa using n1)
  have cr : compRun [("shift", 0)] g__law_ends_C2t g__law_ends_C2e [some s.w, some (.int lo), some (.int hi), none] (none, rngW lo (hi + 1 - lo).toNat) st = .ok (.ref st.length) s1 := by
    unfold compRun
    have e1' : compG (ckOf (none, rngW lo (hi + 1 - lo).toNat)) (fun v => g__law_ends_C2t (some v :: capR [("shift", 0)] [some s.w, some (.int lo), some (.int hi), none])) (fun v => g__law_ends_C2e (some v :: capR [("shift", 0)] [some s.w, some (.int lo), some (.int hi), none])) st.length (rngW lo (hi + 1 - lo).toNat) (st ++ [.lst []]) = some s1 := by
      have er : rngW lo (hi + 1 - lo).toNat = R'.map Wv.int := by rw [rngW_I, hR]
      rw [er] at e1 ⊢
      exact e1
    dsimp only
    rw [e1']
  have ni := any_none l1
  -- what is left
  have cr2 : ∀ ρ, compRun [] g__law_ends_C1t g__law_ends_C1e ρ (some st.length, (R'.map s.line).map ow) s1 = .ok (.ref s1.length) (s1 ++ [.lst ((R'.filterMap s.line).map Wv.int)]) := by
    intro ρ
    rw [comp_pure (w := (some st.length, (R'.map s.line).map ow)) (t := fun v => match v with | .non => false | _ => true) (f := id) l1]
    · rw [List.map_id]
      congr 4
      show ((R'.map s.line).map ow).filter _ = _
      clear hE hus n1 e1 l1 cr ni hR hlen
      induction R' with
      | nil => rfl
      | cons l r ih =>
        cases e : s.line l with
        | none => simp [e, ow] at ih ⊢; exact ih
        | some x => simp [e, ow] at ih ⊢; exact ih
    · intro v hv acc
      have hv : v ∈ (R'.map s.line).map ow := hv
      obtain ⟨x, _, rfl⟩ := List.mem_map.mp hv
      have n0 : ∀ st : Hs, oIsNot .non .non st = .ok (.bl false) st := fun _ => rfl
      have n1 : ∀ (i : Int) (st : Hs), oIsNot (.int i) .non st = .ok (.bl true) st := fun _ _ => rfl
      unfold g__law_ends_C1t
      cases x <;> simp [ow, n0, n1]
    · intro v hv _ acc
      rfl
    · show ((R'.map s.line).map ow).length < lim
      simp; unfold lim; omega
  have l2 : lstOf (s1 ++ [.lst ((R'.filterMap s.line).map Wv.int)]) s1.length = some ((R'.filterMap s.line).map Wv.int) := lstOf_new
  have g2 : Gr s1 (s1 ++ [.lst ((R'.filterMap s.line).map Wv.int)]) := Gr.push
  have e2' := fun st : Hs => e2 (s := s) (st := st)
  have sl2' := fun st : Hs => sl2 (s := s) (st := st)
  unfold F__law_ends fnF g__law_ends
  by_cases hb : s.inn = true ∧ none ∈ R'.map s.line
  · rw [if_pos hb]
    rw [decide_eq_true hb.2] at ni
    refine ⟨s1, ?_, g1⟩
    simp [-eq_s, rng2_i c1 c2, cr, w0, sl2', e2', hb.1, ni, ew]
  · rw [if_neg hb]
    generalize s1 ++ [.lst ((R'.filterMap s.line).map Wv.int)] = s2 at cr2 l2 g2
    have l3 : lstOf (s2 ++ [.lst []]) s2.length = some [] := lstOf_new
    have l2' : lstOf (s2 ++ [.lst []]) s1.length = some ((R'.filterMap s.line).map Wv.int) := Gr.push.lst l2
    have eqe := eq_empty l2' l3
    have hcond : ∀ ρ : Rho, ρ[0]? = some (some s.w) → ρ[3]? = some (some (.ref st.length)) → gAnd (gTst (gBin oEq (gSlice2 (gBin oIx (gVar 0) (gC (.int 0))) (gPart (gUn opNeg (gC (.int 2)))) gNoPart) (gC (.str "in")))) (gTst (gBin oIn2 (gC .non) (gVar 3))) ρ s1 = .ok false s1 := by
      intro ρ h0 h3
      cases hin : s.inn with
      | false => simp [-eq_s, h0, w0, sl2', e2', hin]
      | true =>
        have hn : ¬ none ∈ R'.map s.line := fun z => hb ⟨hin, z⟩
        rw [decide_eq_false hn] at ni
        simp [-eq_s, h0, h3, w0, sl2', e2', hin, ni]
    have hc := hcond [some s.w, some (.int lo), some (.int hi), some (.ref st.length)] rfl rfl
    refine ⟨s2 ++ [.lst []], ?_, g1.trans (g2.trans Gr.push)⟩
    cases ef : R'.filterMap s.line with
    | nil =>
      rw [ef] at eqe
      simp [-e_and, -List.map_map, rng2_i c1 c2, cr, hc, seqW_l l1, cr2, eqe, ew]
    | cons h r =>
      rw [ef] at eqe l2'
      have i0 := ix_l (i := 0) (v := .int h) l2' (by rw [List.map_cons]; exact atI_0)
      obtain ⟨t, et⟩ := last_split (h := h) (r := r)
      obtain ⟨g, hg⟩ : ∃ g, (h :: r).getLast (by simp) = g := ⟨_, rfl⟩
      dsimp only
      rw [hg] at et ⊢
      have i1 := ix_l (i := -1) (v := .int g) l2' (by rw [et, List.map_append]; exact atI_last)
      simp [-e_and, -List.map_map, rng2_i c1 c2, cr, hc, seqW_l l1, cr2, eqe, i0, i1, ew]
/-! ### areas moved -/
abbrev ar (a b c d : Int) : Wv := .tup [.int a, .int b, .int c, .int d]
def aw : Option (Int × Int × Int × Int) → Wv
  | none => .non
  | some (a, b, c, d) => ar a b c d
def Sh.with (s : Sh) (a b c d : Int) : Option (Int × Int × Int × Int) := if s.rows = true then (s.ends a c).map fun e => (e.1, b, e.2, d) else (s.ends b d).map fun e => (a, e.1, c, e.2)
def Sh.area (s : Sh) (a b c d : Int) : Option (Int × Int × Int × Int) := match s.with a b c d with
  | none => none
  | some (a, b, c, d) => if isA a b c d = true then some (a, b, c, d) else none
theorem is_nn {st : Hs} : oIs .non .non st = .ok (.bl true) st := rfl
theorem is_tn {xs : List Wv} {st : Hs} : oIs (.tup xs) .non st = .ok (.bl false) st := rfl
theorem isn_nn {st : Hs} : oIsNot .non .non st = .ok (.bl false) st := rfl
theorem isn_tn {xs : List Wv} {st : Hs} : oIsNot (.tup xs) .non st = .ok (.bl true) st := rfl
theorem is_in' {i : Int} {st : Hs} : oIs (.int i) .non st = .ok (.bl false) st := rfl
theorem pr0 {x y : Wv} {st : Hs} : oIx (.tup [x, y]) (.int 0) st = .ok x st := ix_t rfl
theorem pr1 {x y : Wv} {st : Hs} : oIx (.tup [x, y]) (.int 1) st = .ok y st := ix_t rfl
theorem isA_of {a b c d : Int} (h : isA a b c d = true) : 0 ≤ a ∧ a ≤ c ∧ c < 99 ∧ 0 ≤ b ∧ b ≤ d ∧ d < 26 := isC_of (isA_p h).2.2
theorem with_ends {s : Sh} (o : s.Ok) {a b c d : Int} (h : isA a b c d = true) {st : Hs} : ∃ st', F_area_with_ends [s.w, ar a b c d] st = .ok (aw (s.with a b c d)) st' ∧ Gr st st' := by
  have q := isA_of h
  unfold Sh.with
  unfold F_area_with_ends fnF g_area_with_ends
  cases hr : s.rows with
  | true =>
    obtain ⟨s1, e1, g1⟩ := moved_ends o (lo := a) (hi := c) (st := st) (by omega) (by omega) (by omega) (by omega)
    refine ⟨s1, ?_, g1⟩
    cases ee : s.ends a c with
    | none =>
      rw [ee] at e1
      simp only [ew] at e1
      simp [is_of_rows, hr, ar, ix_t at0, ix_t at2, e1, is_nn, aw]
    | some p =>
      rw [ee] at e1
      obtain ⟨x, y⟩ := p
      simp only [ew] at e1
      simp [is_of_rows, hr, ar, ix_t at0, ix_t at1, ix_t at2, ix_t at3, e1, is_tn, pr0, pr1, aw]
  | false =>
    obtain ⟨s1, e1, g1⟩ := moved_ends o (lo := b) (hi := d) (st := st) (by omega) (by omega) (by omega) (by omega)
    refine ⟨s1, ?_, g1⟩
    cases ee : s.ends b d with
    | none =>
      rw [ee] at e1
      simp only [ew] at e1
      simp [is_of_rows, hr, ar, ix_t at1, ix_t at3, e1, is_nn, aw]
    | some p =>
      rw [ee] at e1
      obtain ⟨x, y⟩ := p
      simp only [ew] at e1
      simp [is_of_rows, hr, ar, ix_t at0, ix_t at1, ix_t at2, ix_t at3, e1, is_tn, pr0, pr1, aw]
theorem moved_area {s : Sh} (o : s.Ok) {a b c d : Int} (h : isA a b c d = true) {st : Hs} : ∃ st', F_moved_area [s.w, ar a b c d] st = .ok (aw (s.area a b c d)) st' ∧ Gr st st' := by
  obtain ⟨s1, e1, g1⟩ := with_ends o h (st := st)
  refine ⟨s1, ?_, g1⟩
  unfold F_moved_area fnF g_moved_area Sh.area
  cases ee : s.with a b c d with
  | none =>
    rw [ee] at e1
    simp only [aw] at e1
    simp [e1, isn_nn, aw]
  | some p =>
    rw [ee] at e1
    obtain ⟨x, y, z, t⟩ := p
    simp only [aw] at e1
    cases hA : isA x y z t with
    | true => simp [e1, isn_tn, is_area, hA, aw]
    | false => simp [e1, isn_tn, is_area, hA, aw]
theorem most_r {s : Sh} (h : s.rows = true) : s.most = 99 := by unfold Sh.most; rw [h]; rfl
theorem most_c {s : Sh} (h : s.rows = false) : s.most = 26 := by unfold Sh.most; rw [h]; rfl
theorem isA_iff {a b c d : Int} (h : 0 ≤ a ∧ a ≤ c ∧ c < 99 ∧ 0 ≤ b ∧ b ≤ d ∧ d < 26) : isA a b c d = decide ((c - a + 1) * (d - b + 1) ≤ 300) := by
  unfold isA isC isO isP
  obtain ⟨h1, h2, h3, h4, h5, h6⟩ := h
  rw [decide_eq_true h1, decide_eq_true h2, decide_eq_true h3, decide_eq_true h4, decide_eq_true h5, decide_eq_true h6, decide_eq_true (show a < 99 by omega), decide_eq_true (show b < 26 by omega), decide_eq_true (show 0 ≤ c by omega), decide_eq_true (show 0 ≤ d by omega)]
  rfl
theorem law_area_moved {s : Sh} (o : s.Ok) {a b c d : Int} (h : isA a b c d = true) {st : Hs} : ∃ st', F__law_area_moved [s.w, ar a b c d] st = .ok (aw (s.area a b c d)) st' ∧ Gr st st' := by
  have q := isA_of h
  have sl4' := fun st : Hs => sl4 (s := s) (st := st)
  have e4' := fun st : Hs => e4 (s := s) (st := st)
  unfold Sh.area Sh.with
  unfold F__law_area_moved fnF g__law_area_moved
  cases hr : s.rows with
  | true =>
    rw [hr] at e4'
    obtain ⟨s1, e1, g1⟩ := law_ends (s := s) (lo := a) (hi := c) (st := st) (by omega) (by omega) (by omega) (by omega)
    rw [← ends_same o (by omega)] at e1
    refine ⟨s1, ?_, g1⟩
    cases ee : s.ends a c with
    | none =>
      rw [ee] at e1
      simp only [ew] at e1
      simp [-eq_s, w0, sl4', e4', ar, ix_t at0, ix_t at1, ix_t at2, ix_t at3, e1, is_nn, aw]
    | some p =>
      obtain ⟨x, y⟩ := p
      have f := ends_facts o (by omega) (by omega) (by rw [most_r hr]; omega) ee
      rw [most_r hr] at f
      rw [ee] at e1
      simp only [ew] at e1
      have hA := isA_iff (a := x) (b := b) (c := y) (d := d) (by omega)
      have m := fun st : Hs => mul_l (st := st) (i := y - x + 1) (j := d - b + 1) (by omega) (by omega)
      by_cases hp : (y - x + 1) * (d - b + 1) ≤ 300
      · rw [decide_eq_true hp] at hA
        have hp' : ¬ 300 < (y - x + 1) * (d - b + 1) := by omega
        simp [-eq_s, w0, sl4', e4', ar, ix_t at0, ix_t at1, ix_t at2, ix_t at3, e1, is_tn, pr0, pr1, m, hp', hA, aw]
      · rw [decide_eq_false hp] at hA
        have hp' : 300 < (y - x + 1) * (d - b + 1) := by omega
        simp [-eq_s, w0, sl4', e4', ar, ix_t at0, ix_t at1, ix_t at2, ix_t at3, e1, is_tn, pr0, pr1, m, hp', hA, aw]
  | false =>
    rw [hr] at e4'
    obtain ⟨s1, e1, g1⟩ := law_ends (s := s) (lo := b) (hi := d) (st := st) (by omega) (by omega) (by omega) (by omega)
    rw [← ends_same o (by omega)] at e1
    refine ⟨s1, ?_, g1⟩
    cases ee : s.ends b d with
    | none =>
      rw [ee] at e1
      simp only [ew] at e1
      simp [-eq_s, w0, sl4', e4', ar, ix_t at0, ix_t at1, ix_t at2, ix_t at3, e1, is_nn, is_tn, aw]
    | some p =>
      obtain ⟨x, y⟩ := p
      have f := ends_facts o (by omega) (by omega) (by rw [most_c hr]; omega) ee
      rw [most_c hr] at f
      rw [ee] at e1
      simp only [ew] at e1
      have hA := isA_iff (a := a) (b := x) (c := c) (d := y) (by omega)
      have m := fun st : Hs => mul_l (st := st) (i := c - a + 1) (j := y - x + 1) (by omega) (by omega)
      by_cases hp : (c - a + 1) * (y - x + 1) ≤ 300
      · rw [decide_eq_true hp] at hA
        have hp' : ¬ 300 < (c - a + 1) * (y - x + 1) := by omega
        simp [-eq_s, w0, sl4', e4', ar, ix_t at0, ix_t at1, ix_t at2, ix_t at3, e1, is_tn, pr0, pr1, m, hp', hA, aw]
      · rw [decide_eq_false hp] at hA
        have hp' : 300 < (c - a + 1) * (y - x + 1) := by omega
        simp [-eq_s, w0, sl4', e4', ar, ix_t at0, ix_t at1, ix_t at2, ix_t at3, e1, is_tn, pr0, pr1, m, hp', hA, aw]
/-! places moved -/
abbrev pw (p : Int × Int) : Wv := .tup [.int p.1, .int p.2]
def Sh.place (s : Sh) (p : Int × Int) : Option (Int × Int) := if s.rows = true then (s.line p.1).map fun r => (r, p.2) else (s.line p.2).map fun c => (p.1, c)
theorem moved_place {s : Sh} (o : s.Ok) {p : Int × Int} {st : Hs} : F_moved_place [s.w, pw p] st = .ok (ew (s.place p)) st := by
  obtain ⟨r, c⟩ := p
  unfold F_moved_place fnF g_moved_place Sh.place
  cases hr : s.rows with
  | true =>
    have m := moved_line o (l := r) (st := st)
    cases e : s.line r with
    | none => rw [e] at m; simp only [ow] at m; simp [is_of_rows, hr, pr0, pr1, m, e, is_nn, ew]
    | some x => rw [e] at m; simp only [ow] at m; simp [is_of_rows, hr, pr0, pr1, m, e, is_in', ew]
  | false =>
    have m := moved_line o (l := c) (st := st)
    cases e : s.line c with
    | none => rw [e] at m; simp only [ow] at m; simp [is_of_rows, hr, pr0, pr1, m, e, is_nn, ew]
    | some x => rw [e] at m; simp only [ow] at m; simp [is_of_rows, hr, pr0, pr1, m, e, is_in', ew]
def Sh.newP (s : Sh) (p : Int × Int) : Bool := s.new (if s.rows = true then p.1 else p.2)
theorem in_new_line {s : Sh} {p : Int × Int} {st : Hs} : F__law_in_new_line [s.w, pw p] st = .ok (.bl (s.newP p)) st := by
  obtain ⟨r, c⟩ := p
  have sl4' := sl4 (s := s) (st := st)
  have n4' := n4 (s := s) (st := st)
  unfold F__law_in_new_line fnF g__law_in_new_line Sh.newP Sh.new
  cases hr : s.rows with
  | true =>
    rw [hr] at n4'
    have ib : oInt2 [.bl false] st = .ok (.int 0) st := rfl
    by_cases c1 : s.at' ≤ r
    · simp [-ne_s, w0, w1, w2, sl4', n4', ib, pr0, c1]
    · simp [-ne_s, w0, w1, w2, sl4', n4', ib, pr0, c1]
  | false =>
    rw [hr] at n4'
    have ib : oInt2 [.bl true] st = .ok (.int 1) st := rfl
    by_cases c1 : s.at' ≤ c
    · simp [-ne_s, w0, w1, w2, sl4', n4', ib, pr1, c1]
    · simp [-ne_s, w0, w1, w2, sl4', n4', ib, pr1, c1]
/-! ### places of areas -/
def areaP (R C : List Int) : List (Int × Int) := R.flatMap fun r => C.map fun c => (r, c)
theorem areaW_P {a b : Int} {m n : Nat} : areaW a b m n = (areaP (rngI a m) (rngI b n)).map pw := by
  unfold areaW areaP rngI rowW
  rw [List.map_flatMap, List.flatMap_def, List.map_map]
  congr 2
  funext k
  simp
theorem fm_rows {f : Int → Option Int} {g : Int × Int → Option (Int × Int)} (hg : ∀ p, g p = (f p.1).map fun r => (r, p.2)) {C : List Int} : ∀ R : List Int, (areaP R C).filterMap g = areaP (R.filterMap f) C
  | [] => rfl
  | r :: R => by
    have ih := fm_rows hg (C := C) R
    have e : areaP (r :: R) C = C.map (fun c => (r, c)) ++ areaP R C := rfl
    rw [e, List.filterMap_append, ih, List.filterMap_map]
    have hc : (g ∘ fun c => (r, c)) = fun c => (f r).map fun x => (x, c) := by funext c; exact hg (r, c)
    rw [hc]
    cases hf : f r with
    | none =>
      rw [List.filterMap_cons_none hf]
      have : C.filterMap (fun c => (none : Option Int).map fun x => (x, c)) = [] := by simp
      rw [this]
      rfl
    | some x =>
      rw [List.filterMap_cons_some hf]
      have : C.filterMap (fun c => (some x : Option Int).map fun x => (x, c)) = C.map fun c => (x, c) := by simp
      rw [this]
      rfl
theorem fm_cols {f : Int → Option Int} {g : Int × Int → Option (Int × Int)} (hg : ∀ p, g p = (f p.2).map fun c => (p.1, c)) {C : List Int} : ∀ R : List Int, (areaP R C).filterMap g = areaP R (C.filterMap f)
  | [] => rfl
  | r :: R => by
    have ih := fm_cols hg (C := C) R
    have e : areaP (r :: R) C = C.map (fun c => (r, c)) ++ areaP R C := rfl
    rw [e, List.filterMap_append, ih, List.filterMap_map]
    have hc : (g ∘ fun c => (r, c)) = fun c => (f c).map fun x => (r, x) := by funext c; exact hg (r, c)
    rw [hc]
    have : C.filterMap (fun c => (f c).map fun x => (r, x)) = (C.filterMap f).map fun c => (r, c) := by rw [List.map_filterMap]
    rw [this]
    rfl
theorem fi_rows {t : Int → Bool} {C : List Int} : ∀ R : List Int, (areaP R C).filter (fun p => t p.1) = areaP (R.filter t) C
  | [] => rfl
  | r :: R => by
    have ih := fi_rows (t := t) (C := C) R
    have e : areaP (r :: R) C = C.map (fun c => (r, c)) ++ areaP R C := rfl
    rw [e, List.filter_append, ih, List.filter_map]
    cases ht : t r with
    | true =>
      rw [List.filter_cons_of_pos ht]
      have : C.filter ((fun p : Int × Int => t p.1) ∘ fun c => (r, c)) = C := List.filter_eq_self.mpr fun c _ => ht
      rw [this]
      rfl
    | false =>
      rw [List.filter_cons_of_neg (by rw [ht]; simp)]
      have : C.filter ((fun p : Int × Int => t p.1) ∘ fun c => (r, c)) = [] := List.filter_eq_nil_iff.mpr fun c _ => by show ¬ t r = true; rw [ht]; simp
      rw [this]
      rfl
theorem fi_cols {t : Int → Bool} {C : List Int} : ∀ R : List Int, (areaP R C).filter (fun p => t p.2) = areaP R (C.filter t)
  | [] => rfl
  | r :: R => by
    have ih := fi_cols (t := t) (C := C) R
    have e : areaP (r :: R) C = C.map (fun c => (r, c)) ++ areaP R C := rfl
    rw [e, List.filter_append, ih, List.filter_map]
    rfl
/-- what is left is what is there now -/
theorem left_now {s : Sh} (o : s.Ok) {a b c d a' b' c' d' : Int} (h : isA a b c d = true) (he : s.area a b c d = some (a', b', c', d')) :
    isA a' b' c' d' = true ∧ (areaP (rngI a (c + 1 - a).toNat) (rngI b (d + 1 - b).toNat)).filterMap s.place = (if s.inn = true then (areaP (rngI a' (c' + 1 - a').toNat) (rngI b' (d' + 1 - b').toNat)).filter (fun p => !s.newP p) else areaP (rngI a' (c' + 1 - a').toNat) (rngI b' (d' + 1 - b').toNat)) := by
  have q := isA_of h
  unfold Sh.area at he
  cases ew : s.with a b c d with
  | none => rw [ew] at he; cases he
  | some z =>
    obtain ⟨x0, x1, x2, x3⟩ := z
    rw [ew] at he
    dsimp only at he
    by_cases hA : isA x0 x1 x2 x3 = true
    · rw [if_pos hA] at he
      cases he
      refine ⟨hA, ?_⟩
      unfold Sh.with at ew
      cases hr : s.rows with
      | true =>
        rw [hr, if_pos rfl] at ew
        cases ee : s.ends a c with
        | none => rw [ee] at ew; cases ew
        | some p =>
          obtain ⟨e0, e1⟩ := p
          rw [ee] at ew
          cases ew
          have f := ends_facts o (by omega) (by omega) (by rw [most_r hr]; omega) ee
          rw [fm_rows (f := s.line) (fun p => by unfold Sh.place; rw [hr]; rfl), f.2.2.2]
          have hn : (fun p : Int × Int => !s.newP p) = fun p => (fun l => !s.new l) p.1 := by funext p; unfold Sh.newP; rw [hr]; rfl
          rw [hn]
          cases s.inn with
          | false => rfl
          | true => exact (fi_rows (t := fun l => !s.new l) _).symm
      | false =>
        rw [hr, if_neg (by simp)] at ew
        cases ee : s.ends b d with
        | none => rw [ee] at ew; cases ew
        | some p =>
          obtain ⟨e0, e1⟩ := p
          rw [ee] at ew
          cases ew
          have f := ends_facts o (by omega) (by omega) (by rw [most_c hr]; omega) ee
          rw [fm_cols (f := s.line) (fun p => by unfold Sh.place; rw [hr]; rfl), f.2.2.2]
          have hn : (fun p : Int × Int => !s.newP p) = fun p => (fun l => !s.new l) p.2 := by funext p; unfold Sh.newP; rw [hr]; rfl
          rw [hn]
          cases s.inn with
          | false => rfl
          | true => exact (fi_cols (t := fun l => !s.new l) _).symm
    · rw [if_neg hA] at he; cases he
theorem pairs_dat {st : Hs} : ∀ ps : List (Int × Int), mapO (datum st 19) (ps.map pw) = some (ps.map fun p => PyData.tuple [.int p.1, .int p.2])
  | [] => rfl
  | p :: r => by
    rw [List.map_cons]
    unfold mapO
    rw [pairs_dat r]
    rfl
theorem pairs_all : ∀ ps : List (Int × Int), PyData.eqvAll (ps.map fun p => PyData.tuple [.int p.1, .int p.2]) (ps.map fun p => PyData.tuple [.int p.1, .int p.2]) = true
  | [] => by simp [PyData.eqvAll]
  | p :: r => by
    have ih := pairs_all r
    simp only [List.map_cons]
    simp [PyData.eqvAll, PyData.eqv, ih]
theorem pairs_eq {ps : List (Int × Int)} {x y : Nat} {st : Hs} (hx : lstOf st x = some (ps.map pw)) (hy : lstOf st y = some (ps.map pw)) : oEq (.ref x) (.ref y) st = .ok (.bl true) st := by
  have d1 := dat_l (n := 19) hx
  have d2 := dat_l (n := 19) hy
  rw [pairs_dat] at d1 d2
  refine eq_dat d1 d2 ?_
  simp [PyData.eqv]
  exact pairs_all ps
theorem aw_same {x : Option (Int × Int × Int × Int)} {st : Hs} : oNe (aw x) (aw x) st = .ok (.bl false) st := by
  cases x with
  | none => rfl
  | some p => exact ne_dat rfl rfl (by simp [PyData.eqv, PyData.eqvAll])
theorem areaP_len {R C : List Int} : (areaP R C).length = R.length * C.length := by
  unfold areaP
  induction R with
  | nil => simp
  | cons r R ih => rw [List.flatMap_cons, List.length_append, ih, List.length_map, List.length_cons, Nat.succ_mul]; omega
theorem rngI_len {lo : Int} {n : Nat} : (rngI lo n).length = n := by unfold rngI; simp
theorem isA_len {a b c d : Int} (h : isA a b c d = true) : (areaP (rngI a (c + 1 - a).toNat) (rngI b (d + 1 - b).toNat)).length ≤ 100 * 30 := by
  have q := isA_of h
  rw [areaP_len, rngI_len, rngI_len]
  exact Nat.mul_le_mul (by omega) (by omega)
theorem places {a b c d : Int} (h : isA a b c d = true) {st : Hs} : ∃ st', F_area_places [ar a b c d] st = .ok (.ref st.length) st' ∧ Gr st st' ∧ lstOf st' st.length = some ((areaP (rngI a (c + 1 - a).toNat) (rngI b (d + 1 - b).toNat)).map pw) := by
  obtain ⟨more, e⟩ := area_places_ok h (st := st)
  exact ⟨_, e, Gr.app, by rw [lstOf_mid, areaW_P]⟩
theorem right {s : Sh} (o : s.Ok) {a b c d : Int} (h : isA a b c d = true) {st : Hs} : ∃ st', F__law_right [s.w, ar a b c d] st = .ok (.bl true) st' ∧ Gr st st' := by
  obtain ⟨s1, e1, g1⟩ := moved_area o h (st := st)
  obtain ⟨s2, e2, g2⟩ := law_area_moved o h (st := s1)
  have e3 := aw_same (x := s.area a b c d) (st := s2)
  unfold F__law_right fnF g__law_right
  cases ea : s.area a b c d with
  | none =>
    rw [ea] at e1 e2 e3
    simp only [aw] at e1 e2 e3
    exact ⟨s2, by simp [e1, e2, e3, is_nn], g1.trans g2⟩
  | some z =>
    obtain ⟨a', b', c', d'⟩ := z
    rw [ea] at e1 e2 e3
    simp only [aw] at e1 e2 e3
    obtain ⟨hA, ln⟩ := left_now o h ea
    obtain ⟨s3, e4, g3, l3⟩ := places h (st := s2)
    have n1 := isA_len h
    have n2 := isA_len hA
    generalize areaP (rngI a (c + 1 - a).toNat) (rngI b (d + 1 - b).toNat) = P at l3 ln n1
    obtain ⟨ρ, hρ⟩ : ∃ ρ : Rho, ρ = [some s.w, some (ar a b c d), some (ar a' b' c' d'), none, none] := ⟨_, rfl⟩
    have c3 : compRun [("shift", 0)] g__law_right_C3t g__law_right_C3e ρ (some s2.length, P.map pw) s3 = .ok (.ref s3.length) (s3 ++ [.lst ((P.map s.place).map K45.ew)]) := by
      rw [comp_pure (w := (some s2.length, P.map pw)) (t := fun _ => true) (f := fun v => match v with | .tup [.int x, .int y] => K45.ew (s.place (x, y)) | _ => .non) l3]
      · congr 4
        rw [List.filter_eq_self.mpr (fun _ _ => rfl)]
        show (P.map pw).map _ = _
        rw [List.map_map, List.map_map]
        rfl
      · intro v hv acc
        rfl
      · intro v hv _ acc
        have hv : v ∈ P.map pw := hv
        obtain ⟨p, _, rfl⟩ := List.mem_map.mp hv
        subst hρ
        have mp := moved_place o (p := p) (st := s3 ++ [.lst acc])
        unfold g__law_right_C3e capR
        simp [mp]
      · show (P.map pw).length < lim
        rw [List.length_map]; unfold lim; omega
    have l4 : lstOf (s3 ++ [.lst ((P.map s.place).map K45.ew)]) s3.length = some ((P.map s.place).map K45.ew) := lstOf_new
    have g4 : Gr s3 (s3 ++ [.lst ((P.map s.place).map K45.ew)]) := Gr.push
    generalize s3 ++ [.lst ((P.map s.place).map K45.ew)] = s4 at c3 l4 g4
    have c2 : ∀ ρ, compRun [] g__law_right_C2t g__law_right_C2e ρ (some s3.length, (P.map s.place).map K45.ew) s4 = .ok (.ref s4.length) (s4 ++ [.lst ((P.filterMap s.place).map pw)]) := by
      intro ρ
      rw [comp_pure (w := (some s3.length, (P.map s.place).map K45.ew)) (t := fun v => match v with | .non => false | _ => true) (f := id) l4]
      · rw [List.map_id]
        congr 4
        show ((P.map s.place).map K45.ew).filter _ = _
        clear n1 ln l3 c3 l4
        induction P with
        | nil => rfl
        | cons l r ih =>
          cases e : s.place l with
          | none => simp [e, K45.ew] at ih ⊢; exact ih
          | some x => simp [e, K45.ew] at ih ⊢; exact ih
      · intro v hv acc
        have hv : v ∈ (P.map s.place).map K45.ew := hv
        obtain ⟨x, _, rfl⟩ := List.mem_map.mp hv
        unfold g__law_right_C2t
        cases x <;> simp [K45.ew, isn_nn, isn_tn]
      · intro v hv _ acc
        rfl
      · show ((P.map s.place).map K45.ew).length < lim
        simp; unfold lim; omega
    have l5 : lstOf (s4 ++ [.lst ((P.filterMap s.place).map pw)]) s4.length = some ((P.filterMap s.place).map pw) := lstOf_new
    have g5 : Gr s4 (s4 ++ [.lst ((P.filterMap s.place).map pw)]) := Gr.push
    generalize s4 ++ [.lst ((P.filterMap s.place).map pw)] = s5 at c2 l5 g5
    obtain ⟨s6, e6, g6, l6⟩ := places hA (st := s5)
    have sl2' := sl2 (s := s) (st := s6)
    have e2' := K45.e2 (s := s) (st := s6)
    have it : ∀ st : Hs, oIsA tbl tblT [ar a' b' c' d', .ty "tuple"] st = .ok (.bl true) st := fun _ => rfl
    rw [ln] at l5
    generalize areaP (rngI a' (c' + 1 - a').toNat) (rngI b' (d' + 1 - b').toNat) = Q at l5 l6 n2
    cases hin : s.inn with
    | false =>
      rw [hin] at e2' l5
      rw [if_neg (by simp)] at l5
      have eqq := pairs_eq (g6.lst l5) l6
      refine ⟨s6, ?_, g1.trans (g2.trans (g3.trans (g4.trans (g5.trans g6))))⟩
      subst hρ
      simp [-eq_s, -List.map_map, e1, e2, e3, is_tn, e4, seqW_l l3, c3, seqW_l l4, c2, e6, w0, sl2', e2', it, eqq]
    | true =>
      rw [hin] at e2' l5
      rw [if_pos rfl] at l5
      have c1 : ∀ ρ : Rho, ρ[0]? = some (some s.w) → compRun [("shift", 0)] g__law_right_C1t g__law_right_C1e ρ (some s5.length, Q.map pw) s6 = .ok (.ref s6.length) (s6 ++ [.lst ((Q.filter fun p => !s.newP p).map pw)]) := by
        intro ρ hρ
        rw [comp_pure (w := (some s5.length, Q.map pw)) (t := fun v => match v with | .tup [.int x, .int y] => !s.newP (x, y) | _ => false) (f := id) l6]
        · rw [List.map_id]
          congr 4
          show (Q.map pw).filter _ = _
          rw [List.filter_map]
          rfl
        · intro v hv acc
          have hv : v ∈ Q.map pw := hv
          obtain ⟨p, _, rfl⟩ := List.mem_map.mp hv
          have mp := in_new_line (s := s) (p := p) (st := s6 ++ [.lst acc])
          unfold g__law_right_C1t capR
          simp [hρ, mp]
        · intro v hv _ acc
          rfl
        · show (Q.map pw).length < lim
          rw [List.length_map]; unfold lim; omega
      have l7 : lstOf (s6 ++ [.lst ((Q.filter fun p => !s.newP p).map pw)]) s6.length = some ((Q.filter fun p => !s.newP p).map pw) := lstOf_new
      have g7 : Gr s6 (s6 ++ [.lst ((Q.filter fun p => !s.newP p).map pw)]) := Gr.push
      generalize s6 ++ [.lst ((Q.filter fun p => !s.newP p).map pw)] = s7 at c1 l7 g7
      have eqq := pairs_eq (g7.lst (g6.lst l5)) l7
      refine ⟨s7, ?_, g1.trans (g2.trans (g3.trans (g4.trans (g5.trans (g6.trans g7)))))⟩
      have c1' := c1 [some s.w, some (ar a b c d), some (ar a' b' c' d'), some (.ref s4.length), some (.ref s5.length)] rfl
      subst hρ
      simp [-eq_s, -List.map_map, e1, e2, e3, is_tn, e4, seqW_l l3, c3, seqW_l l4, c2, e6, w0, sl2', e2', seqW_l l6, c1', it, eqq]
/-! ### the draws -/
structure Pot (l : Nat) (st : Hs) : Prop where
  p : ∃ x y : Int, st[l]? = some (.lst [.int x, .int y]) ∧ 0 ≤ y ∧ y < 2147483648
theorem fm_b {x m : Int} (h : 0 < m) : 0 ≤ x.fmod m ∧ x.fmod m < m := ⟨Int.fmod_nonneg_of_pos x h, Int.fmod_lt_of_pos x h⟩
theorem log_s {i : Int} (h1 : -1000 ≤ i) (h2 : i ≤ 1000) : i.natAbs.log2 < 9000 := by
  have := log_lt (b := 1000) (k := 10) h1 h2 (by decide) (by decide)
  omega
theorem take {l : Nat} {st : Hs} (hp : Pot l st) {m : Int} (h0 : 1 ≤ m) (h1 : m ≤ 1000) : ∃ v st', F__law_take [.ref l, .int m] st = .ok (.int v) st' ∧ 0 ≤ v ∧ v < m ∧ Pot l st' ∧ Keep l st st' := by
  obtain ⟨x, y, hl, y0, y1⟩ := hp.p
  have hl' := lst_get hl
  have i0 := ix_l (i := 0) (v := .int x) hl' rfl
  have i1 := ix_l (i := 1) (v := .int y) hl' rfl
  have hm : m ≠ 0 ∧ m.natAbs.log2 < 9000 := ⟨by omega, log_s (by omega) (by omega)⟩
  unfold F__law_take fnF g__law_take
  by_cases hx : 0 < x
  · refine ⟨x.fmod m, st.set l (.lst [.int (x.fdiv m), .int y]), ?_, (fm_b (by omega)).1, (fm_b (by omega)).2, ⟨_, _, set_get hl, y0, y1⟩, Keep.set⟩
    simp [i0, hx, mod_i hm.1, fdiv_i hm, gSetI, oSet, hl, L2.ixN]
  · obtain ⟨z, hz⟩ : ∃ z, (y * 48271 + 11).fmod 2147483647 = z := ⟨_, rfl⟩
    have zb := fm_b (x := y * 48271 + 11) (m := 2147483647) (by omega)
    rw [hz] at zb
    have hl2 : (st.set l (.lst [.int x, .int z]))[l]? = some (.lst [.int x, .int z]) := set_get hl
    have j1 := ix_l (i := 1) (v := .int z) (lst_get hl2) rfl
    refine ⟨((z * z).fmod 2147483629).fdiv 8 |>.fmod m, st.set l (.lst [.int x, .int z]), ?_, (fm_b (by omega)).1, (fm_b (by omega)).2, ⟨_, _, hl2, zb.1, by omega⟩, Keep.set⟩
    have m1 := mul_l (st := st) (i := y) (j := 48271) (by omega) (by omega)
    have m2 := mul_l (st := st.set l (.lst [.int x, .int z])) (i := z) (j := z) (by omega) (by omega)
    have a1 := mod_i (st := st) (i := y * 48271 + 11) (j := 2147483647) (by decide)
    rw [hz] at a1
    have a2 := mod_i (st := st.set l (.lst [.int x, .int z])) (i := z * z) (j := 2147483629) (by decide)
    have a3 := fdiv_i (st := st.set l (.lst [.int x, .int z])) (i := (z * z).fmod 2147483629) (j := 8) ⟨by decide, by decide⟩
    have a4 := mod_i (st := st.set l (.lst [.int x, .int z])) (i := ((z * z).fmod 2147483629).fdiv 8) (j := m) hm.1
    simp [i0, i1, hx, m1, a1, gSetI, oSet, hl, L2.ixN, j1, m2, a2, a3, a4]
theorem pot {x : Int} {st : Hs} : ∃ st', F__law_pot [.int x] st = .ok (.ref st.length) st' ∧ Pot st.length st' ∧ Gr st st' := by
  have b := fm_b (x := x) (m := 1000000007) (by omega)
  refine ⟨st ++ [.lst [.int x, .int (x.fmod 1000000007 + 1)]], ?_, ⟨_, _, new_get, by omega, by omega⟩, Gr.push⟩
  have a1 := mod_i (st := st) (i := x) (j := 1000000007) (by decide)
  unfold F__law_pot fnF g__law_pot
  simp [a1]
theorem Pot.gr {l : Nat} {s1 s2 : Hs} (h : Pot l s1) (g : Gr s1 s2) : Pot l s2 := by
  obtain ⟨x, y, e, q⟩ := h.p
  exact ⟨x, y, g.get e, q⟩
theorem place {l : Nat} {st : Hs} (hp : Pot l st) : ∃ r c st', F__law_place [.ref l] st = .ok (.tup [.int r, .int c]) st' ∧ (0 ≤ r ∧ r < 99) ∧ (0 ≤ c ∧ c < 26) ∧ Pot l st' ∧ Keep l st st' := by
  obtain ⟨v1, s1, e1, p0, p1, P1, K1⟩ := take hp (m := 12) (by omega) (by omega)
  obtain ⟨v2, s2, e2, _, _, P2, K2⟩ := take P1 (m := 5) (by omega) (by omega)
  obtain ⟨v3, s3, e3, q0, q1, P3, K3⟩ := take P2 (m := 6) (by omega) (by omega)
  obtain ⟨v4, s4, e4, _, _, P4, K4⟩ := take P3 (m := 5) (by omega) (by omega)
  have ib : ∀ (b : Bool) (st : Hs), oInt2 [.bl b] st = .ok (.int (if b = true then 1 else 0)) st := fun _ _ => rfl
  have m1 := mul_l (st := s2) (i := 87) (j := if (v2 == 4) = true then 1 else 0) (by omega) (by omega)
  have m2 := mul_l (st := s4) (i := 20) (j := if (v4 == 4) = true then 1 else 0) (by omega) (by omega)
  refine ⟨v1 + 87 * (if (v2 == 4) = true then 1 else 0), v3 + 20 * (if (v4 == 4) = true then 1 else 0), s4, ?_, ?_, ?_, P4, K1.trans (K2.trans (K3.trans K4))⟩
  · have f1 : oMulL (.int 87) (.int (if v2 = 4 then 1 else 0)) s2 = .ok (.int (87 * (if v2 = 4 then 1 else 0))) s2 := by simpa using m1
    have f2 : oMulL (.int 20) (.int (if v4 = 4 then 1 else 0)) s4 = .ok (.int (20 * (if v4 = 4 then 1 else 0))) s4 := by simpa using m2
    unfold F__law_place fnF g__law_place
    simp [e1, e2, ib, f1, e3, e4, f2]
  · split <;> omega
  · split <;> omega
theorem area {l : Nat} {st : Hs} (hp : Pot l st) : ∃ a b c d st', F__law_area [.ref l] st = .ok (ar a b c d) st' ∧ isA a b c d = true ∧ Pot l st' ∧ Keep l st st' := by
  obtain ⟨r, c, s1, e1, hr, hc, P1, K1⟩ := place hp
  obtain ⟨v, s2, e2, _, _, P2, K2⟩ := take P1 (m := 8) (by omega) (by omega)
  have sT : ∀ ρ3 : Option Wv, gSetT [1, 2] (gCall 1 F__law_place (gCons (gVar 0) gNil)) [some (.ref l), none, none, ρ3] st = .nx [some (.ref l), some (.int r), some (.int c), ρ3] s1 := by
    intro ρ3
    have : gCall 1 F__law_place (gCons (gVar 0) gNil) [some (.ref l), none, none, ρ3] st = .ok (.tup [.int r, .int c]) s1 := by simp [e1]
    unfold gSetT
    rw [this]
    rfl
  by_cases hv : v = 7
  · subst hv
    obtain ⟨h, s3, e3, h0, h1, P3, K3⟩ := take P2 (m := 99 - r) (by omega) (by omega)
    have hq : 1 ≤ (300 : Int).fdiv (1 + h) := by
      rw [Int.fdiv_eq_ediv_of_nonneg _ (by omega)]
      exact (Int.le_ediv_iff_mul_le (by omega)).mpr (by omega)
    have hq2 : (300 : Int).fdiv (1 + h) * (1 + h) ≤ 300 := by
      rw [Int.fdiv_eq_ediv_of_nonneg _ (by omega)]
      exact Int.ediv_mul_le _ (by omega)
    obtain ⟨w, hw⟩ : ∃ w, (300 : Int).fdiv (1 + h) = w := ⟨_, rfl⟩
    rw [hw] at hq hq2
    have fd := fdiv_i (st := s3) (i := 300) (j := 1 + h) ⟨by omega, log_s (by omega) (by omega)⟩
    rw [hw] at fd
    obtain ⟨M, hM⟩ : ∃ M, (if w < 26 - c then w else 26 - c) = M := ⟨_, rfl⟩
    have hM' : 1 ≤ M ∧ M ≤ w ∧ M ≤ 26 - c := by rw [← hM]; split <;> omega
    obtain ⟨k, s4, e4, k0, k1, P4, K4⟩ := take P3 (m := M) (by omega) (by omega)
    refine ⟨r, c, r + (1 + h) - 1, c + k, s4, ?_, ?_, P4, K1.trans (K2.trans (K3.trans K4))⟩
    · unfold F__law_area fnF g__law_area
      simp [sT, e2, e3, fd, hM, e4]
    · rw [isA_iff (by omega)]
      rw [decide_eq_true_eq]
      have : (r + (1 + h) - 1 - r + 1) * (c + k - c + 1) ≤ (1 + h) * w := Int.mul_le_mul (by omega) (by omega) (by omega) (by omega)
      have z : (1 + h) * w = w * (1 + h) := Int.mul_comm _ _
      omega
  · obtain ⟨h, s3, e3, h0, h1, P3, K3⟩ := take P2 (m := 6) (by omega) (by omega)
    obtain ⟨k, s4, e4, k0, k1, P4, K4⟩ := take P3 (m := 4) (by omega) (by omega)
    refine ⟨r, c, if r + h < 98 then r + h else 98, if c + k < 25 then c + k else 25, s4, ?_, ?_, P4, K1.trans (K2.trans (K3.trans K4))⟩
    · unfold F__law_area fnF g__law_area
      simp [sT, e2, beq_eq_false_iff_ne.mpr hv, e3, e4]
    · have q : r ≤ (if r + h < 98 then r + h else 98) ∧ (if r + h < 98 then r + h else 98) < 99 ∧ (if r + h < 98 then r + h else 98) ≤ r + 5 := by split <;> omega
      have q2 : c ≤ (if c + k < 25 then c + k else 25) ∧ (if c + k < 25 then c + k else 25) < 26 ∧ (if c + k < 25 then c + k else 25) ≤ c + 3 := by split <;> omega
      generalize (if r + h < 98 then r + h else 98) = x at q
      generalize (if c + k < 25 then c + k else 25) = y at q2
      rw [isA_iff (by omega), decide_eq_true_eq]
      have : (x - r + 1) * (y - c + 1) ≤ 6 * 4 := Int.mul_le_mul (by omega) (by omega) (by omega) (by omega)
      omega
theorem shift {l : Nat} {st : Hs} (hp : Pot l st) : ∃ (s : Sh) (st' : Hs), F__law_shift [.ref l] st = .ok s.w st' ∧ s.Ok ∧ Pot l st' ∧ Keep l st st' := by
  obtain ⟨x, y, hg, _⟩ := hp.p
  obtain ⟨v, s1, e1, v0, v1, P1, K1⟩ := take (hp.gr (Gr.push (o := .lst [.str "rows in", .str "rows out", .str "columns in", .str "columns out"]))) (m := 4) (by omega) (by omega)
  have hl1 : lstOf s1 st.length = some [.str "rows in", .str "rows out", .str "columns in", .str "columns out"] := K1.lst lstOf_new (by have := get_lt hg; omega)
  obtain ⟨r, i, hix⟩ : ∃ r i, oIx (.ref st.length) (.int v) s1 = .ok (.str (wayB r i)) s1 := by
    rcases (by omega : v = 0 ∨ v = 1 ∨ v = 2 ∨ v = 3) with rfl | rfl | rfl | rfl
    · exact ⟨true, true, ix_l hl1 rfl⟩
    · exact ⟨true, false, ix_l hl1 rfl⟩
    · exact ⟨false, true, ix_l hl1 rfl⟩
    · exact ⟨false, false, ix_l hl1 rfl⟩
  have mM : ∀ a m, (Sh.mk r i a m).most = (Sh.mk r i 0 0).most := fun _ _ => rfl
  obtain ⟨s2, e2, g2⟩ := most (s := Sh.mk r i 0 0) (st := s1)
  have mp := most_pos (Sh.mk r i 0 0)
  generalize hmm : (Sh.mk r i 0 0).most = M at e2 mp mM
  have e2 : F__law_most [.str (wayB r i)] s1 = .ok (.int M) s2 := e2
  obtain ⟨a0, s3, e3, a00, a01, P3, K3⟩ := take (P1.gr g2) (m := 12) (by omega) (by omega)
  obtain ⟨b0, s4, e4, _, _, P4, K4⟩ := take P3 (m := 3) (by omega) (by omega)
  -- at
  obtain ⟨a, s5, ea, ha0, ha1, P5, K5⟩ : ∃ a s5, gIf (gTst (gBin oEq (gCall 2 F__law_take (gCons (gVar 0) (gCons (gC (.int 3)) gNil))) (gC (.int 0)))) (gSet 3 (gCall 2 F__law_take (gCons (gVar 0) (gCons (gVar 2) gNil)))) gNext [some (.ref l), some (.str (wayB r i)), some (.int M), some (.int a0), none] s3 = .nx [some (.ref l), some (.str (wayB r i)), some (.int M), some (.int a), none] s5 ∧ 0 ≤ a ∧ a < M ∧ Pot l s5 ∧ Keep l s3 s5 := by
    by_cases hb : b0 = 0
    · obtain ⟨a, s5, e5, q0, q1, P5, K5⟩ := take P4 (m := M) (by omega) (by omega)
      exact ⟨a, s5, by simp [e4, hb, e5], q0, q1, P5, K4.trans K5⟩
    · exact ⟨a0, s4, by simp [e4, beq_eq_false_iff_ne.mpr hb], a00, by omega, P4, K4⟩
  obtain ⟨m0, s6, e6, m00, m01, P6, K6⟩ := take P5 (m := 5) (by omega) (by omega)
  obtain ⟨b1, s7, e7, _, _, P7, K7⟩ := take P6 (m := 6) (by omega) (by omega)
  obtain ⟨m, s8, em, hm0, hm1, P8, K8⟩ : ∃ m s8, gIf (gTst (gBin oEq (gCall 2 F__law_take (gCons (gVar 0) (gCons (gC (.int 6)) gNil))) (gC (.int 0)))) (gSet 4 (gBin oAdd (gC (.int 1)) (gCall 2 F__law_take (gCons (gVar 0) (gCons (gVar 2) gNil))))) gNext [some (.ref l), some (.str (wayB r i)), some (.int M), some (.int a), some (.int (1 + m0))] s6 = .nx [some (.ref l), some (.str (wayB r i)), some (.int M), some (.int a), some (.int m)] s8 ∧ 1 ≤ m ∧ m ≤ 99 ∧ Pot l s8 ∧ Keep l s6 s8 := by
    by_cases hb : b1 = 0
    · obtain ⟨a, s8, e8, q0, q1, P8, K8⟩ := take P7 (m := M) (by omega) (by omega)
      exact ⟨1 + a, s8, by simp [e7, hb, e8], by omega, by omega, P8, K7.trans K8⟩
    · exact ⟨1 + m0, s7, by simp [e7, beq_eq_false_iff_ne.mpr hb], by omega, by omega, P7, K7⟩
  have KK : Keep l st s8 := (Keep.push).trans (K1.trans (g2.keep.trans (K3.trans (K5.trans (K6.trans K8)))))
  have sl3' := sl3 (s := Sh.mk r i 0 0) (st := s8)
  have e3' := K45.e3 (s := Sh.mk r i 0 0) (st := s8)
  have hw : (Sh.mk r i 0 0).way = wayB r i := rfl
  have hi : (Sh.mk r i 0 0).inn = i := rfl
  rw [hw] at sl3' e3'
  rw [hi] at e3'
  cases i with
  | true =>
    refine ⟨⟨r, true, a, m⟩, s8, ?_, ⟨ha0, by rw [mM]; exact ha1, hm0, hm1, fun z => by cases z⟩, P8, KK⟩
    unfold F__law_shift fnF g__law_shift
    simp only [e_seq, ea, em, e_set]
    simp [-eq_s, -e_if, e1, hix, e2, e3, ea, e6, em]
    simp [-eq_s, sl3', e3']
    rfl
  | false =>
    refine ⟨⟨r, false, a, if M - a < m then M - a else m⟩, s8, ?_, ⟨ha0, by rw [mM]; exact ha1, by dsimp only; split <;> omega, by dsimp only; split <;> omega, fun _ => by rw [mM]; dsimp only; split <;> omega⟩, P8, KK⟩
    unfold F__law_shift fnF g__law_shift
    simp only [e_seq, ea, em, e_set]
    simp [-eq_s, -e_if, e1, hix, e2, e3, ea, e6, em]
    simp [-eq_s, sl3', e3']
    rfl
/-! ### the law -/
theorem inner' {s : Sh} (o : s.Ok) {l : Nat} {x : Wv} (c : Wv) {q : Option Wv} {st : Hs} (hp : Pot l st) : ∃ p4 st', forT 4 g_law_L2 (rngW 0 5) [some x, some c, some (.ref l), some s.w, q] st = .nx [some x, some c, some (.ref l), some s.w, p4] st' ∧ Pot l st' ∧ Keep l st st' := by
  have key : ∀ (ws : List Wv) (p4 : Option Wv) (st : Hs), Pot l st → ∃ p4' st', forT 4 g_law_L2 ws [some x, some c, some (.ref l), some s.w, p4] st = .nx [some x, some c, some (.ref l), some s.w, p4'] st' ∧ Pot l st' ∧ Keep l st st' := by
    intro ws
    induction ws with
    | nil => exact fun p4 st h => ⟨p4, st, rfl, h, Keep.refl⟩
    | cons w r ih =>
      intro p4 st h
      obtain ⟨a, b, c', d, s1, e1, hA, P1, K1⟩ := area h
      obtain ⟨s2, e2, g2⟩ := right o hA (st := s1)
      obtain ⟨p4', s3, e3, P3, K3⟩ := ih (some w) s2 (P1.gr g2)
      refine ⟨p4', s3, ?_, P3, K1.trans (g2.keep.trans K3)⟩
      have eb : g_law_L2 ([some x, some c, some (.ref l), some s.w, p4].set 4 (some w)) st = .nx [some x, some c, some (.ref l), some s.w, some w] s2 := by
        unfold g_law_L2
        simp [e1, e2]
      unfold forT
      rw [eb]
      exact e3
  exact key _ q st hp
theorem outer {x : Wv} {cell : Int} {p2 p3 p4 : Option Wv} (st : Hs) : ∃ q2 q3 q4 st', g_law_L1 [some x, some (.int cell), p2, p3, p4] st = .nx [some x, some (.int cell), q2, q3, q4] st' ∧ Gr st st' := by
  obtain ⟨s1, e1, P1, g1⟩ := pot (x := cell) (st := st)
  obtain ⟨s, s2, e2, o, P2, K2⟩ := shift P1
  obtain ⟨q4, s3, e3, P3, K3⟩ := inner' o (x := x) (.int cell) (q := p4) P2
  refine ⟨some (.ref st.length), some s.w, q4, s3, ?_, Gr.keepAt (Nat.le_refl _) g1 (K2.trans K3)⟩
  have c5 : CRng 5 := crng (by decide) (by decide)
  have e3' : forT 4 g_law_L2 (rngW 0 (5 : Int).toNat) [some x, some (.int cell), some (.ref st.length), some s.w, p4] s2 = .nx [some x, some (.int cell), some (.ref st.length), some s.w, q4] s3 := e3
  unfold g_law_L1
  simp [e1, e2, c5, e3]
theorem law_true : ∀ ns : List Int, ns.length ≤ 63 → ∃ st, F_law [.ref 0] [.scr ns] = .ok (.bl true) st := by
  intro ns hn
  have c1 : lstOf [Ob.scr ns, Ob.lst [.int 0, .int 1]] 0 = some (ns.map Wv.int) := rfl
  have sl := sl_l (lo := none) (hi := some 20) c1
  obtain ⟨ys, ey, ly⟩ := cutW_map' (f := Wv.int) (xs := ns) (lo := none) (hi := some 20)
  rw [ey] at sl
  have la := add_l (st := [Ob.scr ns, .lst [.int 0, .int 1], .lst (ys.map Wv.int)]) (l := 1) (k := 2) (xs := [.int 0, .int 1]) (ys := ys.map Wv.int) rfl rfl (by unfold lim; rw [List.length_map]; simp; omega)
  have l1 : lstOf [Ob.scr ns, .lst [.int 0, .int 1], .lst (ys.map Wv.int), .lst ((0 :: 1 :: ys).map Wv.int)] 3 = some ((0 :: 1 :: ys).map Wv.int) := rfl
  obtain ⟨ρ', st', e, ⟨p1, p2, p3, p4, rfl⟩, _⟩ := forL_inv (i := 1) (gb := g_law_L1) (l := 3) (all := (0 :: 1 :: ys).map Wv.int)
    (fun ρ st' => ∃ p1 p2 p3 p4, ρ = [some (.ref 0), p1, p2, p3, p4]) ((0 :: 1 :: ys).map Wv.int) [some (.ref 0), none, none, none, none] [Ob.scr ns, .lst [.int 0, .int 1], .lst (ys.map Wv.int), .lst ((0 :: 1 :: ys).map Wv.int)] ⟨_, _, _, _, rfl⟩ l1 (fun w hw ρ st hP hl => by
      obtain ⟨p1, p2, p3, p4, rfl⟩ := hP
      obtain ⟨c, _, rfl⟩ := List.mem_map.mp hw
      obtain ⟨q2, q3, q4, st', e, k⟩ := outer (cell := c) (x := .ref 0) (p2 := p2) (p3 := p3) (p4 := p4) st
      exact ⟨_, st', e, k.lst hl, _, _, _, _, rfl⟩)
  refine ⟨st', fn_rt (n := 5) (g := g_law) ?_⟩
  unfold g_law
  have l1' : lstOf [Ob.scr ns, .lst [.int 0, .int 1], .lst (ys.map Wv.int), .lst (.int 0 :: .int 1 :: ys.map Wv.int)] 3 = some (.int 0 :: .int 1 :: ys.map Wv.int) := rfl
  simp only [List.map_cons] at e
  simp at sl la
  simp [sl, la, kFor_l l1', e]
end K45

set_option Elab.async false
set_option linter.all false
set_option maxRecDepth 100000
set_option maxHeartbeats 4000000
namespace K45
open PySem J
open L2 (defScope defBody defArgs FnScope CX0 FnOk XK Hp)
theorem all_mk {l : PySem.W.OpenLaw} {w : World} {K : PySem.W.Frag} {h : Heap} {mg : Str → Option Value} {fa : Addr} (X : K.In h) (G : h.Ns mainGlobals mg) (hfa : mg "law" = some (.ref fa))
    {f1 f2 f3 f4 f5 f6 f7 f8 f9 f10 f11 f12 f13 f14 f15 f16 f17 f18 f19 f20 f21 f22 f23 f24 f25 f26 f27 : Addr} {od1 od2 od3 od4 od5 od6 od7 od8 od9 od10 od11 od12 od13 od14 od15 od16 od17 od18 od19 od20 od21 od22 od23 od24 od25 od26 od27 an1 an2 an3 an4 an5 an6 an7 an8 an9 an10 an11 an12 an13 an14 an15 an16 an17 an18 an19 an20 an21 an22 an23 an24 an25 an26 an27 : Option Addr} {sl1 sl2 sl3 sl4 sl5 sl6 sl7 sl8 sl9 sl10 sl11 sl12 sl13 sl14 sl15 sl16 sl17 sl18 sl19 sl20 sl21 sl22 sl23 sl24 sl25 sl26 sl27 : Array (Option Value)} {oc1 oc2 oc3 oc4 oc5 oc6 oc7 oc8 oc9 oc10 oc11 oc12 oc13 oc14 oc15 oc16 oc17 oc18 oc19 oc20 oc21 oc22 oc23 oc24 oc25 oc26 oc27 kV1 kV2 kV3 kV4 kV5 kV6 kV7 kV8 kV9 kV10 kV11 kV12 kV13 kV14 kV15 kV16 kV17 kV18 kV19 kV20 kV21 kV22 kV23 kV24 kV25 kV26 kV27 dc1 dc2 dc3 dc4 dc5 dc6 dc7 dc8 dc9 dc10 dc11 dc12 dc13 dc14 dc15 dc16 dc17 dc18 dc19 dc20 dc21 dc22 dc23 dc24 dc25 dc26 dc27 pm1 pm2 pm3 pm4 pm5 pm6 pm7 pm8 pm9 pm10 pm11 pm12 pm13 pm14 pm15 pm16 pm17 pm18 pm19 pm20 pm21 pm22 pm23 pm24 pm25 pm26 pm27 cd1 cd2 cd3 cd4 cd5 cd6 cd7 cd8 cd9 cd10 cd11 cd12 cd13 cd14 cd15 cd16 cd17 cd18 cd19 cd20 cd21 cd22 cd23 cd24 cd25 cd26 cd27 ct1 ct2 ct3 ct4 ct5 ct6 ct7 ct8 ct9 ct10 ct11 ct12 ct13 ct14 ct15 ct16 ct17 ct18 ct19 ct20 ct21 ct22 ct23 ct24 ct25 ct26 ct27 : Value} {tk0_0 tk0_1 tk1_0 tk1_1 tk2 tk3 tk4 : Tok} {ca0 : Addr} {cd0_ : Option Addr} {cn0 : Nat} {cs0 : Array (Option Value)} {ca1 : Addr} {cd1_ : Option Addr} {cn1 : Nat} {cs1 : Array (Option Value)} {X0 : Addr}
    (a1 : PySem.W.nsIn K mainGlobals "_law_pot" = some (some (.ref f1))) (l1 : K.lookup f1 = some ⟨oc1, od1, .func (PySem.W.fnOf "_law_pot" "_law_pot" (defArgs s__law_pot) (defBody s__law_pot) (defScope s__law_pot) .none kV1 dc1 pm1 an1 cd1 ct1), sl1⟩) (c1 : PySem.W.codeIn K cd1 "_law_pot" = true) (k1 : PySem.W.keepIn K (.ref f1) = true)
    (a2 : PySem.W.nsIn K mainGlobals "_law_most" = some (some (.ref f2))) (l2 : K.lookup f2 = some ⟨oc2, od2, .func (PySem.W.fnOf "_law_most" "_law_most" (defArgs s__law_most) (defBody s__law_most) (defScope s__law_most) .none kV2 dc2 pm2 an2 cd2 ct2), sl2⟩) (c2 : PySem.W.codeIn K cd2 "_law_most" = true) (k2 : PySem.W.keepIn K (.ref f2) = true)
    (a3 : PySem.W.nsIn K mainGlobals "_law_take" = some (some (.ref f3))) (l3 : K.lookup f3 = some ⟨oc3, od3, .func (PySem.W.fnOf "_law_take" "_law_take" (defArgs s__law_take) (defBody s__law_take) (defScope s__law_take) .none kV3 dc3 pm3 an3 cd3 ct3), sl3⟩) (c3 : PySem.W.codeIn K cd3 "_law_take" = true) (k3 : PySem.W.keepIn K (.ref f3) = true)
    (a4 : PySem.W.nsIn K mainGlobals "_law_shift" = some (some (.ref f4))) (l4 : K.lookup f4 = some ⟨oc4, od4, .func (PySem.W.fnOf "_law_shift" "_law_shift" (defArgs s__law_shift) (defBody s__law_shift) (defScope s__law_shift) .none kV4 dc4 pm4 an4 cd4 ct4), sl4⟩) (c4 : PySem.W.codeIn K cd4 "_law_shift" = true) (k4 : PySem.W.keepIn K (.ref f4) = true)
    (a5 : PySem.W.nsIn K mainGlobals "is_of_rows" = some (some (.ref f5))) (l5 : K.lookup f5 = some ⟨oc5, od5, .func (PySem.W.fnOf "is_of_rows" "is_of_rows" (defArgs s_is_of_rows) (defBody s_is_of_rows) (defScope s_is_of_rows) .none kV5 dc5 pm5 an5 cd5 ct5), sl5⟩) (c5 : PySem.W.codeIn K cd5 "is_of_rows" = true) (k5 : PySem.W.keepIn K (.ref f5) = true)
    (a6 : PySem.W.nsIn K mainGlobals "is_in" = some (some (.ref f6))) (l6 : K.lookup f6 = some ⟨oc6, od6, .func (PySem.W.fnOf "is_in" "is_in" (defArgs s_is_in) (defBody s_is_in) (defScope s_is_in) .none kV6 dc6 pm6 an6 cd6 ct6), sl6⟩) (c6 : PySem.W.codeIn K cd6 "is_in" = true) (k6 : PySem.W.keepIn K (.ref f6) = true)
    (a7 : PySem.W.nsIn K mainGlobals "is_taken" = some (some (.ref f7))) (l7 : K.lookup f7 = some ⟨oc7, od7, .func (PySem.W.fnOf "is_taken" "is_taken" (defArgs s_is_taken) (defBody s_is_taken) (defScope s_is_taken) .none kV7 dc7 pm7 an7 cd7 ct7), sl7⟩) (c7 : PySem.W.codeIn K cd7 "is_taken" = true) (k7 : PySem.W.keepIn K (.ref f7) = true)
    (a8 : PySem.W.nsIn K mainGlobals "moved_line" = some (some (.ref f8))) (l8 : K.lookup f8 = some ⟨oc8, od8, .func (PySem.W.fnOf "moved_line" "moved_line" (defArgs s_moved_line) (defBody s_moved_line) (defScope s_moved_line) .none kV8 dc8 pm8 an8 cd8 ct8), sl8⟩) (c8 : PySem.W.codeIn K cd8 "moved_line" = true) (k8 : PySem.W.keepIn K (.ref f8) = true)
    (a9 : PySem.W.nsIn K mainGlobals "moved_ends" = some (some (.ref f9))) (l9 : K.lookup f9 = some ⟨oc9, od9, .func (PySem.W.fnOf "moved_ends" "moved_ends" (defArgs s_moved_ends) (defBody s_moved_ends) (defScope s_moved_ends) .none kV9 dc9 pm9 an9 cd9 ct9), sl9⟩) (c9 : PySem.W.codeIn K cd9 "moved_ends" = true) (k9 : PySem.W.keepIn K (.ref f9) = true)
    (a10 : PySem.W.nsIn K mainGlobals "area_with_ends" = some (some (.ref f10))) (l10 : K.lookup f10 = some ⟨oc10, od10, .func (PySem.W.fnOf "area_with_ends" "area_with_ends" (defArgs s_area_with_ends) (defBody s_area_with_ends) (defScope s_area_with_ends) .none kV10 dc10 pm10 an10 cd10 ct10), sl10⟩) (c10 : PySem.W.codeIn K cd10 "area_with_ends" = true) (k10 : PySem.W.keepIn K (.ref f10) = true)
    (a11 : PySem.W.nsIn K mainGlobals "is_place" = some (some (.ref f11))) (l11 : K.lookup f11 = some ⟨oc11, od11, .func (PySem.W.fnOf "is_place" "is_place" (defArgs s_is_place) (defBody s_is_place) (defScope s_is_place) .none kV11 dc11 pm11 an11 cd11 ct11), sl11⟩) (c11 : PySem.W.codeIn K cd11 "is_place" = true) (k11 : PySem.W.keepIn K (.ref f11) = true)
    (a12 : PySem.W.nsIn K mainGlobals "has_corners" = some (some (.ref f12))) (l12 : K.lookup f12 = some ⟨oc12, od12, .func (PySem.W.fnOf "has_corners" "has_corners" (defArgs s_has_corners) (defBody s_has_corners) (defScope s_has_corners) .none kV12 dc12 pm12 an12 cd12 ct12), sl12⟩) (c12 : PySem.W.codeIn K cd12 "has_corners" = true) (k12 : PySem.W.keepIn K (.ref f12) = true)
    (a13 : PySem.W.nsIn K mainGlobals "area_many" = some (some (.ref f13))) (l13 : K.lookup f13 = some ⟨oc13, od13, .func (PySem.W.fnOf "area_many" "area_many" (defArgs s_area_many) (defBody s_area_many) (defScope s_area_many) .none kV13 dc13 pm13 an13 cd13 ct13), sl13⟩) (c13 : PySem.W.codeIn K cd13 "area_many" = true) (k13 : PySem.W.keepIn K (.ref f13) = true)
    (a14 : PySem.W.nsIn K mainGlobals "is_area" = some (some (.ref f14))) (l14 : K.lookup f14 = some ⟨oc14, od14, .func (PySem.W.fnOf "is_area" "is_area" (defArgs s_is_area) (defBody s_is_area) (defScope s_is_area) .none kV14 dc14 pm14 an14 cd14 ct14), sl14⟩) (c14 : PySem.W.codeIn K cd14 "is_area" = true) (k14 : PySem.W.keepIn K (.ref f14) = true)
    (a15 : PySem.W.nsIn K mainGlobals "moved_area" = some (some (.ref f15))) (l15 : K.lookup f15 = some ⟨oc15, od15, .func (PySem.W.fnOf "moved_area" "moved_area" (defArgs s_moved_area) (defBody s_moved_area) (defScope s_moved_area) .none kV15 dc15 pm15 an15 cd15 ct15), sl15⟩) (c15 : PySem.W.codeIn K cd15 "moved_area" = true) (k15 : PySem.W.keepIn K (.ref f15) = true)
    (a16 : PySem.W.nsIn K mainGlobals "places_between" = some (some (.ref f16))) (l16 : K.lookup f16 = some ⟨oc16, od16, .func (PySem.W.fnOf "places_between" "places_between" (defArgs s_places_between) (defBody s_places_between) (defScope s_places_between) .none kV16 dc16 pm16 an16 cd16 ct16), sl16⟩) (c16 : PySem.W.codeIn K cd16 "places_between" = true) (k16 : PySem.W.keepIn K (.ref f16) = true)
    (a17 : PySem.W.nsIn K mainGlobals "made_area" = some (some (.ref f17))) (l17 : K.lookup f17 = some ⟨oc17, od17, .func (PySem.W.fnOf "made_area" "made_area" (defArgs s_made_area) (defBody s_made_area) (defScope s_made_area) .none kV17 dc17 pm17 an17 cd17 ct17), sl17⟩) (c17 : PySem.W.codeIn K cd17 "made_area" = true) (k17 : PySem.W.keepIn K (.ref f17) = true)
    (a18 : PySem.W.nsIn K mainGlobals "area_places" = some (some (.ref f18))) (l18 : K.lookup f18 = some ⟨oc18, od18, .func (PySem.W.fnOf "area_places" "area_places" (defArgs s_area_places) (defBody s_area_places) (defScope s_area_places) .none kV18 dc18 pm18 an18 cd18 ct18), sl18⟩) (c18 : PySem.W.codeIn K cd18 "area_places" = true) (k18 : PySem.W.keepIn K (.ref f18) = true)
    (a19 : PySem.W.nsIn K mainGlobals "_law_line" = some (some (.ref f19))) (l19 : K.lookup f19 = some ⟨oc19, od19, .func (PySem.W.fnOf "_law_line" "_law_line" (defArgs s__law_line) (defBody s__law_line) (defScope s__law_line) .none kV19 dc19 pm19 an19 cd19 ct19), sl19⟩) (c19 : PySem.W.codeIn K cd19 "_law_line" = true) (k19 : PySem.W.keepIn K (.ref f19) = true)
    (a20 : PySem.W.nsIn K mainGlobals "_law_ends" = some (some (.ref f20))) (l20 : K.lookup f20 = some ⟨oc20, od20, .func (PySem.W.fnOf "_law_ends" "_law_ends" (defArgs s__law_ends) (defBody s__law_ends) (defScope s__law_ends) .none kV20 dc20 pm20 an20 cd20 ct20), sl20⟩) (c20 : PySem.W.codeIn K cd20 "_law_ends" = true) (k20 : PySem.W.keepIn K (.ref f20) = true)
    (a21 : PySem.W.nsIn K mainGlobals "_law_area_moved" = some (some (.ref f21))) (l21 : K.lookup f21 = some ⟨oc21, od21, .func (PySem.W.fnOf "_law_area_moved" "_law_area_moved" (defArgs s__law_area_moved) (defBody s__law_area_moved) (defScope s__law_area_moved) .none kV21 dc21 pm21 an21 cd21 ct21), sl21⟩) (c21 : PySem.W.codeIn K cd21 "_law_area_moved" = true) (k21 : PySem.W.keepIn K (.ref f21) = true)
    (a22 : PySem.W.nsIn K mainGlobals "moved_place" = some (some (.ref f22))) (l22 : K.lookup f22 = some ⟨oc22, od22, .func (PySem.W.fnOf "moved_place" "moved_place" (defArgs s_moved_place) (defBody s_moved_place) (defScope s_moved_place) .none kV22 dc22 pm22 an22 cd22 ct22), sl22⟩) (c22 : PySem.W.codeIn K cd22 "moved_place" = true) (k22 : PySem.W.keepIn K (.ref f22) = true)
    (a23 : PySem.W.nsIn K mainGlobals "_law_in_new_line" = some (some (.ref f23))) (l23 : K.lookup f23 = some ⟨oc23, od23, .func (PySem.W.fnOf "_law_in_new_line" "_law_in_new_line" (defArgs s__law_in_new_line) (defBody s__law_in_new_line) (defScope s__law_in_new_line) .none kV23 dc23 pm23 an23 cd23 ct23), sl23⟩) (c23 : PySem.W.codeIn K cd23 "_law_in_new_line" = true) (k23 : PySem.W.keepIn K (.ref f23) = true)
    (a24 : PySem.W.nsIn K mainGlobals "_law_right" = some (some (.ref f24))) (l24 : K.lookup f24 = some ⟨oc24, od24, .func (PySem.W.fnOf "_law_right" "_law_right" (defArgs s__law_right) (defBody s__law_right) (defScope s__law_right) .none kV24 dc24 pm24 an24 cd24 ct24), sl24⟩) (c24 : PySem.W.codeIn K cd24 "_law_right" = true) (k24 : PySem.W.keepIn K (.ref f24) = true)
    (a25 : PySem.W.nsIn K mainGlobals "_law_place" = some (some (.ref f25))) (l25 : K.lookup f25 = some ⟨oc25, od25, .func (PySem.W.fnOf "_law_place" "_law_place" (defArgs s__law_place) (defBody s__law_place) (defScope s__law_place) .none kV25 dc25 pm25 an25 cd25 ct25), sl25⟩) (c25 : PySem.W.codeIn K cd25 "_law_place" = true) (k25 : PySem.W.keepIn K (.ref f25) = true)
    (a26 : PySem.W.nsIn K mainGlobals "_law_area" = some (some (.ref f26))) (l26 : K.lookup f26 = some ⟨oc26, od26, .func (PySem.W.fnOf "_law_area" "_law_area" (defArgs s__law_area) (defBody s__law_area) (defScope s__law_area) .none kV26 dc26 pm26 an26 cd26 ct26), sl26⟩) (c26 : PySem.W.codeIn K cd26 "_law_area" = true) (k26 : PySem.W.keepIn K (.ref f26) = true)
    (a27 : PySem.W.nsIn K mainGlobals "law" = some (some (.ref f27))) (l27 : K.lookup f27 = some ⟨oc27, od27, .func (PySem.W.fnOf "law" "law" (defArgs s_law) (defBody s_law) (defScope s_law) .none kV27 dc27 pm27 an27 cd27 ct27), sl27⟩) (c27 : PySem.W.codeIn K cd27 "law" = true) (k27 : PySem.W.keepIn K (.ref f27) = true)
    (z0 : PySem.W.nsIn K mainGlobals "int" = some none)
    (z1 : PySem.W.nsIn K mainGlobals "min" = some none)
    (z2 : PySem.W.nsIn K mainGlobals "range" = some none)
    (z3 : PySem.W.nsIn K mainGlobals "isinstance" = some none)
    (z4 : PySem.W.nsIn K mainGlobals "tuple" = some none)
    (v0 : PySem.W.nsIn K mainGlobals "ROW_WAYS" = some (some (.ref ca0))) (w0 : K.lookup ca0 = some ⟨.type "tuple", cd0_, .seq #[.str "rows in" tk0_0, .str "rows out" tk0_1] cn0, cs0⟩)
    (v1 : PySem.W.nsIn K mainGlobals "IN_WAYS" = some (some (.ref ca1))) (w1 : K.lookup ca1 = some ⟨.type "tuple", cd1_, .seq #[.str "rows in" tk1_0, .str "columns in" tk1_1] cn1, cs1⟩)
    (v2 : PySem.W.nsIn K mainGlobals "ROWS" = some (some (.int 99 tk2)))
    (v3 : PySem.W.nsIn K mainGlobals "COLUMNS" = some (some (.int 26 tk3)))
    (v4 : PySem.W.nsIn K mainGlobals "MOST_PLACES" = some (some (.int 300 tk4)))
    (xa0 : PySem.W.nsIn K mainGlobals "BadArea" = some (some (.ref X0))) (xe0 : PySem.W.excIn K X0 bmV nwV = true) (xg0 : PySem.W.findIn K (.ref X0) "__getattribute__" = some (some (.builtin "BaseException.__getattribute__"))) (xx0 : PySem.W.findIn K (.ref X0) "__getattr__" = some none) (xc0 : PySem.W.findIn K (.ref X0) "__class__" = some (some (.builtin "object.__class__")))
    (pk0 : PySem.W.kitOne K (.ref X0) (.ref X0) = some true) (pm0 : PySem.W.mroIn K X0 (.ref X0) = some true)
    (pt0 : PySem.W.kitOne K (.ref X0) (.type "ValueError") = some true) :
    ∃ fd : FuncData, (∀ (s : Shared) (u : Value), BindsTo s fd ⟨[u], []⟩ [("script", u)]) ∧ ∀ base : Heap, K.In base → base.Ns mainGlobals mg → FnOk l.prog w K mg base (CXJ l.prog w) 8 fa fd ["script"] (spW K 1 F_law) := by
  refine J.law_has X G hfa (J.def_at a27 l27 c27 k27) (fun _ _ _ _ _ _ s u => .of_eq rfl) (fun f fd Fu base kb nb => ?_)
  have Z0 := PySem.W.mg_none_of kb nb z0
  have Z1 := PySem.W.mg_none_of kb nb z1
  have Z2 := PySem.W.mg_none_of kb nb z2
  have Z3 := PySem.W.mg_none_of kb nb z3
  have Z4 := PySem.W.mg_none_of kb nb z4
  have V0 := PySem.W.mg_of kb nb v0
  have V1 := PySem.W.mg_of kb nb v1
  have V2 := PySem.W.mg_of kb nb v2
  have V3 := PySem.W.mg_of kb nb v3
  have V4 := PySem.W.mg_of kb nb v4
  have TB : TabOk K tbl tblT := J.tab_mk ⟨⟨X0, X0, xa0, xa0, ⟨xe0, xg0, xx0, xc0⟩, ⟨xe0, xg0, xx0, xc0⟩, pk0, pm0⟩, trivial⟩ ⟨⟨X0, xa0, ⟨xe0, xg0, xx0, xc0⟩, pt0⟩, trivial⟩
  have H1 : J.Has l.prog w K mg base 1 "_law_pot" 1 F__law_pot := J.has_def (ps := ["cell"]) kb nb (J.def_at a1 l1 c1 k1) (J.topOk_mk (c := c__law_pot) (k := 0) trivial trivial trivial TB trivial) sc__law_pot rfl r__law_pot (fun _ _ _ _ _ _ us hl => match us, hl with | [_], _ => rfl)
  have H2 : J.Has l.prog w K mg base 1 "_law_most" 1 F__law_most := J.has_def (ps := ["way"]) kb nb (J.def_at a2 l2 c2 k2) (J.topOk_mk (c := c__law_most) (k := 0) trivial ⟨Z0, trivial⟩ trivial TB trivial) sc__law_most rfl r__law_most (fun _ _ _ _ _ _ us hl => match us, hl with | [_], _ => rfl)
  have H3 : J.Has l.prog w K mg base 1 "_law_take" 2 F__law_take := J.has_def (ps := ["pot", "many"]) kb nb (J.def_at a3 l3 c3 k3) (J.topOk_mk (c := c__law_take) (k := 0) trivial trivial trivial TB trivial) sc__law_take rfl r__law_take (fun _ _ _ _ _ _ us hl => match us, hl with | [_, _], _ => rfl)
  have H4 : J.Has l.prog w K mg base 2 "_law_shift" 1 F__law_shift := J.has_def (ps := ["pot"]) kb nb (J.def_at a4 l4 c4 k4) (J.topOk_mk (c := c__law_shift) (k := 1) trivial ⟨Z1, trivial⟩ ⟨H2.mono (by decide), H3.mono (by decide), trivial⟩ TB trivial) sc__law_shift rfl r__law_shift (fun _ _ _ _ _ _ us hl => match us, hl with | [_], _ => rfl)
  have H5 : J.Has l.prog w K mg base 1 "is_of_rows" 1 F_is_of_rows := J.has_def (ps := ["shift"]) kb nb (J.def_at a5 l5 c5 k5) (J.topOk_mk (c := c_is_of_rows) (k := 0) ⟨⟨_, [.str "rows in", .str "rows out"], _, _, _, V0, w0, rfl, rfl, (show (2 : Nat) ≤ sizeLine by decide), (.cons ⟨_, rfl⟩ (.cons ⟨_, rfl⟩ .nil)), ⟨⟨rfl, by decide +kernel⟩, ⟨⟨rfl, by decide +kernel⟩, trivial⟩⟩⟩, trivial⟩ trivial trivial TB trivial) sc_is_of_rows rfl r_is_of_rows (fun _ _ _ _ _ _ us hl => match us, hl with | [_], _ => rfl)
  have H6 : J.Has l.prog w K mg base 1 "is_in" 1 F_is_in := J.has_def (ps := ["shift"]) kb nb (J.def_at a6 l6 c6 k6) (J.topOk_mk (c := c_is_in) (k := 0) ⟨⟨_, [.str "rows in", .str "columns in"], _, _, _, V1, w1, rfl, rfl, (show (2 : Nat) ≤ sizeLine by decide), (.cons ⟨_, rfl⟩ (.cons ⟨_, rfl⟩ .nil)), ⟨⟨rfl, by decide +kernel⟩, ⟨⟨rfl, by decide +kernel⟩, trivial⟩⟩⟩, trivial⟩ trivial trivial TB trivial) sc_is_in rfl r_is_in (fun _ _ _ _ _ _ us hl => match us, hl with | [_], _ => rfl)
  have H7 : J.Has l.prog w K mg base 2 "is_taken" 2 F_is_taken := J.has_def (ps := ["shift", "line"]) kb nb (J.def_at a7 l7 c7 k7) (J.topOk_mk (c := c_is_taken) (k := 1) trivial trivial ⟨H6.mono (by decide), trivial⟩ TB trivial) sc_is_taken rfl r_is_taken (fun _ _ _ _ _ _ us hl => match us, hl with | [_, _], _ => rfl)
  have H8 : J.Has l.prog w K mg base 3 "moved_line" 2 F_moved_line := J.has_def (ps := ["shift", "line"]) kb nb (J.def_at a8 l8 c8 k8) (J.topOk_mk (c := c_moved_line) (k := 2) ⟨⟨_, V2⟩, ⟨_, V3⟩, trivial⟩ trivial ⟨H7.mono (by decide), H6.mono (by decide), H5.mono (by decide), trivial⟩ TB trivial) sc_moved_line rfl r_moved_line (fun _ _ _ _ _ _ us hl => match us, hl with | [_, _], _ => rfl)
  have H9 : J.Has l.prog w K mg base 4 "moved_ends" 3 F_moved_ends := J.has_def (ps := ["shift", "first", "last"]) kb nb (J.def_at a9 l9 c9 k9) (J.topOk_mk (c := c_moved_ends) (k := 3) trivial ⟨Z2, trivial⟩ ⟨H8.mono (by decide), H7.mono (by decide), trivial⟩ TB trivial) sc_moved_ends rfl r_moved_ends (fun _ _ _ _ _ _ us hl => match us, hl with | [_, _, _], _ => rfl)
  have H10 : J.Has l.prog w K mg base 5 "area_with_ends" 2 F_area_with_ends := J.has_def (ps := ["shift", "area"]) kb nb (J.def_at a10 l10 c10 k10) (J.topOk_mk (c := c_area_with_ends) (k := 4) trivial trivial ⟨H5.mono (by decide), H9.mono (by decide), trivial⟩ TB trivial) sc_area_with_ends rfl r_area_with_ends (fun _ _ _ _ _ _ us hl => match us, hl with | [_, _], _ => rfl)
  have H11 : J.Has l.prog w K mg base 1 "is_place" 1 F_is_place := J.has_def (ps := ["place"]) kb nb (J.def_at a11 l11 c11 k11) (J.topOk_mk (c := c_is_place) (k := 0) ⟨⟨_, V2⟩, ⟨_, V3⟩, trivial⟩ trivial trivial TB trivial) sc_is_place rfl r_is_place (fun _ _ _ _ _ _ us hl => match us, hl with | [_], _ => rfl)
  have H12 : J.Has l.prog w K mg base 2 "has_corners" 1 F_has_corners := J.has_def (ps := ["area"]) kb nb (J.def_at a12 l12 c12 k12) (J.topOk_mk (c := c_has_corners) (k := 1) trivial trivial ⟨H11.mono (by decide), trivial⟩ TB trivial) sc_has_corners rfl r_has_corners (fun _ _ _ _ _ _ us hl => match us, hl with | [_], _ => rfl)
  have H13 : J.Has l.prog w K mg base 1 "area_many" 1 F_area_many := J.has_def (ps := ["area"]) kb nb (J.def_at a13 l13 c13 k13) (J.topOk_mk (c := c_area_many) (k := 0) trivial trivial trivial TB trivial) sc_area_many rfl r_area_many (fun _ _ _ _ _ _ us hl => match us, hl with | [_], _ => rfl)
  have H14 : J.Has l.prog w K mg base 3 "is_area" 1 F_is_area := J.has_def (ps := ["area"]) kb nb (J.def_at a14 l14 c14 k14) (J.topOk_mk (c := c_is_area) (k := 2) ⟨⟨_, V4⟩, trivial⟩ trivial ⟨H12.mono (by decide), H13.mono (by decide), trivial⟩ TB trivial) sc_is_area rfl r_is_area (fun _ _ _ _ _ _ us hl => match us, hl with | [_], _ => rfl)
  have H15 : J.Has l.prog w K mg base 6 "moved_area" 2 F_moved_area := J.has_def (ps := ["shift", "area"]) kb nb (J.def_at a15 l15 c15 k15) (J.topOk_mk (c := c_moved_area) (k := 5) trivial trivial ⟨H10.mono (by decide), H14.mono (by decide), trivial⟩ TB trivial) sc_moved_area rfl r_moved_area (fun _ _ _ _ _ _ us hl => match us, hl with | [_, _], _ => rfl)
  have H16 : J.Has l.prog w K mg base 1 "places_between" 1 F_places_between := J.has_def (ps := ["area"]) kb nb (J.def_at a16 l16 c16 k16) (J.topOk_mk (c := c_places_between) (k := 0) trivial ⟨Z2, trivial⟩ trivial TB trivial) sc_places_between rfl r_places_between (fun _ _ _ _ _ _ us hl => match us, hl with | [_], _ => rfl)
  have H17 : J.Has l.prog w K mg base 4 "made_area" 4 F_made_area := J.has_def (ps := ["top", "left", "bottom", "right"]) kb nb (J.def_at a17 l17 c17 k17) (J.topOk_mk (c := c_made_area) (k := 3) trivial trivial ⟨H14.mono (by decide), trivial⟩ TB ⟨⟨X0, PySem.W.mg_of kb nb xa0, ⟨xa0, xe0⟩⟩, trivial⟩) sc_made_area rfl r_made_area (fun _ _ _ _ _ _ us hl => match us, hl with | [_, _, _, _], _ => rfl)
  have H18 : J.Has l.prog w K mg base 5 "area_places" 1 F_area_places := J.has_def (ps := ["area"]) kb nb (J.def_at a18 l18 c18 k18) (J.topOk_mk (c := c_area_places) (k := 4) trivial trivial ⟨H16.mono (by decide), H17.mono (by decide), trivial⟩ TB trivial) sc_area_places rfl r_area_places (fun _ _ _ _ _ _ us hl => match us, hl with | [_], _ => rfl)
  have H19 : J.Has l.prog w K mg base 2 "_law_line" 2 F__law_line := J.has_def (ps := ["shift", "line"]) kb nb (J.def_at a19 l19 c19 k19) (J.topOk_mk (c := c__law_line) (k := 1) trivial ⟨Z0, trivial⟩ ⟨H2.mono (by decide), trivial⟩ TB trivial) sc__law_line rfl r__law_line (fun _ _ _ _ _ _ us hl => match us, hl with | [_, _], _ => rfl)
  have H20 : J.Has l.prog w K mg base 3 "_law_ends" 3 F__law_ends := J.has_def (ps := ["shift", "low", "high"]) kb nb (J.def_at a20 l20 c20 k20) (J.topOk_mk (c := c__law_ends) (k := 2) trivial ⟨Z2, trivial⟩ ⟨H19.mono (by decide), trivial⟩ TB trivial) sc__law_ends rfl r__law_ends (fun _ _ _ _ _ _ us hl => match us, hl with | [_, _, _], _ => rfl)
  have H21 : J.Has l.prog w K mg base 4 "_law_area_moved" 2 F__law_area_moved := J.has_def (ps := ["shift", "area"]) kb nb (J.def_at a21 l21 c21 k21) (J.topOk_mk (c := c__law_area_moved) (k := 3) trivial trivial ⟨H20.mono (by decide), trivial⟩ TB trivial) sc__law_area_moved rfl r__law_area_moved (fun _ _ _ _ _ _ us hl => match us, hl with | [_, _], _ => rfl)
  have H22 : J.Has l.prog w K mg base 4 "moved_place" 2 F_moved_place := J.has_def (ps := ["shift", "place"]) kb nb (J.def_at a22 l22 c22 k22) (J.topOk_mk (c := c_moved_place) (k := 3) trivial trivial ⟨H5.mono (by decide), H8.mono (by decide), trivial⟩ TB trivial) sc_moved_place rfl r_moved_place (fun _ _ _ _ _ _ us hl => match us, hl with | [_, _], _ => rfl)
  have H23 : J.Has l.prog w K mg base 1 "_law_in_new_line" 2 F__law_in_new_line := J.has_def (ps := ["shift", "place"]) kb nb (J.def_at a23 l23 c23 k23) (J.topOk_mk (c := c__law_in_new_line) (k := 0) trivial ⟨Z0, trivial⟩ trivial TB trivial) sc__law_in_new_line rfl r__law_in_new_line (fun _ _ _ _ _ _ us hl => match us, hl with | [_, _], _ => rfl)
  have H24 : J.Has l.prog w K mg base 7 "_law_right" 2 F__law_right := J.has_def (ps := ["shift", "area"]) kb nb (J.def_at a24 l24 c24 k24) (J.topOk_mk (c := c__law_right) (k := 6) trivial ⟨Z3, Z4, trivial⟩ ⟨H15.mono (by decide), H18.mono (by decide), H21.mono (by decide), H22.mono (by decide), H23.mono (by decide), trivial⟩ TB trivial) sc__law_right rfl r__law_right (fun _ _ _ _ _ _ us hl => match us, hl with | [_, _], _ => rfl)
  have H25 : J.Has l.prog w K mg base 2 "_law_place" 1 F__law_place := J.has_def (ps := ["pot"]) kb nb (J.def_at a25 l25 c25 k25) (J.topOk_mk (c := c__law_place) (k := 1) trivial ⟨Z0, trivial⟩ ⟨H3.mono (by decide), trivial⟩ TB trivial) sc__law_place rfl r__law_place (fun _ _ _ _ _ _ us hl => match us, hl with | [_], _ => rfl)
  have H26 : J.Has l.prog w K mg base 3 "_law_area" 1 F__law_area := J.has_def (ps := ["pot"]) kb nb (J.def_at a26 l26 c26 k26) (J.topOk_mk (c := c__law_area) (k := 2) trivial ⟨Z1, trivial⟩ ⟨H25.mono (by decide), H3.mono (by decide), trivial⟩ TB trivial) sc__law_area rfl r__law_area (fun _ _ _ _ _ _ us hl => match us, hl with | [_], _ => rfl)
  exact J.fn_def Fu (J.topOk_mk (c := c_law) (k := 7) trivial ⟨Z2, trivial⟩ ⟨H1.mono (by decide), H4.mono (by decide), H24.mono (by decide), H26.mono (by decide), trivial⟩ TB trivial) sc_law rfl r_law
end K45
open PySem PySem.W PyProof.Rows
set_option maxRecDepth 100000 in
set_option maxHeartbeats 0 in
theorem PySem.Challenge.cw_onelook_k45_areas_moved_holds : PySem.Challenge.rw_onelook_k45_areas_moved.Holds := by
  w_on; o_law; k_head; (case hw => w_witness2)
  k_fill
  refine L2.walk_of (l := PySem.Challenge.rw_onelook_k45_areas_moved) (n := 63) (k := 8) (x := "script") (CX := fun w => J.CXJ PySem.Challenge.rw_onelook_k45_areas_moved.prog w) (sp := fun w => J.spW _ 1 K45.F_law) rfl (by decide) rfl ⟨rfl, by decide, by decide⟩ (fun w h Y => PySem.W.kIn_of Y) ?F (fun w H a ns hl hO hS => J.law_sp K45.law_true H a ns hl hO hS) (fun _ _ _ _ _ z => z.elim fun _ y => y.elim fun _ x => x.2)
  case F =>
    intro w mg fa h KX G hmg
    refine' K45.all_mk KX G hmg ?a1 ?l1 ?c1 ?k1 ?a2 ?l2 ?c2 ?k2 ?a3 ?l3 ?c3 ?k3 ?a4 ?l4 ?c4 ?k4 ?a5 ?l5 ?c5 ?k5 ?a6 ?l6 ?c6 ?k6 ?a7 ?l7 ?c7 ?k7 ?a8 ?l8 ?c8 ?k8 ?a9 ?l9 ?c9 ?k9 ?a10 ?l10 ?c10 ?k10 ?a11 ?l11 ?c11 ?k11 ?a12 ?l12 ?c12 ?k12 ?a13 ?l13 ?c13 ?k13 ?a14 ?l14 ?c14 ?k14 ?a15 ?l15 ?c15 ?k15 ?a16 ?l16 ?c16 ?k16 ?a17 ?l17 ?c17 ?k17 ?a18 ?l18 ?c18 ?k18 ?a19 ?l19 ?c19 ?k19 ?a20 ?l20 ?c20 ?k20 ?a21 ?l21 ?c21 ?k21 ?a22 ?l22 ?c22 ?k22 ?a23 ?l23 ?c23 ?k23 ?a24 ?l24 ?c24 ?k24 ?a25 ?l25 ?c25 ?k25 ?a26 ?l26 ?c26 ?k26 ?a27 ?l27 ?c27 ?k27 ?z0 ?z1 ?z2 ?z3 ?z4 ?v0 ?w0 ?v1 ?w1 ?v2 ?v3 ?v4 ?xa0 ?xe0 ?xg0 ?xx0 ?xc0 ?pk0 ?pm0 ?pt0
    (case a1 => k_is)
    (case l1 => k_is)
    (case c1 => k_is)
    (case k1 => k_is)
    (case a2 => k_is)
    (case l2 => k_is)
    (case c2 => k_is)
    (case k2 => k_is)
    (case a3 => k_is)
    (case l3 => k_is)
    (case c3 => k_is)
    (case k3 => k_is)
    (case a4 => k_is)
    (case l4 => k_is)
    (case c4 => k_is)
    (case k4 => k_is)
    (case a5 => k_is)
    (case l5 => k_is)
    (case c5 => k_is)
    (case k5 => k_is)
    (case a6 => k_is)
    (case l6 => k_is)
    (case c6 => k_is)
    (case k6 => k_is)
    (case a7 => k_is)
    (case l7 => k_is)
    (case c7 => k_is)
    (case k7 => k_is)
    (case a8 => k_is)
    (case l8 => k_is)
    (case c8 => k_is)
    (case k8 => k_is)
    (case a9 => k_is)
    (case l9 => k_is)
    (case c9 => k_is)
    (case k9 => k_is)
    (case a10 => k_is)
    (case l10 => k_is)
    (case c10 => k_is)
    (case k10 => k_is)
    (case a11 => k_is)
    (case l11 => k_is)
    (case c11 => k_is)
    (case k11 => k_is)
    (case a12 => k_is)
    (case l12 => k_is)
    (case c12 => k_is)
    (case k12 => k_is)
    (case a13 => k_is)
    (case l13 => k_is)
    (case c13 => k_is)
    (case k13 => k_is)
    (case a14 => k_is)
    (case l14 => k_is)
    (case c14 => k_is)
    (case k14 => k_is)
    (case a15 => k_is)
    (case l15 => k_is)
    (case c15 => k_is)
    (case k15 => k_is)
    (case a16 => k_is)
    (case l16 => k_is)
    (case c16 => k_is)
    (case k16 => k_is)
    (case a17 => k_is)
    (case l17 => k_is)
    (case c17 => k_is)
    (case k17 => k_is)
    (case a18 => k_is)
    (case l18 => k_is)
    (case c18 => k_is)
    (case k18 => k_is)
    (case a19 => k_is)
    (case l19 => k_is)
    (case c19 => k_is)
    (case k19 => k_is)
    (case a20 => k_is)
    (case l20 => k_is)
    (case c20 => k_is)
    (case k20 => k_is)
    (case a21 => k_is)
    (case l21 => k_is)
    (case c21 => k_is)
    (case k21 => k_is)
    (case a22 => k_is)
    (case l22 => k_is)
    (case c22 => k_is)
    (case k22 => k_is)
    (case a23 => k_is)
    (case l23 => k_is)
    (case c23 => k_is)
    (case k23 => k_is)
    (case a24 => k_is)
    (case l24 => k_is)
    (case c24 => k_is)
    (case k24 => k_is)
    (case a25 => k_is)
    (case l25 => k_is)
    (case c25 => k_is)
    (case k25 => k_is)
    (case a26 => k_is)
    (case l26 => k_is)
    (case c26 => k_is)
    (case k26 => k_is)
    (case a27 => k_is)
    (case l27 => k_is)
    (case c27 => k_is)
    (case k27 => k_is)
    (case z0 => k_is)
    (case z1 => k_is)
    (case z2 => k_is)
    (case z3 => k_is)
    (case z4 => k_is)
    (case v0 => k_is)
    (case w0 => k_is)
    (case v1 => k_is)
    (case w1 => k_is)
    (case v2 => k_is)
    (case v3 => k_is)
    (case v4 => k_is)
    (case xa0 => k_is)
    (case xe0 => k_exc)
    (case xg0 => k_is)
    (case xx0 => k_is)
    (case xc0 => k_is)
    (case pk0 => kit_is)
    (case pm0 => k_is)
    (case pt0 => kit_is)

