import PyProof.Rows.All
import Wide.All
import OpenK.AllK
import Wide.FinOn
import Lean
import PyProof.EqAt
import PyProof.EqKinds
import PyProof.TupleCall
import PySem.Challenge.RW_onelook_k81_covers
-- CHANGE: your row's module here, as the last of these rows
set_option Elab.async false
set_option linter.all false
set_option maxRecDepth 100000
namespace L2
open PySem PySem.Spec PyProof.Rows
abbrev Key := Sum Int Str
def keyIs : Key → Value → Bool
  | .inl k, v => Value.isInt k v
  | .inr x, v => Value.isStrOf x v
def keyH (w : World) : Key → Int
  | .inl k => hashInt k
  | .inr x => hashStr w x
theorem keyIs_shape : ∀ {k : Key} {v : Value}, keyIs k v = true → (∃ i t, k = Sum.inl i ∧ v = Value.int i t) ∨ (∃ x t, k = Sum.inr x ∧ v = Value.str x t)
  | .inl i, v, h => by
    obtain ⟨t, e⟩ := Value.isInt_shape (k := i) (v := v) h
    exact .inl ⟨i, t, rfl, e⟩
  | .inr x, v, h => by
    obtain ⟨t, e⟩ := Value.isStrOf_shape (x := x) (v := v) h
    exact .inr ⟨x, t, rfl, e⟩
theorem keyIs_int (i : Int) (t : Tok) : keyIs (.inl i) (.int i t) = true := by simp [keyIs, Value.isInt]
theorem keyIs_str (x : Str) (t : Tok) : keyIs (.inr x) (.str x t) = true := by simp [keyIs, Value.isStrOf]
theorem key_ll (a b : Int) : decide ((Sum.inl a : Key) = Sum.inl b) = (a == b) := by
  by_cases e : a = b
  · subst e; simp
  · have h : ¬ (Sum.inl a : Key) = Sum.inl b := fun q => e (Sum.inl.inj q)
    rw [decide_eq_false h]
    exact (beq_eq_false_iff_ne.mpr e).symm
theorem key_rr (a b : Str) : decide ((Sum.inr a : Key) = Sum.inr b) = decide (a = b) := by
  by_cases e : a = b
  · subst e; simp
  · have h : ¬ (Sum.inr a : Key) = Sum.inr b := fun q => e (Sum.inr.inj q)
    rw [decide_eq_false h, decide_eq_false e]
theorem key_lr (a : Int) (b : Str) : decide ((Sum.inl a : Key) = Sum.inr b) = false := decide_eq_false (fun q => nomatch q)
theorem key_rl (a : Str) (b : Int) : decide ((Sum.inr a : Key) = Sum.inl b) = false := decide_eq_false (fun q => nomatch q)
def mixKind (prog : Program) (w : World) : PySem.KeyKind prog w Key where
  is := keyIs
  hash := keyH w
  inj := fun v a b ha hb => by
    rcases keyIs_shape ha with ⟨i, t, rfl, rfl⟩ | ⟨x, t, rfl, rfl⟩
    · rcases keyIs_shape hb with ⟨j, u, rfl, e⟩ | ⟨y, u, rfl, e⟩
      · injection e with e1 _; rw [e1]
      · exact nomatch e
    · rcases keyIs_shape hb with ⟨j, u, rfl, e⟩ | ⟨y, u, rfl, e⟩
      · exact nomatch e
      · injection e with e1 _; rw [e1]
  byValue := fun k v h => by
    rcases keyIs_shape h with ⟨i, t, rfl, rfl⟩ | ⟨x, t, rfl, rfl⟩ <;> rfl
  pyHash := fun hv h => by
    rcases keyIs_shape hv with ⟨i, t, rfl, rfl⟩ | ⟨x, t, rfl, rfl⟩
    · exact wpAny_pyHash_int h
    · exact wpAny_pyHash_str h
  eqBool := fun hu hv h => by
    rcases keyIs_shape hu with ⟨i, t, rfl, rfl⟩ | ⟨x, t, rfl, rfl⟩
    · rcases keyIs_shape hv with ⟨j, u, rfl, rfl⟩ | ⟨y, u, rfl, rfl⟩
      · rw [key_ll] at h; exact wpAny_eqBool_int h
      · rw [key_lr] at h; exact SeqAt.EqAt.int_str i t y u _ _ _ _ h
    · rcases keyIs_shape hv with ⟨j, u, rfl, rfl⟩ | ⟨y, u, rfl, rfl⟩
      · rw [key_rl] at h; exact SeqAt.EqAt.str_int x t j u _ _ _ _ h
      · rw [key_rr] at h; exact wpAny_eqBool_str h
  «strs» := fun k x t v h => by
    rcases keyIs_shape h with ⟨i, u, rfl, e⟩ | ⟨y, u, rfl, e⟩
    · exact nomatch e
    · injection e with e1 _
      subst e1
      cases v <;> rfl
theorem mixKind_int (prog : Program) (w : World) (i : Int) (t : Tok) : (mixKind prog w).is (.inl i) (.int i t) = true := keyIs_int i t
theorem mixKind_str (prog : Program) (w : World) (x : Str) (t : Tok) : (mixKind prog w).is (.inr x) (.str x t) = true := keyIs_str x t
end L2
namespace L2
open PySem PySem.Spec PyProof.Rows
inductive V where
  | non | bl (b : Bool) | int (i : Int) | str (x : Str) | byt (b : Array UInt8) | flt (b : UInt64) | ref (a : Addr) | ty (n : String)
  deriving DecidableEq
def RelV : V → Value → Prop
  | .non, u => u = Value.none
  | .bl b, u => u = Value.bool b
  | .int i, u => ∃ t, u = Value.int i t
  | .str x, u => ∃ t, u = Value.str x t
  | .byt b, u => ∃ t, u = Value.bytes b t
  | .flt b, u => ∃ t, u = Value.float b t
  | .ref a, u => u = Value.ref a
  | .ty n, u => u = Value.type n
abbrev Vals : List V → List Value → Prop := Paired RelV
theorem Vals.length {xs : List V} {us : List Value} (r : Vals xs us) : xs.length = us.length := Paired.length r
theorem Vals.get : ∀ {xs : List V} {us : List Value} {i : Nat} {x : V}, Vals xs us → xs[i]? = some x → ∃ u, us[i]? = some u ∧ RelV x u
  | _, _, _, _, .nil, e => by simp at e
  | _, _, 0, _, .cons r _, e => by simp at e; subst e; exact ⟨_, rfl, r⟩
  | _, _, i + 1, x, .cons _ t, e => by
    obtain ⟨u, h1, h2⟩ := Vals.get (i := i) (x := x) t (by simpa using e)
    exact ⟨u, by simpa using h1, h2⟩
theorem Vals.set {x : V} {u : Value} (r : RelV x u) : ∀ {xs : List V} {us : List Value} (i : Nat), Vals xs us → Vals (xs.set i x) (us.set i u)
  | _, _, _, .nil => .nil
  | _, _, 0, .cons _ t => .cons r t
  | _, _, i + 1, .cons q t => .cons q (Vals.set r i t)
theorem Vals.append : ∀ {xs ys : List V} {us ws : List Value}, Vals xs us → Vals ys ws → Vals (xs ++ ys) (us ++ ws)
  | _, _, _, _, .nil, s => s
  | _, _, _, _, .cons r t, s => .cons r (Vals.append t s)
theorem Vals.take : ∀ {xs : List V} {us : List Value} (n : Nat), Vals xs us → Vals (xs.take n) (us.take n)
  | _, _, 0, _ => .nil
  | _, _, _ + 1, .nil => .nil
  | _, _, n + 1, .cons r t => .cons r (Vals.take n t)
theorem Vals.drop : ∀ {xs : List V} {us : List Value} (n : Nat), Vals xs us → Vals (xs.drop n) (us.drop n)
  | _, _, 0, r => r
  | _, _, _ + 1, .nil => .nil
  | _, _, n + 1, .cons _ t => Vals.drop n t
def RelO : Option V → Option Value → Prop
  | some v, some u => RelV v u
  | none, none => True
  | _, _ => False
def KV {κ : Type} : List (κ × V) → List (κ × Value) → Prop := Paired fun (p : κ × V) (q : κ × Value) => p.1 = q.1 ∧ RelV p.2 q.2
def kV : Key → V
  | .inl i => .int i
  | .inr x => .str x
inductive HO where
    | lst (xs : List V)
    | tup (xs : List V)
    | dK (kvs : List (Key × V)) | dT (kvs : List (List Key × V))
    | set (S : Int → Bool) (n : Nat)
    | ins (C dx : Addr) (fs : List (Str × V))
    | own (x : Addr)
    | xd (fs : List (Str × V))
    | met (f x : Addr)
    | rng (lo hi : Int)
    | frz (o : Obj) (u : HO)
    | tbl (ps : Array Value)
    | ext (φ : Heap → Prop)
abbrev Hp := Addr → Option HO
def upd (H : Hp) (a : Addr) (o : HO) : Hp := fun b => if b = a then some o else H b
theorem upd_same {H : Hp} {a : Addr} {o : HO} : upd H a o a = some o := by unfold upd; rw [if_pos rfl]
theorem upd_ne {H : Hp} {a b : Addr} {o : HO} (h : b ≠ a) : upd H a o b = H b := by unfold upd; rw [if_neg h]
theorem ne_of {H : Hp} {a b : Addr} {o u : HO} (h : H a = some o) (h' : H b = some u) (d : o ≠ u) : a ≠ b := by
  intro e; subst e; rw [h] at h'; exact d (Option.some.inj h')
theorem ne_of_none {H : Hp} {a b : Addr} {o : HO} (h : H a = some o) (h' : H b = none) : a ≠ b := by
  intro e; subst e; rw [h] at h'; cases h'
def NoDi (h : Heap) (a : Addr) : Prop := ∀ o, h.get? a = some o → o.dict = none
theorem NoDi.new (h : Heap) (us : Array Value) : NoDi (h.push { cls := .type "tuple", data := .seq us }) h.objs.size := fun o q => by
  rw [Heap.get?_push_size _ rfl] at q
  cases q
  rfl
section
variable (P : Program) (w : World)
def ObjOk (H : Hp) (h : Heap) (a : Addr) : HO → Prop
  | .lst xs => xs.length ≤ sizeLine ∧ ∃ (its : List Value) (n : Nat), Vals xs its ∧ h.get? a = some { cls := .type "list", data := .seq its.toArray n }
  | .tup xs => xs.length ≤ sizeLine ∧ ∃ its : List Value, Vals xs its ∧ IsTup h a its.toArray ∧ NoDi h a
  | .dK kvs => kvs.length ≤ sizeLine ∧ (a == sysModules) = false ∧ ∃ vs, KV kvs vs ∧ h.DictOf (mixKind P w) a vs
  | .dT kvs => kvs.length ≤ sizeLine ∧ (a == sysModules) = false ∧ ∃ xs : List (List Key × Addr × Value),
      Paired (fun (p : List Key × V) (q : List Key × Addr × Value) => p.1 = q.1 ∧ H q.2.1 = some (.tup (p.1.map kV)) ∧ RelV p.2 q.2.2) kvs xs ∧
      ∃ o es ep, h.get? a = some o ∧ o.ExactDict ∧ o.data = .dict es ep ∧ es.toList = xs.map (entryOfKey (tupleKind (mixKind P w))) ∧ (xs.map (·.1)).Nodup
  | .set S n => h.SetOf (intKind P w) a S n
  | .ins C dx fs => H dx = some (.own a) ∧ fs.length ≤ 1000 ∧ dx ≠ a ∧ h.get? a = some (PySem.W.instObj C dx) ∧
      ∃ mA, h.Ns1 dx mA ∧ (∀ f, RelO (fs.lookup f) (mA f)) ∧ PySem.Within mA (fs.map (·.1))
  | .own _ => ∃ o, h.get? a = some o
  | .xd fs => ∃ mA, h.Ns1 a mA ∧ ∀ f, RelO (fs.lookup f) (mA f)
  | .rng lo hi => ∃ t u v, h.get? a = some { cls := .type "range", data := .fields #[.int lo t, .int hi u, .int 1 v] }
  | .frz o u => h.get? a = some o ∧ ObjOk H h a u
  | .tbl ps => h.get? a = some { cls := .none, data := .fields ps }
  | .met f x => h.get? a = some (PySem.W.methodObj (.ref f) (.ref x))
  | .ext φ => φ h ∧ (∃ o, h.get? a = some o) ∧ ∀ h1 h2 : Heap, φ h1 → (∀ o, h1.get? a = some o → h2.get? a = some o) → φ h2
def HOk (H : Hp) (h : Heap) : Prop := ∀ a o, H a = some o → ObjOk P w H h a o
end
section
variable {P : Program} {w : World} {H H' : Hp} {h h' : Heap} {a : Addr} {o : HO}
theorem ObjOk.lt (x : ObjOk P w H h a o) : a < h.objs.size := by
  cases o with
  | lst xs => obtain ⟨_, _, _, _, e⟩ := x; exact Heap.lt_size e
  | tup xs => obtain ⟨_, _, _, p, _⟩ := x; exact p.lt
  | dK kvs => obtain ⟨_, _, _, _, o, _, _, e, _⟩ := x; exact Heap.lt_size e
  | dT kvs => obtain ⟨_, _, _, _, o, _, _, e, _⟩ := x; exact Heap.lt_size e
  | set S n => obtain ⟨o, _, _, _, e, _⟩ := x; exact Heap.lt_size e
  | ins C dx fs => obtain ⟨_, _, _, e, _⟩ := x; exact Heap.lt_size e
  | own y => obtain ⟨_, e⟩ := x; exact Heap.lt_size e
  | xd fs => obtain ⟨_, ⟨_, _, _, e, _⟩, _⟩ := x; exact Heap.lt_size e
  | rng lo hi => obtain ⟨_, _, _, e⟩ := x; exact Heap.lt_size e
  | frz ob u => obtain ⟨e, _⟩ := x; exact Heap.lt_size e
  | tbl ps => exact Heap.lt_size (show h.get? a = some _ from x)
  | met f y => exact Heap.lt_size (show h.get? a = some _ from x)
  | ext φ => obtain ⟨_, ⟨_, e⟩, _⟩ := x; exact Heap.lt_size e
theorem Paired.mapP {α β : Type} {F G : α → β → Prop} : ∀ {l₁ : List α} {l₂ : List β}, Paired F l₁ l₂ → (∀ a b, F a b → G a b) → Paired G l₁ l₂
  | _, _, .nil, _ => .nil
  | _, _, .cons r t, f => .cons (f _ _ r) (Paired.mapP t f)
theorem ObjOk.stay (x : ObjOk P w H h a o) (k : ∀ b u, (b = a ∨ H b = some (.own a)) → h.get? b = some u → h'.get? b = some u)
    (ho : ∀ b, H b = some (.own a) → H' b = some (.own a)) (ht : ∀ b xs, H b = some (.tup xs) → H' b = some (.tup xs)) : ObjOk P w H' h' a o := by
  induction o with
  | lst xs => obtain ⟨z, its, n, r, e⟩ := x; exact ⟨z, its, n, r, k _ _ (.inl rfl) e⟩
  | tup xs => obtain ⟨z, us, r, ⟨ob, e, c⟩, nd⟩ := x; exact ⟨z, us, r, ⟨ob, k _ _ (.inl rfl) e, c⟩, fun o q => by rw [k _ _ (.inl rfl) e] at q; cases q; exact nd _ e⟩
  | dK kvs => obtain ⟨z, y, vs, r, ob, es, ep, e, c⟩ := x; exact ⟨z, y, vs, r, ob, es, ep, k _ _ (.inl rfl) e, c⟩
  | dT kvs =>
    obtain ⟨z, y, xs, r, ob, es, ep, e, c⟩ := x
    exact ⟨z, y, xs, Paired.mapP r fun p q z => ⟨z.1, ht _ _ z.2.1, z.2.2⟩, ob, es, ep, k _ _ (.inl rfl) e, c⟩
  | set S n => obtain ⟨ob, es, ep, t, e, c⟩ := x; exact ⟨ob, es, ep, t, k _ _ (.inl rfl) e, c⟩
  | ins C dx fs =>
    obtain ⟨d, z, ne, e, mA, ⟨od, es, ep, e2, c⟩, r⟩ := x
    exact ⟨ho _ d, z, ne, k _ _ (.inl rfl) e, mA, ⟨od, es, ep, k _ _ (.inr d) e2, c⟩, r⟩
  | own y => obtain ⟨ob, e⟩ := x; exact ⟨ob, k _ _ (.inl rfl) e⟩
  | xd fs => obtain ⟨mA, ⟨od, es, ep, e, c⟩, r⟩ := x; exact ⟨mA, ⟨od, es, ep, k _ _ (.inl rfl) e, c⟩, r⟩
  | rng lo hi => obtain ⟨t, u, v, e⟩ := x; exact ⟨t, u, v, k _ _ (.inl rfl) e⟩
  | frz ob u ih => obtain ⟨e, q⟩ := x; exact ⟨k _ _ (.inl rfl) e, ih q⟩
  | tbl ps =>
    have e : h.get? a = some { cls := .none, data := .fields ps } := x
    show h'.get? a = some { cls := .none, data := .fields ps }
    exact k a _ (.inl rfl) e
  | met f y =>
    have e : h.get? a = some (PySem.W.methodObj (.ref f) (.ref y)) := x
    show h'.get? a = some (PySem.W.methodObj (.ref f) (.ref y))
    exact k a _ (.inl rfl) e
  | ext φ => obtain ⟨p, ⟨o, e⟩, st⟩ := x; exact ⟨st _ _ p fun o q => k _ _ (.inl rfl) q, ⟨o, k _ _ (.inl rfl) e⟩, st⟩
theorem HOk.lt (x : HOk P w H h) (e : H a = some o) : a < h.objs.size := (x a o e).lt
theorem HOk.fresh (x : HOk P w H h) (e : h.objs.size ≤ a) : H a = none := by
  cases q : H a with
  | none => rfl
  | some u => exact absurd (Nat.lt_of_lt_of_le (x.lt q) e) (Nat.lt_irrefl _)
theorem HOk.kept (x : HOk P w H h) (k : ∀ b u, h.get? b = some u → h'.get? b = some u) : HOk P w H h' := fun a o e =>
  (x a o e).stay (fun b u _ q => k b u q) (fun _ q => q) fun _ _ q => q
theorem HOk.laid (x : HOk P w H h) (k : ∀ b u, h.get? b = some u → h'.get? b = some u) (hp : h.objs.size ≤ a) (new : ObjOk P w (upd H a o) h' a o) : HOk P w (upd H a o) h' := fun b u e => by
  have hn := x.fresh hp
  by_cases hb : b = a
  · subst hb; rw [upd_same] at e; cases e; exact new
  · rw [upd_ne hb] at e
    exact (x b u e).stay (fun c v _ q => k c v q) (fun c q => by rw [upd_ne (ne_of_none q hn)]; exact q) fun c xs q => by rw [upd_ne (ne_of_none q hn)]; exact q
end
def Rd (H : Hp) (a : Addr) (u : HO) : Prop := H a = some u ∨ ∃ o, H a = some (.frz o u)
theorem Rd.ok {P : Program} {w : World} {H : Hp} {h : Heap} {a : Addr} {u : HO} (r : Rd H a u) (x : HOk P w H h) : ObjOk P w H h a u := by
  rcases r with r | ⟨o, r⟩
  · exact x a u r
  · obtain ⟨_, q⟩ := x a _ r
    exact q
def Mut : Option HO → Prop
  | some (.lst _) => True
  | some (.dK _) => True
  | some (.dT _) => True
  | some (.set _ _) => True
  | some (.ins _ _ _) => True
  | some (.ext _) => True
  | _ => False
section
variable {P : Program} {w : World} {H : Hp} {h h' : Heap} {x e : Addr} {o' : HO}
theorem HOk.write (ok : HOk P w H h) (mu : Mut (H x)) (he : e = x ∨ H e = some (.own x)) (k : ∀ b u, b ≠ e → h.get? b = some u → h'.get? b = some u) (heo : ∃ u, h'.get? e = some u)
    (new : ObjOk P w (upd H x o') h' x o') : HOk P w (upd H x o') h' := fun b u q => by
  have nown : ∀ c y, H c = some (.own y) → c ≠ x := fun c y r z => by subst z; rw [r] at mu; exact mu
  have ntup : ∀ c xs, H c = some (.tup xs) → c ≠ x := fun c xs r z => by subst z; rw [r] at mu; exact mu
  by_cases hb : b = x
  · subst hb; rw [upd_same] at q; cases q; exact new
  · rw [upd_ne hb] at q
    by_cases hbe : b = e
    · have q' : H b = some (.own x) := by
        rcases he with z | z
        · exact absurd (hbe.trans z) hb
        · rw [hbe]; exact z
      rw [q] at q'; cases q'
      obtain ⟨v, hv⟩ := heo
      exact ⟨v, by rw [hbe]; exact hv⟩
    · refine (ok b u q).stay (fun c v hc r => k c v ?_ r) (fun c r => by rw [upd_ne (nown c b r)]; exact r) fun c xs r => by rw [upd_ne (ntup c xs r)]; exact r
      rcases hc with rfl | hc
      · exact hbe
      · rintro rfl
        rcases he with z | z
        · exact nown c b hc z
        · rw [hc] at z; cases z; exact hb rfl
end
structure Un (fs ex : List Addr) (H H' : Hp) (h h' : Heap) : Prop where
  keep : ∀ b o, h.get? b = some o → H b = none → b ∉ fs → b ∉ ex → h'.get? b = some o
  slot : ∀ b o, h.get? b = some o → H b = none → b ∈ fs → b ∉ ex → ∃ sl, h'.get? b = some { o with slots := sl }
  free : ∀ b o, h.get? b = some o → H b = none → b ∉ ex → H' b = none
  there : ∀ b o, h.get? b = some o → b ∉ ex → ∃ o', h'.get? b = some o'
  tups : ∀ b xs, H b = some (.tup xs) → H' b = some (.tup xs)
  frzs : ∀ b o u, H b = some (.frz o u) → H' b = some (.frz o u)
  tbls : ∀ b ps, H b = some (.tbl ps) → ∃ more, H' b = some (.tbl (ps ++ more))
section
variable {fs fs' ex ex' : List Addr} {H H1 H2 : Hp} {h h1 h2 h' : Heap} {a x e : Addr} {o : HO}
theorem Un.any (u : Un fs ex H H1 h h1) {b : Addr} {ob : Obj} (q : h.get? b = some ob) (n : H b = none) (hx : b ∉ ex) : ∃ sl, h1.get? b = some { ob with slots := sl } := by
  by_cases hb : b ∈ fs
  · exact u.slot b ob q n hb hx
  · exact ⟨ob.slots, u.keep b ob q n hb hx⟩
theorem Un.kept (k : ∀ b u, h.get? b = some u → h'.get? b = some u) : Un fs ex H H h h' :=
  ⟨fun b ob q _ _ _ => k b ob q, fun b ob q _ _ _ => ⟨ob.slots, k b ob q⟩, fun _ _ _ n _ => n, fun b ob q _ => ⟨ob, k b ob q⟩, fun _ _ q => q, fun _ _ _ q => q, fun _ ps q => ⟨#[], by rw [q]; simp⟩⟩
theorem Un.refl : Un fs ex H H h h := Un.kept fun _ _ q => q
theorem Un.laid (k : ∀ b u, h.get? b = some u → h'.get? b = some u) (hp : h.objs.size ≤ a) (hn : H a = none) : Un fs ex H (upd H a o) h h' where
  keep := fun b u q _ _ _ => k b u q
  slot := fun b u q _ _ _ => ⟨u.slots, k b u q⟩
  free := fun b u q n _ => by rw [upd_ne (Nat.ne_of_lt (Nat.lt_of_lt_of_le (Heap.lt_size q) hp))]; exact n
  there := fun b u q _ => ⟨u, k b u q⟩
  tups := fun b xs q => by rw [upd_ne (ne_of_none q hn)]; exact q
  frzs := fun b u xs q => by rw [upd_ne (ne_of_none q hn)]; exact q
  tbls := fun b ps q => ⟨#[], by rw [upd_ne (ne_of_none q hn), q]; simp⟩
theorem Un.write (mu : Mut (H x)) (he : e = x ∨ H e = some (.own x)) (k : ∀ b u, b ≠ e → h.get? b = some u → h'.get? b = some u) (heo : ∃ u, h'.get? e = some u) : Un fs ex H (upd H x o) h h' := by
  have hx : ∀ b, H b = none → b ≠ x := fun b n z => by subst z; rw [n] at mu; exact mu
  have hb : ∀ b, H b = none → b ≠ e := fun b n z => by
    subst z
    rcases he with r | r
    · exact hx b n r
    · rw [n] at r; cases r
  have hm : ∀ b u, H b = some u → ¬ Mut (some u) → b ≠ x := fun b u q nm z => by subst z; rw [q] at mu; exact nm mu
  refine ⟨fun b u q n _ _ => k b u (hb b n) q, fun b u q n _ _ => ⟨u.slots, k b u (hb b n) q⟩, fun b u q n _ => by rw [upd_ne (hx b n)]; exact n, fun b u q _ => ?_,
    fun b xs q => by rw [upd_ne (hm b _ q fun z => z)]; exact q, fun b u xs q => by rw [upd_ne (hm b _ q fun z => z)]; exact q, fun b ps q => ⟨#[], by rw [upd_ne (hm b _ q fun z => z), q]; simp⟩⟩
  by_cases hbe : b = e
  · subst hbe; exact heo
  · exact ⟨u, k b u hbe q⟩
end
def trk (h : Heap) (H : Hp) : List Addr := (List.range h.objs.size).filter fun a => (H a).isSome
def hidT (h : Heap) (H : Hp) : Heap := PySem.W.hideAll h (trk h H)
theorem hidT_size (h : Heap) (H : Hp) : (hidT h H).objs.size = h.objs.size := PySem.W.hideAll_size _ _
theorem hidT_get {h : Heap} {H : Hp} {b : Addr} {o : Obj} (e : h.get? b = some o) (n : H b = none) : (hidT h H).get? b = some o :=
  PySem.W.hideAll_get _ e fun hm => by
    have q : (H b).isSome = true := (List.mem_filter.mp hm).2
    rw [n] at q; simp at q
theorem of_hidT {h : Heap} {H : Hp} {b : Addr} {o : Obj} (e : (hidT h H).get? b = some o) : h.get? b = some o ∧ H b = none := by
  have e' : h.get? b = some o := PySem.W.of_hideAll (trk h H) e
  refine ⟨e', ?_⟩
  cases q : H b with
  | none => rfl
  | some x =>
    have hm : b ∈ trk h H := List.mem_filter.mpr ⟨List.mem_range.mpr (Heap.lt_size e'), by simp [q]⟩
    have z : (hidT h H).get? b = none := PySem.W.hideAll_none (trk h H) hm
    rw [z] at e; cases e
def allNews (g h : Heap) (L : Addr) : List (Addr × Obj) := (List.range h.objs.size).filterMap fun a => if a = L ∨ (g.get? a).isSome = true then none else (h.get? a).map fun o => (a, o)
theorem mem_allNews {g h : Heap} {L a : Addr} {o : Obj} (h1 : a ≠ L) (h2 : g.get? a = none) (h3 : h.get? a = some o) : (a, o) ∈ allNews g h L :=
  List.mem_filterMap.mpr ⟨a, List.mem_range.mpr (Heap.lt_size h3), by simp [h1, h2, h3]⟩
theorem of_mem_allNews {g h : Heap} {L : Addr} {p : Addr × Obj} (hp : p ∈ allNews g h L) : p.1 ≠ L ∧ g.get? p.1 = none ∧ h.get? p.1 = some p.2 := by
  obtain ⟨b, _, e⟩ := List.mem_filterMap.mp hp
  split at e
  · cases e
  · rename_i hn
    cases q : h.get? b with
    | none => rw [q] at e; simp at e
    | some u =>
      rw [q] at e
      simp only [Option.map_some, Option.some.injEq] at e
      subst e
      refine ⟨fun z => hn (.inl z), ?_, q⟩
      show g.get? b = none
      cases r : g.get? b with
      | none => rfl
      | some v => exact (hn (.inr (by simp [r]))).elim
theorem news_all {g h : Heap} {L : Addr} : News g L h (allNews g h L) := fun p hp => let ⟨a, b, c⟩ := of_mem_allNews hp; ⟨c, a, b⟩
end L2
namespace L2
open PySem PySem.Spec PyProof.Rows
structure Mod (K : PySem.W.Frag) (mg : Str → Option Value) (base : Heap) : Prop where
  kin : K.In base
  glob : base.Ns mainGlobals mg
  blt : ∃ mb, base.Ns builtinsNs mb ∧ ∀ x : Str, x ≠ "__name__" → mb x = bootBuiltins x
  nolimit : base.NoLimit
structure Cx where
  prog : Program
  w : World
  K : PySem.W.Frag
  mg : Str → Option Value
  base : Heap
  A : Around
  N : List Str
  s₀ : Shared
  H₀ : Hp
  env : Env
  outer : List Env
  stack : List Env
  ex : List Addr
  fn : Str → Bool
  calm : Bool
  pn : List (Addr × Obj)
  xe : Value → Shared → Prop
def frs (l : List Env) : List Addr := l.filterMap (·.frame)
abbrev Cx.fs (X : Cx) : List Addr := frs X.outer
def Vis (sc : Scope) (x : Str) : Prop := sc.names.lookup x = some .local ∨ sc.names.lookup x = some .cell ∨ sc.names.lookup x = some .free
def Loc (sc : Scope) (x : Str) : Prop := sc.names.lookup x = some .local ∨ sc.names.lookup x = some .cell
def Look (env : Env) (h : Heap) (m : Str → Option Value) (x : Str) (u : Value) : Prop :=
  (env.kindOf x = some .local ∧ m x = some u) ∨ ((env.kindOf x = some .cell ∨ env.kindOf x = some .free) ∧ ∃ c, env.cells.lookup x = some c ∧ h.IsCell c (some u))
structure Cx.Ok (X : Cx) : Prop where
  mod : Mod X.K X.mg X.base
  kind : X.env.scope.kind = .function
  glob : X.env.globals = mainGlobals
  blt : X.env.builtins = builtinsNs
  above : X.s₀.heap.objs.size ≤ X.env.locals
  inj : ∀ x y c, X.env.cells.lookup x = some c → X.env.cells.lookup y = some c → x = y
  has : ∀ x, (X.env.kindOf x = some .cell ∨ X.env.kindOf x = some .free) → ∃ c, X.env.cells.lookup x = some c
  cab : ∀ x c, X.fn x = true → X.env.cells.lookup x = some c → X.s₀.heap.objs.size ≤ c
  hd : X.calm = true → X.A.handled = none
  frames : X.A.frames = some X.stack
  stk : X.stack = X.outer ∨ (X.stack = X.env :: X.outer ∧ X.env.frame = some X.env.locals)
  exf : ∀ b ∈ X.ex, b ≠ X.env.locals ∧ ∀ x c, X.env.cells.lookup x = some c → c ≠ b
  bs : ∀ b o, X.base.get? b = some o → X.s₀.heap.get? b = some o ∧ X.H₀ b = none
  bsz : X.base.objs.size ≤ X.s₀.heap.objs.size
  noex : ∀ b o, X.base.get? b = some o → b ∉ X.ex
  exfs : ∀ b ∈ X.ex, b ∉ X.fs
  funs : X.s₀.heap.FunFrames X.base X.outer
  frf : ∀ b ∈ X.fs, X.H₀ b = none
structure Inv (X : Cx) (pins : List (Addr × Obj)) (σ : List (Option V)) (H : Hp) (s : Shared) : Prop where
  ok : X.Ok
  os : s.os = X.s₀.os
  bare : AllBare s.gens
  base : Un X.fs X.ex X.H₀ H X.s₀.heap s.heap
  loc : ∃ m, s.heap.Ns X.env.locals m ∧ ∀ (i : Nat) (x : Str) (v : V), X.N[i]? = some x → σ[i]? = some (some v) → Vis X.env.scope x → ∃ u, RelV v u ∧ Look X.env s.heap m x u
  cell : ∀ x c, X.env.cells.lookup x = some c → ∃ v, s.heap.IsCell c v
  free : H X.env.locals = none
  freeC : ∀ x c, X.env.cells.lookup x = some c → H c = none
  pin : ∀ p ∈ X.pn ++ pins, s.heap.get? p.1 = some p.2 ∧ H p.1 = none ∧ p.1 ≠ X.env.locals ∧ p.1 ∉ X.fs ∧ ∀ v, p.2.data ≠ .cell v
  hok : HOk X.prog X.w H s.heap
  len : σ.length = X.N.length
section
variable {X : Cx} {pins : List (Addr × Obj)} {σ : List (Option V)} {H H' : Hp} {s : Shared} {h' : Heap}
theorem Cx.Ok.nofr (ok : X.Ok) {b : Addr} {o : Obj} (e : X.base.get? b = some o) : b ∉ X.fs := fun hb => by
  have := (ok.funs.mem hb).1
  rw [e] at this; cases this
theorem Inv.bs (I : Inv X pins σ H s) : ∀ b o, X.base.get? b = some o → s.heap.get? b = some o ∧ H b = none := fun b o e =>
  ⟨I.base.keep b o (I.ok.bs b o e).1 (I.ok.bs b o e).2 (I.ok.nofr e) (I.ok.noex b o e), I.base.free b o (I.ok.bs b o e).1 (I.ok.bs b o e).2 (I.ok.noex b o e)⟩
theorem Inv.bk (I : Inv X pins σ H s) : ∀ b o, X.base.get? b = some o → s.heap.get? b = some o := fun b o e => (I.bs b o e).1
theorem Inv.mod (I : Inv X pins σ H s) : Mod X.K X.mg X.base := I.ok.mod
theorem Inv.kIn (I : Inv X pins σ H s) : X.K.In s.heap := I.ok.mod.kin.keeps I.bk
theorem Inv.lt (I : Inv X pins σ H s) : X.env.locals < s.heap.objs.size := let ⟨_, hn, _⟩ := I.loc; hn.lt
theorem Inv.sz (I : Inv X pins σ H s) : X.s₀.heap.objs.size ≤ s.heap.objs.size := Nat.le_trans I.ok.above (Nat.le_of_lt I.lt)
theorem Inv.nofs (I : Inv X pins σ H s) {a : Addr} (h : s.heap.objs.size ≤ a) : a ∉ X.fs := fun hb => by
  obtain ⟨_, o, ho, _⟩ := I.ok.funs.mem hb
  exact absurd (Nat.lt_of_lt_of_le (Heap.lt_size ho) (Nat.le_trans I.sz h)) (Nat.lt_irrefl _)
theorem Inv.cne (I : Inv X pins σ H s) : ∀ x c, X.env.cells.lookup x = some c → c ≠ X.env.locals := fun x c e z => by
  obtain ⟨v, o, ho, hd⟩ := I.cell x c e
  obtain ⟨m, ⟨o', es, ep, ho', hd', _⟩, _⟩ := I.loc
  rw [z, ho'] at ho; cases ho; rw [hd'] at hd; cases hd
theorem Inv.funs (I : Inv X pins σ H s) : s.heap.FunFrames X.base X.outer := by
  have all : ∀ (l : List Env), (∀ b ∈ frs l, b ∈ X.fs) → X.s₀.heap.FunFrames X.base l → s.heap.FunFrames X.base l := by
    intro l
    induction l with
    | nil => intro _ _; trivial
    | cons env r ih =>
      intro hs hl
      obtain ⟨hk, ⟨L, o, hf, hn, ho, hd⟩, hr⟩ := hl
      have hL : L ∈ X.fs := hs L (by unfold frs; rw [List.filterMap_cons, hf]; exact List.mem_cons_self)
      obtain ⟨sl, e⟩ := I.base.slot L o ho (I.ok.frf L hL) hL fun z => I.ok.exfs L z hL
      exact ⟨hk, ⟨L, _, hf, hn, e, hd⟩, ih (fun b hb => hs b (by unfold frs; rw [List.filterMap_cons, hf]; exact List.mem_cons_of_mem _ hb)) hr⟩
  exact all X.outer (fun _ hb => hb) I.ok.funs
theorem Inv.stack (I : Inv X pins σ H s) : s.heap.FunFrames X.base X.stack := by
  rcases I.ok.stk with e | ⟨e, hf⟩
  · rw [e]; exact I.funs
  · rw [e]
    obtain ⟨m, hn, _⟩ := I.loc
    refine .cons (by rw [I.ok.kind]; decide) hf hn ?_ I.funs
    exact Heap.get?_none_of_le (Nat.le_trans I.ok.bsz I.ok.above)
theorem Inv.stkSub (I : Inv X pins σ H s) : ∀ b ∈ frs X.stack, b ∈ X.env.locals :: X.fs := fun b hb => by
  rcases I.ok.stk with e | ⟨e, hf⟩
  · rw [e] at hb; exact List.mem_cons_of_mem _ hb
  · rw [e] at hb
    unfold frs at hb
    rw [List.filterMap_cons, hf] at hb
    exact hb
theorem Inv.stkFree (I : Inv X pins σ H s) : ∀ b ∈ frs X.stack, H b = none := fun b hb => by
  rcases List.mem_cons.mp (I.stkSub b hb) with e | hb
  · rw [e]; exact I.free
  · obtain ⟨_, o, ho, _⟩ := I.ok.funs.mem hb
    exact I.base.free b o ho (I.ok.frf b hb) fun z => I.ok.exfs b z hb
theorem Inv.step {g' : Array GenState} {t' : Nat} {d' : Drawn} {ch : List Addr} (I : Inv X pins σ H s)
    (hch : ∀ b ∈ ch, (b ∈ X.ex ∨ X.s₀.heap.objs.size ≤ b) ∧ b ≠ X.env.locals ∧ (∀ x c, X.env.cells.lookup x = some c → c ≠ b) ∧ ∀ p ∈ X.pn ++ pins, p.1 ≠ b)
    (keep : ∀ b o, b ≠ X.env.locals → b ∉ X.fs → b ∉ ch → s.heap.get? b = some o → H b = none → h'.get? b = some o)
    (slot : ∀ b o, b ≠ X.env.locals → b ∈ X.fs → b ∉ ch → s.heap.get? b = some o → H b = none → ∃ sl, h'.get? b = some { o with slots := sl }) (free : ∀ b o, b ∉ ch → s.heap.get? b = some o → H b = none → H' b = none)
    (there : ∀ b o, b ∉ ch → s.heap.get? b = some o → ∃ o', h'.get? b = some o')
    (tups : ∀ b xs, H b = some (.tup xs) → H' b = some (.tup xs)) (frzs : ∀ b o u, H b = some (.frz o u) → H' b = some (.frz o u)) (tbls : ∀ b ps, H b = some (.tbl ps) → ∃ more, H' b = some (.tbl (ps ++ more)))
    (ns : ∀ m, s.heap.Ns X.env.locals m → h'.Ns X.env.locals m) (hok : HOk X.prog X.w H' h') (hg : AllBare g') :
    Inv X pins σ H' { s with heap := h', gens := g', drawn := d', toks := t' } := by
  have neL : ∀ b o, X.s₀.heap.get? b = some o → b ≠ X.env.locals := fun b o e => Nat.ne_of_lt (Nat.lt_of_lt_of_le (Heap.lt_size e) I.ok.above)
  have neC : ∀ b o, X.s₀.heap.get? b = some o → b ∉ X.ex → b ∉ ch := fun b o e hx hb => by
    rcases (hch b hb).1 with z | z
    · exact hx z
    · exact absurd (Nat.lt_of_lt_of_le (Heap.lt_size e) z) (Nat.lt_irrefl _)
  have cellK : ∀ x c, X.env.cells.lookup x = some c → ∀ v, s.heap.IsCell c v → h'.IsCell c v := fun x c e v ⟨o, ho, hd⟩ => by
    have nch : c ∉ ch := fun z => (hch c z).2.2.1 x c e rfl
    by_cases hc : c ∈ X.fs
    · obtain ⟨sl, q⟩ := slot c o (I.cne x c e) hc nch ho (I.freeC x c e)
      exact ⟨_, q, hd⟩
    · exact ⟨o, keep c o (I.cne x c e) hc nch ho (I.freeC x c e), hd⟩
  refine ⟨I.ok, I.os, hg, ⟨fun b o e n hb hx => ?_, fun b o e n hb hx => ?_, fun b o e n hx => ?_, fun b o e hx => ?_, fun b xs e => tups b xs (I.base.tups b xs e), fun b o xs e => frzs b o xs (I.base.frzs b o xs e), fun b ps e => ?_⟩, ?_, fun x c e => ?_, ?_, fun x c e => ?_, fun p hp => ?_, hok, I.len⟩
  · exact keep b o (neL b o e) hb (neC b o e hx) (I.base.keep b o e n hb hx) (I.base.free b o e n hx)
  · obtain ⟨sl, e1⟩ := I.base.slot b o e n hb hx
    obtain ⟨sl', e2⟩ := slot b _ (neL b o e) hb (neC b o e hx) e1 (I.base.free b o e n hx)
    exact ⟨sl', e2⟩
  · obtain ⟨o', e1⟩ := I.base.there b o e hx
    exact free b o' (neC b o e hx) e1 (I.base.free b o e n hx)
  · obtain ⟨o', e1⟩ := I.base.there b o e hx
    exact there b o' (neC b o e hx) e1
  · obtain ⟨m1, e1⟩ := I.base.tbls b ps e
    obtain ⟨m2, e2⟩ := tbls b _ e1
    exact ⟨m1 ++ m2, by rw [e2, Array.append_assoc]⟩
  · obtain ⟨m, hn, hl⟩ := I.loc
    refine ⟨m, ns m hn, fun i x v e1 e2 e3 => ?_⟩
    obtain ⟨u, r, l⟩ := hl i x v e1 e2 e3
    refine ⟨u, r, ?_⟩
    rcases l with l | ⟨k, c, e, z⟩
    · exact .inl l
    · exact .inr ⟨k, c, e, cellK x c e _ z⟩
  · obtain ⟨v, z⟩ := I.cell x c e
    exact ⟨v, cellK x c e v z⟩
  · obtain ⟨m, ⟨o, _, _, ho, _⟩, _⟩ := I.loc
    exact free _ o (fun z => (hch _ z).2.1 rfl) ho I.free
  · obtain ⟨v, o, ho, hd⟩ := I.cell x c e
    exact free c o (fun z => (hch c z).2.2.1 x c e rfl) ho (I.freeC x c e)
  · obtain ⟨e, n, ne, nf, d⟩ := I.pin p hp
    have nch : p.1 ∉ ch := fun z => (hch p.1 z).2.2.2 p hp rfl
    exact ⟨keep p.1 p.2 ne nf nch e n, free p.1 p.2 nch e n, ne, nf, d⟩
theorem Inv.un {t' : Nat} (I : Inv X pins σ H s) (u : Un X.fs [] H H' s.heap h') (hok : HOk X.prog X.w H' h') : Inv X pins σ H' { s with heap := h', toks := t' } := by
  obtain ⟨m, ⟨o, es, ep, ho, r⟩, _⟩ := id I.loc
  obtain ⟨sl, hL⟩ := u.any ho I.free (by simp)
  exact I.step (g' := s.gens) (d' := s.drawn) (ch := []) (fun _ z => nomatch z) (fun b o _ hb _ e n => u.keep b o e n hb (by simp)) (fun b o _ hb _ e n => u.slot b o e n hb (by simp)) (fun b o _ e n => u.free b o e n (by simp)) (fun b o _ e => u.there b o e (by simp)) u.tups u.frzs u.tbls (fun m' hm => by
    obtain ⟨o', es', ep', ho', r'⟩ := hm
    rw [ho] at ho'; cases ho'
    exact ⟨_, es', ep', hL, r'⟩) hok I.bare
theorem Inv.call {g' : Array GenState} {t' : Nat} {d' : Drawn} {ch : List Addr} (I : Inv X pins σ H s) (u : Un (frs X.stack) ch H H' s.heap h') (hok : HOk X.prog X.w H' h') (hg : AllBare g')
    (hch : ∀ b ∈ ch, (b ∈ X.ex ∨ X.s₀.heap.objs.size ≤ b) ∧ b ≠ X.env.locals ∧ (∀ x c, X.env.cells.lookup x = some c → c ≠ b) ∧ ∀ p ∈ X.pn ++ pins, p.1 ≠ b) :
    Inv X pins σ H' { s with heap := h', gens := g', drawn := d', toks := t' } := by
  obtain ⟨m, ⟨o, es, ep, ho, r⟩, _⟩ := id I.loc
  obtain ⟨sl, hL⟩ := u.any ho I.free fun z => (hch _ z).2.1 rfl
  exact I.step (ch := ch) hch (fun b o hL hb hc e n => u.keep b o e n (fun z => (List.mem_cons.mp (I.stkSub b z)).elim hL hb) hc) (fun b o _ _ hc e n => u.any e n hc) (fun b o hc e n => u.free b o e n hc) (fun b o hc e => u.there b o e hc) u.tups u.frzs u.tbls (fun m' hm => by
    obtain ⟨o', es', ep', ho', r'⟩ := hm
    rw [ho] at ho'; cases ho'
    exact ⟨_, es', ep', hL, r'⟩) hok hg
theorem Inv.turned {t' : Nat} {it : Addr} (I : Inv X pins σ H s) (k : ∀ b o, b ≠ it → s.heap.get? b = some o → h'.get? b = some o) (hn : H it = none) (hL : it ≠ X.env.locals)
    (h1 : it ∈ X.ex ∨ X.s₀.heap.objs.size ≤ it) (h2 : ∀ x c, X.env.cells.lookup x = some c → c ≠ it) (h3 : ∀ p ∈ X.pn ++ pins, p.1 ≠ it) : Inv X pins σ H { s with heap := h', toks := t' } := by
  have nit : ∀ b u, H b = some u → b ≠ it := fun b u e z => by rw [z, hn] at e; cases e
  refine I.step (g' := s.gens) (d' := s.drawn) (ch := [it]) (fun b hb => ?_) (fun b o _ _ hc e _ => k b o (fun z => hc (by simp [z])) e) (fun b o _ _ hc e _ => ⟨o.slots, k b o (fun z => hc (by simp [z])) e⟩) (fun _ _ _ _ n => n)
    (fun b o hc e => ⟨o, k b o (fun z => hc (by simp [z])) e⟩) (fun _ _ e => e) (fun _ _ _ e => e) (fun b ps e => ⟨#[], by rw [e]; simp⟩) (fun m hm => ?_) (fun b u e => ?_) I.bare
  · have e : b = it := by simpa using hb
    subst e
    exact ⟨h1, hL, h2, h3⟩
  · obtain ⟨o, es, ep, ho, r⟩ := hm
    exact ⟨o, es, ep, k _ o (Ne.symm hL) ho, r⟩
  · refine (I.hok b u e).stay (fun c v hc q => k c v ?_ q) (fun _ q => q) fun _ _ q => q
    rcases hc with z | z
    · rw [z]; exact nit b u e
    · exact nit c _ z
theorem Inv.tok (I : Inv X pins σ H s) (t : Nat) : Inv X pins σ H { s with toks := t } := I.un (h' := s.heap) (t' := t) Un.refl I.hok
theorem Inv.kept {t' : Nat} (I : Inv X pins σ H s) (k : ∀ b u, s.heap.get? b = some u → h'.get? b = some u) : Inv X pins σ H { s with heap := h', toks := t' } := I.un (Un.kept k) (I.hok.kept k)
theorem Inv.laid {a : Addr} {o : HO} {t' : Nat} (I : Inv X pins σ H s) (k : ∀ b u, s.heap.get? b = some u → h'.get? b = some u) (hp : s.heap.objs.size ≤ a) (new : ObjOk X.prog X.w (upd H a o) h' a o) :
    Inv X pins σ (upd H a o) { s with heap := h', toks := t' } := I.un (Un.laid k hp (I.hok.fresh hp)) (I.hok.laid k hp new)
theorem Inv.write {x e : Addr} {o : HO} {t' : Nat} (I : Inv X pins σ H s) (mu : Mut (H x)) (he : e = x ∨ H e = some (.own x)) (k : ∀ b u, b ≠ e → s.heap.get? b = some u → h'.get? b = some u) (heo : ∃ u, h'.get? e = some u)
    (new : ObjOk X.prog X.w (upd H x o) h' x o) : Inv X pins σ (upd H x o) { s with heap := h', toks := t' } := I.un (Un.write mu he k heo) (I.hok.write mu he k heo new)
theorem Inv.pins_of {pins' : List (Addr × Obj)} (I : Inv X pins σ H s) (h : ∀ p ∈ pins', s.heap.get? p.1 = some p.2 ∧ H p.1 = none ∧ p.1 ≠ X.env.locals ∧ p.1 ∉ X.fs ∧ ∀ v, p.2.data ≠ .cell v) : Inv X pins' σ H s :=
  ⟨I.ok, I.os, I.bare, I.base, I.loc, I.cell, I.free, I.freeC, fun p hp => (List.mem_append.mp hp).elim (fun z => I.pin p (List.mem_append_left _ z)) (h p), I.hok, I.len⟩
theorem nodup_ix {N : List Str} (hN : N.Nodup) {i j : Nat} {x : Str} (a : N[i]? = some x) (b : N[j]? = some x) : i = j := by
  obtain ⟨h1, e1⟩ := List.getElem?_eq_some_iff.mp a
  obtain ⟨h2, e2⟩ := List.getElem?_eq_some_iff.mp b
  exact (List.getElem_inj hN).mp (e1.trans e2.symm)
theorem store_ok2 {M : Model} {A : Around} {E : Value → Shared → Prop} {i : Nat} {x : Str} {v : V} {u : Value} {Q : Unit → Shared → Prop} (I : Inv X pins σ H s) (hN : X.N.Nodup) (hi : X.N[i]? = some x) (hx : Loc X.env.scope x) (r : RelV v u)
    (h : ∀ s', Inv X pins (σ.set i (some v)) H s' → (∃ a, Heap.SameBut a s.heap s'.heap ∧ (a = X.env.locals ∨ X.env.cells.lookup x = some a)) → Q () s') (hf : X.fn x = true ∨ X.env.scope.names.lookup x = some .local := by first | exact .inl rfl | exact .inr rfl | assumption) : wpAny M A (storeName X.env x u) Q E s := by
  obtain ⟨m, hn, hl⟩ := id I.loc
  have hcls : (X.env.scope.kind == .class || (X.env.scope.kind == .module && X.env.locals != X.env.globals)) = false := by rw [I.ok.kind]; rfl
  have hiσ : i < σ.length := by rw [I.len]; exact (List.getElem?_eq_some_iff.mp hi).1
  have cne := I.cne
  have tracked : ∀ {a : Addr} {h' : Heap}, (∃ o, s.heap.get? a = some o ∧ H a = none) → Heap.SameBut a s.heap h' → HOk X.prog X.w H h' := fun {a h'} ha hs b ob e => by
    obtain ⟨_, _, hfree⟩ := ha
    refine (I.hok b ob e).stay (fun c w' hc q => (hs.2 c ?_).trans q) (fun _ q => q) fun _ _ q => q
    rintro rfl
    rcases hc with rfl | hc
    · rw [hfree] at e; cases e
    · rw [hfree] at hc; cases hc
  rcases hx with hk | hk
  · refine wpAny_storeName_local hk hn (fun h' hn' hs => ?_) hcls
    obtain ⟨oL, _, _, hoL, _⟩ := id hn
    refine h _ ⟨I.ok, I.os, I.bare, ⟨fun b o e n hb hx => ?_, fun b o e n hb hx => ?_, I.base.free, fun b o e hx => ?_, I.base.tups, I.base.frzs, I.base.tbls⟩, ⟨_, hn', fun j y v' e1 e2 e3 => ?_⟩, fun y c e => ?_, I.free, I.freeC, fun p hp => ?_, tracked ⟨oL, hoL, I.free⟩ hs, by simpa using I.len⟩ ⟨_, hs, .inl rfl⟩
    · exact (hs.2 b (Nat.ne_of_lt (Nat.lt_of_lt_of_le (Heap.lt_size e) I.ok.above))).trans (I.base.keep b o e n hb hx)
    · obtain ⟨sl, e1⟩ := I.base.slot b o e n hb hx
      exact ⟨sl, (hs.2 b (Nat.ne_of_lt (Nat.lt_of_lt_of_le (Heap.lt_size e) I.ok.above))).trans e1⟩
    · obtain ⟨o', e1⟩ := I.base.there b o e hx
      exact ⟨o', (hs.2 b (Nat.ne_of_lt (Nat.lt_of_lt_of_le (Heap.lt_size e) I.ok.above))).trans e1⟩
    · by_cases hj : j = i
      · subst hj
        rw [hi] at e1; cases e1
        rw [List.getElem?_set_self hiσ] at e2
        cases e2
        exact ⟨u, r, .inl ⟨hk, by simp⟩⟩
      · rw [List.getElem?_set_ne (Ne.symm hj)] at e2
        obtain ⟨u', r', q⟩ := hl j y v' e1 e2 e3
        refine ⟨u', r', ?_⟩
        rcases q with ⟨k, e⟩ | ⟨k, c, e, z⟩
        · refine .inl ⟨k, ?_⟩
          have : y ≠ x := fun e => hj (nodup_ix hN e1 (e ▸ hi))
          simp [this, e]
        · exact .inr ⟨k, c, e, z.sameBut hs (cne y c e)⟩
    · obtain ⟨w', z⟩ := I.cell y c e
      exact ⟨w', z.sameBut hs (cne y c e)⟩
    · obtain ⟨e, n, ne, nf, d⟩ := I.pin p hp
      exact ⟨(hs.2 p.1 ne).trans e, n, ne, nf, d⟩
  · have hfn : X.fn x = true := by
      rcases hf with z | z
      · exact z
      · rw [z] at hk; cases hk
    obtain ⟨c, hc⟩ := I.ok.has x (.inl hk)
    obtain ⟨w', z⟩ := I.cell x c hc
    refine wpAny_storeName_cell I.ok.kind hk hc z (fun h' hc' hs => ?_)
    obtain ⟨oc, hoc, hocd⟩ := id z
    refine h { s with heap := h' } ⟨I.ok, I.os, I.bare, ⟨fun b o e n hb hx => ?_, fun b o e n hb hx => ?_, I.base.free, fun b o e hx => ?_, I.base.tups, I.base.frzs, I.base.tbls⟩, ⟨m, hn.sameBut hs (Ne.symm (cne x c hc)), fun j y v' e1 e2 e3 => ?_⟩, fun y c' e => ?_, I.free, I.freeC, fun p hp => ?_, tracked ⟨oc, hoc, I.freeC x c hc⟩ hs, by simpa using I.len⟩ ⟨c, hs, .inr hc⟩
    · exact (hs.2 b (Nat.ne_of_lt (Nat.lt_of_lt_of_le (Heap.lt_size e) (I.ok.cab x c hfn hc)))).trans (I.base.keep b o e n hb hx)
    · obtain ⟨sl, e1⟩ := I.base.slot b o e n hb hx
      exact ⟨sl, (hs.2 b (Nat.ne_of_lt (Nat.lt_of_lt_of_le (Heap.lt_size e) (I.ok.cab x c hfn hc)))).trans e1⟩
    · obtain ⟨o', e1⟩ := I.base.there b o e hx
      exact ⟨o', (hs.2 b (Nat.ne_of_lt (Nat.lt_of_lt_of_le (Heap.lt_size e) (I.ok.cab x c hfn hc)))).trans e1⟩
    · by_cases hj : j = i
      · subst hj
        rw [hi] at e1; cases e1
        rw [List.getElem?_set_self hiσ] at e2
        cases e2
        exact ⟨u, r, .inr ⟨.inl hk, c, hc, hc'⟩⟩
      · rw [List.getElem?_set_ne (Ne.symm hj)] at e2
        obtain ⟨u', r', q⟩ := hl j y v' e1 e2 e3
        refine ⟨u', r', ?_⟩
        rcases q with q | ⟨k, c', e, z'⟩
        · exact .inl q
        · refine .inr ⟨k, c', e, z'.sameBut hs ?_⟩
          rintro rfl
          exact hj (nodup_ix hN e1 (I.ok.inj _ _ _ e hc ▸ hi))
    · by_cases hcc : c' = c
      · subst hcc; exact ⟨_, hc'⟩
      · obtain ⟨w2, z2⟩ := I.cell y c' e
        exact ⟨w2, z2.sameBut hs hcc⟩
    · obtain ⟨e, n, ne, nf, d⟩ := I.pin p hp
      refine ⟨(hs.2 p.1 ?_).trans e, n, ne, nf, d⟩
      intro q
      rw [q, hoc] at e
      have q' : oc = p.2 := Option.some.inj e
      exact d w' (by rw [← q']; exact hocd)
theorem store_ok {M : Model} {A : Around} {E : Value → Shared → Prop} {i : Nat} {x : Str} {v : V} {u : Value} {Q : Unit → Shared → Prop} (I : Inv X pins σ H s) (hN : X.N.Nodup) (hi : X.N[i]? = some x) (hx : Loc X.env.scope x) (r : RelV v u)
    (h : ∀ s', Inv X pins (σ.set i (some v)) H s' → Q () s') (hf : X.fn x = true ∨ X.env.scope.names.lookup x = some .local := by first | exact .inl rfl | exact .inr rfl | assumption) : wpAny M A (storeName X.env x u) Q E s :=
  store_ok2 I hN hi hx r (fun s' I' _ => h s' I') hf
theorem Inv.call' {s' : Shared} {ch : List Addr} (I : Inv X pins σ H s) (ho : s'.os = s.os) (u : Un (frs X.stack) ch H H' s.heap s'.heap) (hok : HOk X.prog X.w H' s'.heap) (hg : AllBare s'.gens)
    (hch : ∀ b ∈ ch, (b ∈ X.ex ∨ X.s₀.heap.objs.size ≤ b) ∧ b ≠ X.env.locals ∧ (∀ x c, X.env.cells.lookup x = some c → c ≠ b) ∧ ∀ p ∈ X.pn ++ pins, p.1 ≠ b) : Inv X pins σ H' s' := by
  obtain ⟨h', g', d', t', o'⟩ := s'
  have e : o' = s.os := ho
  subst e
  exact I.call (g' := g') (t' := t') (d' := d') u hok hg hch
end
abbrev XK := Value → Option Addr → Hp → Prop
abbrev St := List (Option V)
abbrev VK := V → Hp → Prop
abbrev TE := St → Hp → VK → Prop
abbrev TT := St → Hp → (Bool → Hp → Prop) → Prop
abbrev TA := St → Hp → (List V → Hp → Prop) → Prop
structure Ends where
  nx : St → Hp → Prop
  rt : VK
  bk : St → Hp → Prop := fun _ _ => False
  ct : St → Hp → Prop := fun _ _ => False
abbrev TS := Ends → St → Hp → Prop
def EP (X : Cx) (pins : List (Addr × Obj)) (σ : St) (Q : VK) (u : Value) (s' : Shared) : Prop := ∃ v H', Inv X pins σ H' s' ∧ RelV v u ∧ Q v H'
def TP (X : Cx) (pins : List (Addr × Obj)) (σ : St) (Q : Bool → Hp → Prop) (b : Bool) (s' : Shared) : Prop := ∃ H', Inv X pins σ H' s' ∧ Q b H'
def AP (X : Cx) (pins : List (Addr × Obj)) (σ : St) (Q : List V → Hp → Prop) (us : List Value) (s' : Shared) : Prop := ∃ vs H', Inv X pins σ H' s' ∧ Vals vs us ∧ Q vs H'
def SP (X : Cx) (pins : List (Addr × Obj)) (D : Ends) (f : Flow) (s' : Shared) : Prop :=
  match f with
  | .next => ∃ σ' H', Inv X pins σ' H' s' ∧ D.nx σ' H'
  | .brk => ∃ σ' H', Inv X pins σ' H' s' ∧ D.bk σ' H'
  | .cont => ∃ σ' H', Inv X pins σ' H' s' ∧ D.ct σ' H'
  | .ret u => ∃ v σ' H', Inv X pins σ' H' s' ∧ RelV v u ∧ D.rt v H'
def PE (X : Cx) (e : Expr) (t : TE) : Prop :=
  ∀ (pins : List (Addr × Obj)) (s : Shared) (σ : St) (H : Hp) (Q : VK), Inv X pins σ H s → t σ H Q → wpAny (model X.prog X.w) X.A (eval e X.env) (EP X pins σ Q) X.xe s
def PT (X : Cx) (e : Expr) (t : TT) : Prop :=
  ∀ (pins : List (Addr × Obj)) (s : Shared) (σ : St) (H : Hp) (Q : Bool → Hp → Prop), Inv X pins σ H s → t σ H Q → wpAny (model X.prog X.w) X.A (isTrue e X.env (eval e X.env)) (TP X pins σ Q) X.xe s
def PW (X : Cx) (e : Expr) (t : TT) : Prop :=
  ∀ (whole : Sem Value) (pins : List (Addr × Obj)) (s : Shared) (σ : St) (H : Hp) (Q : Bool → Hp → Prop), Inv X pins σ H s → t σ H Q → wpAny (model X.prog X.w) X.A (isTrue e X.env whole) (TP X pins σ Q) X.xe s
def PA (X : Cx) (es : List Expr) (t : TA) : Prop :=
  ∀ (pos : Pos) (pins : List (Addr × Obj)) (s : Shared) (σ : St) (H : Hp) (Q : List V → Hp → Prop), Inv X pins σ H s → t σ H Q → wpAny (model X.prog X.w) X.A (spliced (backTo pos (starEach es X.env))) (AP X pins σ Q) X.xe s
def PS (X : Cx) (st : Stmt) (t : TS) : Prop :=
  ∀ (pins : List (Addr × Obj)) (s : Shared) (σ : St) (H : Hp) (D : Ends), Inv X pins σ H s → t D σ H → wpAny (model X.prog X.w) X.A (exec st X.env) (SP X pins D) X.xe s
def PSs (X : Cx) (st : List Stmt) (t : TS) : Prop :=
  ∀ (pins : List (Addr × Obj)) (s : Shared) (σ : St) (H : Hp) (D : Ends), Inv X pins σ H s → t D σ H → wpAny (model X.prog X.w) X.A (execs st X.env) (SP X pins D) X.xe s
theorem thn {α : Type} {t : Sem α} {Q Q' : α → Shared → Prop} {M : Model} {A : Around} {E : Value → Shared → Prop} {s : Shared} (h : wpAny M A t Q E s) (hQ : ∀ a s, Q a s → Q' a s) : wpAny M A t Q' E s := wpAny_mono h hQ fun _ _ x => x
end L2
namespace L2
open PySem PySem.Spec PyProof.Rows
section
variable {X : Cx}
def tVar (i : Nat) : TE := fun σ H Q => ∃ v, σ[i]? = some (some v) ∧ Q v H
def tC (v : V) : TE := fun _ H Q => Q v H
theorem pe_var {i : Nat} {x : Str} {pos : Pos} (hN : X.N[i]? = some x) (hv : Vis X.env.scope x) (hd : (x == ("__debug__" : Str)) = false := by decide) (hcd : (x == ("__classdict__" : Str)) = false := by decide) : PE X (.Name x pos) (tVar i) := by
  intro pins s σ H Q I h
  obtain ⟨v, e, h⟩ := h
  obtain ⟨m, hn, hl⟩ := I.loc
  obtain ⟨u, r, l⟩ := hl i x v hN e hv
  have fin : EP X pins σ Q u s := ⟨v, H, I, r, h⟩
  rcases l with ⟨hk, hm⟩ | ⟨hk, c, hc, hcell⟩
  · exact wpAny_Name (wpAny_loadName_local I.ok.kind hk hn hm fin) hd
  · rcases hk with hk | hk
    · exact wpAny_Name (wpAny_loadName_cell I.ok.kind hk hc hcell fin) hd
    · exact wpAny_Name (wpAny_loadName_free I.ok.kind hk hc hcell fin hcd) hd
theorem pe_int {i j pos} : PE X (.Constant (.int i) j pos) (tC (.int i)) := fun _ _ _ H _ I h => wpAny_Constant_int ⟨.int i, H, I.tok _, ⟨_, rfl⟩, h⟩
theorem pe_bl {b j pos} : PE X (.Constant (.bool b) j pos) (tC (.bl b)) := fun _ _ _ H _ I h => Constant_bool ⟨.bl b, H, I, rfl, h⟩
theorem pe_non {j pos} : PE X (.Constant .none j pos) (tC .non) := fun _ _ _ H _ I h => Constant_none ⟨.non, H, I, rfl, h⟩
theorem pe_str {x j pos} : PE X (.Constant (.str x) j pos) (tC (.str x)) := fun _ _ _ H _ I h => Calls.Constant_str ⟨.str x, H, I.tok _, ⟨_, rfl⟩, h⟩
def Gl (X : Cx) (x : Str) : Prop := X.env.kindOf x = some .globalImplicit
theorem ld_glob {E : Value → Shared → Prop} {pins : List (Addr × Obj)} {s : Shared} {σ : St} {H : Hp} {x : Str} {u : Value} {pos : Pos} {Q : Value → Shared → Prop} (I : Inv X pins σ H s) (hg : Gl X x) (hm : X.mg x = some u) (h : Q u s)
    (hd : (x == ("__debug__" : Str)) = false := by decide) : wpAny (model X.prog X.w) X.A (eval (.Name x pos) X.env) Q E s :=
  Calls.Name_function_global I.ok.kind hg (Calls.loadGlobal_global (by rw [I.ok.glob]; exact I.mod.glob.keeps I.bk) hm h) hd
theorem ld_blt {E : Value → Shared → Prop} {pins : List (Addr × Obj)} {s : Shared} {σ : St} {H : Hp} {x : Str} {u : Value} {pos : Pos} {Q : Value → Shared → Prop} (I : Inv X pins σ H s) (hg : Gl X x) (hm : X.mg x = none) (hv : bootBuiltins x = some u) (h : Q u s)
    (hn : x ≠ "__name__" := by decide) (hd : (x == ("__debug__" : Str)) = false := by decide) : wpAny (model X.prog X.w) X.A (eval (.Name x pos) X.env) Q E s := by
  obtain ⟨mb, h1, h2⟩ := I.mod.blt
  exact Calls.Name_function_global I.ok.kind hg (Calls.loadGlobal_builtin (by rw [I.ok.glob]; exact I.mod.glob.keeps I.bk) hm (by rw [I.ok.blt]; exact h1.keeps I.bk) ((h2 x hn).trans hv) h) hd
theorem pe_glob {x : Str} {v : V} {u : Value} {pos : Pos} (hg : Gl X x) (hm : X.mg x = some u) (r : RelV v u) (hd : (x == ("__debug__" : Str)) = false := by decide) : PE X (.Name x pos) (tC v) :=
  fun _ _ _ H _ I h => ld_glob I hg hm ⟨v, H, I, r, h⟩ hd
theorem pe_bltn {x : Str} {v : V} {u : Value} {pos : Pos} (hg : Gl X x) (hm : X.mg x = none) (hv : bootBuiltins x = some u) (r : RelV v u) (hn : x ≠ "__name__" := by decide) (hd : (x == ("__debug__" : Str)) = false := by decide) : PE X (.Name x pos) (tC v) :=
  fun _ _ _ H _ I h => ld_blt I hg hm hv ⟨v, H, I, r, h⟩ hn hd
def t2I (ta tb : TE) (k : Int → Int → Hp → Prop) : St → Hp → Prop := fun σ H => ta σ H fun x H1 => tb σ H1 fun y H2 => ∃ i j, x = .int i ∧ y = .int j ∧ k i j H2
variable {a b : Expr} {ta tb : TE} {pos : Pos}
def tCmp (p : Int → Int → Bool) (ta tb : TE) : TE := fun σ H Q => t2I ta tb (fun i j H2 => Q (.bl (p i j)) H2) σ H
abbrev tLt : TE → TE → TE := tCmp fun i j => decide (i < j)
abbrev tLe : TE → TE → TE := tCmp fun i j => decide (i ≤ j)
abbrev tGt : TE → TE → TE := tCmp fun i j => decide (j < i)
abbrev tGe : TE → TE → TE := tCmp fun i j => decide (j ≤ i)
abbrev tEqI : TE → TE → TE := tCmp fun i j => decide (i = j)
abbrev tNeI : TE → TE → TE := tCmp fun i j => !decide (i = j)
variable {tA tB' : TT} {rest : List Expr}
def tAnd (t u : TT) : TT := fun σ H Q => t σ H fun c H1 => if c = true then u σ H1 Q else Q false H1
def tOr (t u : TT) : TT := fun σ H Q => t σ H fun c H1 => if c = true then Q true H1 else u σ H1 Q
def tNot (t : TT) : TT := fun σ H Q => t σ H fun c H1 => Q (!c) H1
theorem pw_and1 (ha : PT X a tA) : PW X (.BoolOp .And [a] pos) tA := by
  intro wh pins s σ H Q I h
  refine isTrue_and (thn (ha pins s σ H Q I h) fun c s1 e => ?_)
  cases c with
  | true => exact isTrue_and_nil e
  | false => exact e
theorem pw_or1 (ha : PT X a tA) : PW X (.BoolOp .Or [a] pos) tA := by
  intro wh pins s σ H Q I h
  refine isTrue_or (thn (ha pins s σ H Q I h) fun c s1 e => ?_)
  cases c with
  | false => exact isTrue_or_nil e
  | true => exact e
theorem pw_and (ha : PT X a tA) (hb : PW X (.BoolOp .And (b :: rest) pos) tB') : PW X (.BoolOp .And (a :: b :: rest) pos) (tAnd tA tB') := by
  intro wh pins s σ H Q I h
  refine isTrue_and (thn (ha pins s σ H _ I h) fun c s1 ⟨H1, I1, q1⟩ => ?_)
  cases c with
  | true => exact hb wh pins s1 σ H1 Q I1 q1
  | false => exact ⟨H1, I1, q1⟩
theorem pw_or (ha : PT X a tA) (hb : PW X (.BoolOp .Or (b :: rest) pos) tB') : PW X (.BoolOp .Or (a :: b :: rest) pos) (tOr tA tB') := by
  intro wh pins s σ H Q I h
  refine isTrue_or (thn (ha pins s σ H _ I h) fun c s1 ⟨H1, I1, q1⟩ => ?_)
  cases c with
  | true => exact ⟨H1, I1, q1⟩
  | false => exact hb wh pins s1 σ H1 Q I1 q1
theorem pt_not (ha : PT X a tA) : PT X (.UnaryOp .Not a pos) (tNot tA) := by
  intro pins s σ H Q I h
  exact isTrue_not (ha pins s σ H (fun c H1 => Q (!c) H1) I h)
def tAndV (ta tb : TE) : TE := fun σ H Q => ta σ H fun x H1 => ∃ c, x = .bl c ∧ if c = true then tb σ H1 Q else Q (.bl false) H1
def tOrV (ta tb : TE) : TE := fun σ H Q => ta σ H fun x H1 => ∃ c, x = .bl c ∧ if c = true then Q (.bl true) H1 else tb σ H1 Q
def tNotV (ta : TE) : TE := fun σ H Q => ta σ H fun x H1 => ∃ c, x = .bl c ∧ Q (.bl (!c)) H1
theorem pe_one {op} {t : TE} (h : PE X a t) : PE X (.BoolOp op [a] pos) t := fun pins s σ H Q I hw => BoolOp_one (h pins s σ H Q I hw)
theorem pe_and (ha : PE X a ta) (hb : PE X (.BoolOp .And (b :: rest) pos) tb) : PE X (.BoolOp .And (a :: b :: rest) pos) (tAndV ta tb) := by
  intro pins s σ H Q I h
  refine BoolOp_and (thn (ha pins s σ H _ I h) fun v s1 ⟨x, H1, I1, r1, q1⟩ => ?_)
  obtain ⟨c, rfl, q1⟩ := q1
  cases r1
  refine wpAny_truthy_bool ?_
  cases c with
  | true => exact hb pins s1 σ H1 Q I1 q1
  | false => exact ⟨.bl false, H1, I1, rfl, q1⟩
theorem pe_or (ha : PE X a ta) (hb : PE X (.BoolOp .Or (b :: rest) pos) tb) : PE X (.BoolOp .Or (a :: b :: rest) pos) (tOrV ta tb) := by
  intro pins s σ H Q I h
  refine BoolOp_or (thn (ha pins s σ H _ I h) fun v s1 ⟨x, H1, I1, r1, q1⟩ => ?_)
  obtain ⟨c, rfl, q1⟩ := q1
  cases r1
  refine wpAny_truthy_bool ?_
  cases c with
  | false => exact hb pins s1 σ H1 Q I1 q1
  | true => exact ⟨.bl true, H1, I1, rfl, q1⟩
theorem pe_not (ha : PE X a ta) : PE X (.UnaryOp .Not a pos) (tNotV ta) := by
  intro pins s σ H Q I h
  refine UnaryOp_ (thn (ha pins s σ H _ I h) fun v s1 ⟨x, H1, I1, r1, q1⟩ => ?_)
  obtain ⟨c, rfl, q1⟩ := q1
  cases r1
  exact not_of (wpAny_truthy_bool ⟨.bl (!c), H1, I1, rfl, q1⟩)
def tIf (t : TT) (ta tb : TE) : TE := fun σ H Q => t σ H fun c H1 => if c = true then ta σ H1 Q else tb σ H1 Q
theorem pe_ifExp {c : Expr} (hc : PT X c tA) (ha : PE X a ta) (hb : PE X b tb) : PE X (.IfExp c a b pos) (tIf tA ta tb) := by
  intro pins s σ H Q I h
  refine wpAny_IfExp (thn (hc pins s σ H _ I h) fun d s1 ⟨H1, I1, q1⟩ => ?_)
  cases d with
  | true => exact ha pins s1 σ H1 Q I1 q1
  | false => exact hb pins s1 σ H1 Q I1 q1
end
end L2
namespace L2
open PySem PySem.Spec PyProof.Rows
def SqL (K : PySem.W.Frag) (H : Hp) (a : Addr) (xs : List V) : Prop :=
  Rd H a (.lst xs) ∨
    ∃ (o : Obj) (its : Array Value) (n : Nat), K.lookup a = some o ∧ o.cls = .type "list" ∧ o.dict = none ∧ o.data = .seq its n ∧ its.size ≤ sizeLine ∧ Vals xs its.toList
def SqT (K : PySem.W.Frag) (H : Hp) (a : Addr) (xs : List V) : Prop :=
  Rd H a (.tup xs) ∨
    ∃ (o : Obj) (its : Array Value) (n : Nat), K.lookup a = some o ∧ o.cls = .type "tuple" ∧ o.data = .seq its n ∧ its.size ≤ sizeLine ∧ Vals xs its.toList
def absV : Value → Option V
  | .none => some .non
  | .bool b => some (.bl b)
  | .int i _ => some (.int i)
  | .str x _ => some (.str x)
  | .bytes b _ => some (.byt b)
  | .float b _ => some (.flt b)
  | .ref a => some (.ref a)
  | .type n => some (.ty n)
  | _ => none
theorem RelV.abs {x : V} {u : Value} (r : RelV x u) : absV u = some x := by
  cases x with
  | non => cases r; rfl
  | bl _ => cases r; rfl
  | int _ => obtain ⟨t, rfl⟩ := r; rfl
  | str _ => obtain ⟨t, rfl⟩ := r; rfl
  | byt _ => obtain ⟨t, rfl⟩ := r; rfl
  | flt _ => obtain ⟨t, rfl⟩ := r; rfl
  | ref _ => cases r; rfl
  | ty _ => cases r; rfl
theorem RelV.inj {x y : V} {u : Value} (r : RelV x u) (q : RelV y u) : x = y := Option.some.inj (r.abs.symm.trans q.abs)
theorem Vals.inj : ∀ {xs ys : List V} {us : List Value}, Vals xs us → Vals ys us → xs = ys
  | _, _, _, .nil, .nil => rfl
  | _, _, _, .cons r t, .cons r' t' => by rw [r.inj r', Vals.inj t t']
section
variable {X : Cx} {pins : List (Addr × Obj)} {σ : St} {H : Hp} {s : Shared} {a : Addr} {xs ys : List V}
theorem SqL.of {K : PySem.W.Frag} (h : H a = some (.lst xs)) : SqL K H a xs := .inl (.inl h)
theorem SqT.of {K : PySem.W.Frag} (h : H a = some (.tup xs)) : SqT K H a xs := .inl (.inl h)
theorem Inv.list (I : Inv X pins σ H s) (h : SqL X.K H a xs) : ∃ its : List Value, Vals xs its ∧ PlainL s.heap a its.toArray ∧ xs.length ≤ sizeLine := by
  rcases h with h | ⟨o, its, n, hk, hc, hd, hs, hz, r⟩
  · obtain ⟨z, its, n, r, e⟩ := h.ok I.hok
    exact ⟨its, r, ⟨_, n, e, rfl, rfl, rfl⟩, z⟩
  · refine ⟨its.toList, r, ⟨o, n, I.kIn a o hk, hc, hd, by simpa using hs⟩, ?_⟩
    have e := r.length
    simp only [Array.length_toList] at e
    omega
theorem Inv.tuple (I : Inv X pins σ H s) (h : SqT X.K H a xs) : ∃ its : List Value, Vals xs its ∧ IsTup s.heap a its.toArray ∧ xs.length ≤ sizeLine := by
  rcases h with h | ⟨o, its, n, hk, hc, hs, hz, r⟩
  · obtain ⟨z, its, r, p, _⟩ := h.ok I.hok
    exact ⟨its, r, p, z⟩
  · refine ⟨its.toList, r, ⟨o, I.kIn a o hk, hc, n, by simpa using hs⟩, ?_⟩
    have e := r.length
    simp only [Array.length_toList] at e
    omega
theorem Inv.list_inj (I : Inv X pins σ H s) (h : SqL X.K H a xs) (h' : SqL X.K H a ys) : xs = ys := by
  obtain ⟨its, r, ⟨o, n, e, _, _, d⟩, _⟩ := I.list h
  obtain ⟨its', r', ⟨o', n', e', _, _, d'⟩, _⟩ := I.list h'
  rw [e] at e'; cases e'
  rw [d] at d'
  injection d' with d1 _
  have : its = its' := by simpa using congrArg Array.toList d1
  subst this
  exact r.inj r'
theorem Inv.tuple_inj (I : Inv X pins σ H s) (h : SqT X.K H a xs) (h' : SqT X.K H a ys) : xs = ys := by
  obtain ⟨its, r, ⟨o, e, _, n, d⟩, _⟩ := I.tuple h
  obtain ⟨its', r', ⟨o', e', _, n', d'⟩, _⟩ := I.tuple h'
  rw [e] at e'; cases e'
  rw [d] at d'
  injection d' with d1 _
  have : its = its' := by simpa using congrArg Array.toList d1
  subst this
  exact r.inj r'
end
abbrev Cx.wish (X : Cx) (E : Value → Shared → Prop) : Cx := { X with xe := E }
abbrev Cx.nox (X : Cx) : Cx := X.wish fun _ _ => False
section
variable {X : Cx} {pins : List (Addr × Obj)} {σ : St} {H : Hp} {s : Shared} {E : Value → Shared → Prop}
end
section
variable {X : Cx} {st : Stmt} {rest : List Stmt} {t u : TS} {e : Expr} {te : TE} {pos : Pos}
def tNext : TS := fun D σ H => D.nx σ H
def tSeq (t u : TS) : TS := fun D σ H => t { D with nx := u D } σ H
theorem pss_nil : PSs X [] tNext := fun _ _ σ H _ I h => wpAny_execs_nil ⟨σ, H, I, h⟩
theorem pss_cons (h1 : PS X st t) (h2 : PSs X rest u) : PSs X (st :: rest) (tSeq t u) := by
  intro pins s σ H D I h
  refine wpAny_execs_cons (thn (h1 pins s σ H { D with nx := u D } I h) fun f s1 q => ?_)
  cases f with
  | next =>
    obtain ⟨σ', H', I', q⟩ := q
    exact h2 pins s1 σ' H' D I' q
  | ret v => exact q
  | brk => exact q
  | cont => exact q
theorem pss_one (h1 : PS X st t) : PSs X [st] t := by
  intro pins s σ H D I h
  refine wpAny_execs_cons (thn (h1 pins s σ H D I h) fun f s1 q => ?_)
  cases f with
  | next => exact wpAny_execs_nil q
  | ret v => exact q
  | brk => exact q
  | cont => exact q
theorem ps_pass : PS X (.Pass pos) tNext := fun _ _ σ H _ I h => wpAny_Pass ⟨σ, H, I, h⟩
theorem Inv.quiet {pins : List (Addr × Obj)} {σ : St} {H : Hp} {s : Shared} (I : Inv X pins σ H s) : interactive X.env = false := by simp [interactive, I.ok.kind]
def tDrop (te : TE) : TS := fun D σ H => te σ H fun _ H1 => D.nx σ H1
theorem ps_expr (he : PE X e te) (hs : swapsWith e none pos.line X.env = pure false := by rfl) : PS X (.Expr e pos) (tDrop te) := by
  intro pins s σ H D I h
  exact wpAny_Expr_any (thn (he pins s σ H _ I h) fun v s1 ⟨x, H1, I1, r1, q1⟩ => ⟨σ, H1, I1, q1⟩) I.quiet hs
def tRet (te : TE) : TS := fun D σ H => te σ H D.rt
theorem ps_ret (he : PE X e te) : PS X (.Return (some e) pos) (tRet te) := by
  intro pins s σ H D I h
  exact wpAny_Return_some (thn (he pins s σ H _ I h) fun v s1 ⟨x, H1, I1, r1, q1⟩ => ⟨x, σ, H1, I1, r1, q1⟩)
def tRetN : TS := fun D _ H => D.rt .non H
theorem ps_retN : PS X (.Return none pos) tRetN := fun _ _ σ H _ I h => wpAny_Return_none ⟨.non, σ, H, I, rfl, h⟩
def tIfS (c : TT) (t u : TS) : TS := fun D σ H => c σ H fun b H1 => if b = true then t D σ H1 else u D σ H1
theorem ps_if {c : Expr} {a b : List Stmt} {tc : TT} (hc : PT X c tc) (ha : PSs X a t) (hb : PSs X b u) : PS X (.If c a b pos) (tIfS tc t u) := by
  intro pins s σ H D I h
  refine wpAny_If (thn (hc pins s σ H _ I h) fun d s1 ⟨H1, I1, q1⟩ => ?_)
  cases d with
  | true => exact ha pins s1 σ H1 D I1 q1
  | false => exact hb pins s1 σ H1 D I1 q1
def tNever : TS := fun _ _ _ => False
theorem ps_never : PS X st tNever := fun _ _ _ _ _ _ h => h.elim
theorem pss_never {sts : List Stmt} : PSs X sts tNever := fun _ _ _ _ _ _ h => h.elim
end
abbrev TG := V → St → Hp → (St → Hp → Prop) → Prop
abbrev TGs := List V → St → Hp → (St → Hp → Prop) → Prop
def PG (X : Cx) (target : Expr) (t : TG) : Prop :=
  ∀ (pins : List (Addr × Obj)) (s : Shared) (σ : St) (H : Hp) (v : V) (u : Value) (Q : St → Hp → Prop), Inv X pins σ H s → RelV v u → t v σ H Q →
    wpAny (model X.prog X.w) X.A (assign target X.env u) (fun _ s' => ∃ σ' H', Inv X pins σ' H' s' ∧ Q σ' H') X.xe s
def PGs (X : Cx) (ts : List Expr) (t : TGs) : Prop :=
  ∀ (pins : List (Addr × Obj)) (s : Shared) (σ : St) (H : Hp) (vs : List V) (us : List Value) (Q : St → Hp → Prop), Inv X pins σ H s → Vals vs us → t vs σ H Q →
    wpAny (model X.prog X.w) X.A (assignInOrder ((assignEach ts X.env).map (·.2)) us) (fun _ s' => ∃ σ' H', Inv X pins σ' H' s' ∧ Q σ' H') X.xe s
abbrev TSet := V → V → V → Hp → (Hp → Prop) → Prop
def PSet (X : Cx) (t : TSet) : Prop :=
  ∀ (pins : List (Addr × Obj)) (s : Shared) (σ : St) (H : Hp) (o i v : V) (ov iv u : Value) (Q : Hp → Prop), Inv X pins σ H s → RelV o ov → RelV i iv → RelV v u → t o i v H Q →
    wpAny (model X.prog X.w) X.A (setItem ov iv u) (fun _ s' => ∃ H', Inv X pins σ H' s' ∧ Q H') X.xe s
abbrev TIp := V → V → Hp → VK → Prop
section
variable {X : Cx} {pos : Pos}
def gName (i : Nat) : TG := fun v σ H Q => Q (σ.set i (some v)) H
theorem pg_name {i : Nat} {x : Str} (hN : X.N.Nodup) (hi : X.N[i]? = some x) (hx : Loc X.env.scope x) (hf : X.fn x = true ∨ X.env.scope.names.lookup x = some .local := by first | exact .inl rfl | exact .inr rfl | assumption) : PG X (.Name x pos) (gName i) := by
  intro pins s σ H v u Q I r h
  exact wpAny_assign_Name (store_ok I hN hi hx r (fun s' I' => ⟨_, H, I', h⟩) hf)
def gNil : TGs := fun vs σ H Q => vs = [] ∧ Q σ H
def gCons (t : TG) (u : TGs) : TGs := fun vs σ H Q => ∃ v r, vs = v :: r ∧ t v σ H fun σ' H' => u r σ' H' Q
theorem pgs_nil : PGs X [] gNil := by
  intro pins s σ H vs us Q I r h
  obtain ⟨e, h⟩ := h
  subst e
  cases r
  exact assignInOrder_nil ⟨σ, H, I, h⟩
theorem pgs_cons {e : Expr} {es : List Expr} {t : TG} {u : TGs} (h1 : PG X e t) (h2 : PGs X es u)
    (hs : (assignEach (e :: es) X.env).map (·.2) = assign e X.env :: (assignEach es X.env).map (·.2) := by rfl) : PGs X (e :: es) (gCons t u) := by
  intro pins s σ H vs us Q I r h
  obtain ⟨v, vr, e1, h⟩ := h
  subst e1
  cases r with
  | cons r rr =>
    rw [hs]
    refine assignInOrder_cons (thn (h1 pins s σ H _ _ _ I r h) fun _ s1 ⟨σ1, H1, I1, q1⟩ => ?_)
    exact h2 pins s1 σ1 H1 _ _ Q I1 rr q1
def gTup (K : PySem.W.Frag) (n : Nat) (t : TGs) : TG := fun v σ H Q => ∃ a xs, v = .ref a ∧ SqT K H a xs ∧ xs.length = n ∧ t xs σ H Q
theorem pg_tup {es : List Expr} {k : Nat} {t : TGs} {n : Nat} (hc : X.calm = true) (h : PGs X es t)
    (hn : (assignEach es X.env).length = n := by rfl) (hst : (assignEach es X.env).findIdx? (·.1) = none := by rfl) : PG X (.Tuple es k pos) (gTup X.K n t) := by
  intro pins s σ H v u Q I r hw
  obtain ⟨a, xs, e1, hq, hl, hw⟩ := hw
  subst e1
  cases r
  obtain ⟨its, rv, ht, hz⟩ := I.tuple hq
  refine assign_Tuple_tuple (I.ok.hd hc) ht (by simp [hn, ← hl, rv.length]) hst fun h' hx => ?_
  have I1 : Inv X pins σ H { s with heap := h' } := I.kept (t' := s.toks) fun b o e => hx b o (Nat.ne_of_lt (Heap.lt_size e)) e
  exact h pins _ σ H xs _ Q I1 (by simpa using rv) hw
def gSub (to ti : TE) (t : TSet) : TG := fun v σ H Q => to σ H fun o H1 => ti σ H1 fun i H2 => t o i v H2 fun H3 => Q σ H3
theorem pg_sub {o i : Expr} {to ti : TE} {t : TSet} (ho : PE X o to) (hi : PE X i ti) (hs : PSet X t)
    (ha : ∀ v, assign (.Subscript o i pos) X.env v = (do
      let ov ← holding [v] (eval o X.env)
      let iv ← holding [v, ov] (eval i X.env)
      standAt pos
      holding [v, ov, iv] (setItem ov iv v)
      release [v, ov, iv] []) := by intro _; rfl) : PG X (.Subscript o i pos) (gSub to ti t) := by
  intro pins s σ H v u Q I r h
  rw [ha]
  refine wpAny_bind (wpAny_holding (thn (ho pins s σ H _ I h) fun ov s1 ⟨x, H1, I1, r1, q1⟩ => ?_))
  refine wpAny_bind (wpAny_holding (thn (hi pins s1 σ H1 _ I1 q1) fun iv s2 ⟨y, H2, I2, r2, q2⟩ => ?_))
  refine wpAny_bind (wpAny_standAt (wpAny_bind (wpAny_holding (thn (hs pins s2 σ H2 x y v ov iv u _ I2 r1 r2 r q2) fun _ s3 ⟨H3, I3, q3⟩ => ?_))))
  exact wpAny_release ⟨σ, H3, I3, q3⟩
def tAsg (te : TE) (g : TG) : TS := fun D σ H => te σ H fun x H1 => g x σ H1 D.nx
theorem ps_asg {tg e : Expr} {te : TE} {g : TG} (he : PE X e te) (hg : PG X tg g) (hs : swapsWithSole [tg] e pos.line X.env = pure false := by rfl) (hw : swappedStores [tg] e X.env = pure none := by rfl)
    (h1 : (assignEach [tg] X.env).map (·.2) = [assign tg X.env] := by rfl) : PS X (.Assign [tg] e pos) (tAsg te g) := by
  intro pins s σ H D I h
  refine wpAny_Assign_stores (thn (he pins s σ H _ I h) fun v s1 ⟨x, H1, I1, r1, q1⟩ => ?_) hs hw
  rw [h1]
  exact thn (hg pins s1 σ H1 x v _ I1 r1 q1) fun _ s2 q => q
theorem ps_set {i : Nat} {x : Str} {e : Expr} {te : TE} {pos' : Pos} (hN : X.N.Nodup) (hi : X.N[i]? = some x) (hx : Loc X.env.scope x) (he : PE X e te) (hs : swapsWith e (some (.Name x pos')) pos.line X.env = pure false := by rfl) (hf : X.fn x = true ∨ X.env.scope.names.lookup x = some .local := by first | exact .inl rfl | exact .inr rfl | assumption) :
    PS X (.Assign [.Name x pos'] e pos) (tAsg te (gName i)) := by
  intro pins s σ H D I h
  refine wpAny_Assign_Name (thn (he pins s σ H _ I h) fun v s1 ⟨y, H1, I1, r1, q1⟩ => ?_) hs
  exact store_ok I1 hN hi hx r1 (fun s2 I2 => ⟨_, H1, I2, q1⟩) hf
end
section
variable {X : Cx} {pos : Pos}
def tWhile (c : TT) (tb : TS) : TS := fun D σ H => ∃ W : Nat → St → Hp → Prop, (∃ m, W m σ H) ∧ ∀ m σ H, W m σ H →
  c σ H fun b H1 => if b = true then ∃ N : St → Hp → Prop, (∀ σ' H', N σ' H' → ∃ m', m' < m ∧ W m' σ' H') ∧ tb { D with nx := N, ct := N, bk := D.nx } σ H1 else D.nx σ H1
theorem ps_while {c : Expr} {body : List Stmt} {tc : TT} {tb : TS} (hp : PassesOwn (model X.prog X.w) X.A X.env X.xe) (hc : PT X c tc) (hb : PSs X body tb) : PS X (.While c body [] pos) (tWhile tc tb) := by
  intro pins s σ H D I h
  obtain ⟨W, ⟨m0, w0⟩, turn⟩ := h
  refine wpAny_While (codeAny_whileLoop (fun n s' => ∃ σ' H', Inv X pins σ' H' s' ∧ W n σ' H') ?_ m0 ⟨σ, H, I, w0⟩)
  rintro n s1 ⟨σ1, H1, I1, w1⟩
  refine wpAny_passesOwn hp (thn (hc pins s1 σ1 H1 _ I1 (turn n σ1 H1 w1)) fun b s2 ⟨H2, I2, q2⟩ => ?_)
  cases b with
  | true =>
    obtain ⟨N, hN, q2⟩ := q2
    rw [if_pos rfl]
    refine wpAny_passesOwn hp (thn (hb pins s2 σ1 H2 _ I2 q2) fun f s3 q3 => ?_)
    cases f with
    | next =>
      obtain ⟨σ3, H3, I3, n3⟩ := q3
      obtain ⟨m', hm, w3⟩ := hN σ3 H3 n3
      exact ⟨m', hm, σ3, H3, I3, w3⟩
    | cont =>
      obtain ⟨σ3, H3, I3, n3⟩ := q3
      obtain ⟨m', hm, w3⟩ := hN σ3 H3 n3
      exact ⟨m', hm, σ3, H3, I3, w3⟩
    | brk => exact q3
    | ret v => exact q3
  | false =>
    rw [if_neg Bool.false_ne_true]
    exact wpAny_execs_nil ⟨σ1, H2, I2, q2⟩
end
structure It where
  go : Nat → Hp → Prop
  yld : Nat → Hp → V → Hp → Prop
  stop : Nat → Hp → Prop
def FpOk (X : Cx) (pins : List (Addr × Obj)) (H : Hp) (b : Addr) : Prop :=
  H b = none ∧ b ≠ X.env.locals ∧ b ∉ X.fs ∧ (b ∈ X.ex ∨ X.s₀.heap.objs.size ≤ b) ∧ (∀ x c, X.env.cells.lookup x = some c → c ≠ b) ∧ ∀ p ∈ X.pn ++ pins, p.1 ≠ b
theorem Inv.fpOk {X : Cx} {pins : List (Addr × Obj)} {σ : St} {H H' : Hp} {s : Shared} {b : Addr} (I : Inv X pins σ H s) (hb : s.heap.objs.size ≤ b) (hn : H' b = none) : FpOk X pins H' b := by
  refine ⟨hn, Nat.ne_of_gt (Nat.lt_of_lt_of_le I.lt hb), I.nofs hb, .inr (Nat.le_trans I.sz hb), fun x c e z => ?_, fun p hp z => ?_⟩
  · obtain ⟨v, q⟩ := I.cell x c e
    exact absurd (Nat.lt_of_lt_of_le q.lt (by rw [z]; exact hb)) (Nat.lt_irrefl _)
  · exact absurd (Nat.lt_of_lt_of_le (Heap.lt_size (I.pin p hp).1) (by rw [z]; exact hb)) (Nat.lt_irrefl _)
structure Turn (P : Program) (w : World) (K : PySem.W.Frag) (tg : Expr) (J : It) (fp : List Addr) (it : Addr) (tn : Nat → Heap → Prop) : Prop where
  mem : it ∈ fp
  obj : ∀ i h, tn i h → ∀ b ∈ fp, ∃ o, h.get? b = some o ∧ ∀ v, o.data ≠ .cell v
  keep : ∀ i h h', tn i h → (∀ b ∈ fp, ∀ o, h.get? b = some o → h'.get? b = some o) → tn i h'
  item : ∀ (X : Cx), X.prog = P → X.w = w → X.K = K → X.calm = true → ∀ (i : Nat) (pins : List (Addr × Obj)) (s : Shared) (σ : St) (H : Hp) (E : Value → Shared → Prop), Inv X pins σ H s → (∀ b ∈ fp, FpOk X pins H b) → tn i s.heap → J.go i H →
    wpAny (model P w) X.A (pyNext (.ref it)) (fun r s1 => ∃ u, r = some u ∧
      wpAny (model P w) X.A (letOwnedTupleGo tg (.ref it) u) (fun _ s2 => ∃ x H', Inv X pins σ H' s2 ∧ RelV x u ∧ J.yld i H x H' ∧ tn (i + 1) s2.heap ∧ ∀ b ∈ fp, H' b = none) E s1) E s
  done : ∀ (X : Cx), X.prog = P → X.w = w → X.K = K → X.calm = true → ∀ (i : Nat) (pins : List (Addr × Obj)) (s : Shared) (σ : St) (H : Hp) (E : Value → Shared → Prop), Inv X pins σ H s → (∀ b ∈ fp, FpOk X pins H b) → tn i s.heap → J.stop i H →
    wpAny (model P w) X.A (pyNext (.ref it)) (fun r s1 => r = none ∧ Inv X pins σ H s1) E s
  self : ∀ (A : Around) (i : Nat) (s : Shared) (Q : Value → Shared → Prop) (E : Value → Shared → Prop), tn i s.heap → Q (.ref it) s → wpAny (model P w) A (pyIter (.ref it)) Q E s
abbrev TI := St → Hp → (It → Hp → Prop) → Prop
def PIE (X : Cx) (pins : List (Addr × Obj)) (σ : St) (tg : Expr) (R : It → Hp → Prop) (itv : Value) (s2 : Shared) : Prop :=
  ∃ (it : Addr) (fp : List Addr) (tn : Nat → Heap → Prop) (J : It) (H' : Hp), itv = .ref it ∧ Inv X pins σ H' s2 ∧ Turn X.prog X.w X.K tg J fp it tn ∧ tn 0 s2.heap ∧ (∀ b ∈ fp, FpOk X pins H' b) ∧ R J H'
def PI (X : Cx) (tg iter : Expr) (wi : TI) : Prop :=
  ∀ (pins : List (Addr × Obj)) (s : Shared) (σ : St) (H : Hp) (R : It → Hp → Prop), Inv X pins σ H s → wi σ H R →
    wpAny (model X.prog X.w) X.A (eval iter X.env) (fun v s1 => wpAny (model X.prog X.w) X.A (pyIter v) (PIE X pins σ tg R) X.xe s1) X.xe s
theorem go_of {M : Model} {A : Around} {E : Value → Shared → Prop} {s : Shared} {tg : Expr} {it : Addr} {u : Value} {o : Obj} {n : String} {vs : Array Value} {Q : Unit → Shared → Prop} (ho : s.heap.get? it = some o) (hc : o.cls = .type n) (hd : o.data = .fields vs)
    (hn : ["enumerate", "zip", "dict_itemiterator", "dict_reverseitemiterator", "odict_iterator", "itertools.zip_longest", "itertools.pairwise"].contains n = false) (hQ : Q () s) : wpAny M A (letOwnedTupleGo tg (.ref it) u) Q E s := by
  unfold letOwnedTupleGo
  cases tg <;> first
    | exact wpAny_pure hQ
    | (cases u <;> first
        | exact wpAny_pure hQ
        | (refine wpAny_bind (wpAny_load ho ?_)
           rw [hc, hd]
           show wpAny M A (if (["enumerate", "zip", "dict_itemiterator", "dict_reverseitemiterator", "odict_iterator", "itertools.zip_longest", "itertools.pairwise"].contains n && vs[0]? == some (rawInt _)) = true then _ else _) Q E s
           rw [if_neg (by intro h; rw [hn, Bool.false_and] at h; cases h)]
           exact wpAny_pure hQ))
def Itl (K : PySem.W.Frag) (a : Addr) : It :=
  ⟨fun i H => ∃ xs x, SqL K H a xs ∧ xs[i]? = some x, fun i H x H' => H' = H ∧ ∀ xs, SqL K H a xs → xs[i]? = some x, fun i H => ∃ xs, SqL K H a xs ∧ xs.length ≤ i⟩
def Itt (K : PySem.W.Frag) (a : Addr) : It :=
  ⟨fun i H => ∃ xs x, SqT K H a xs ∧ xs[i]? = some x, fun i H x H' => H' = H ∧ ∀ xs, SqT K H a xs → xs[i]? = some x, fun i H => ∃ xs, SqT K H a xs ∧ xs.length ≤ i⟩
def Itr (lo : Int) (n : Nat) : It := ⟨fun i _ => i < n, fun i H x H' => H' = H ∧ x = .int (lo + i), fun i _ => n ≤ i⟩
theorem turn_list {P : Program} {w : World} {K : PySem.W.Frag} {tg : Expr} (a it : Addr) : Turn P w K tg (Itl K a) [it] it (fun i h => h.IsListIter it a i) where
  mem := by simp
  obj := fun i h st b hb => by
    have e : b = it := by simpa using hb
    subst e
    obtain ⟨o, e, c, d⟩ := st
    exact ⟨o, e, fun v z => by rw [d] at z; cases z⟩
  keep := fun i h h' st k => st.at fun o e => k it (by simp) o e
  item := by
    intro X hP hw hK hc i pins s σ H E I hf st hg
    subst hP hw hK
    obtain ⟨xs, x, hq, hx⟩ := hg
    obtain ⟨its, rv, p, hz⟩ := I.list hq
    obtain ⟨u, hu, ru⟩ := rv.get hx
    obtain ⟨f0, f1, f2, f3, f4, f5⟩ := hf it (by simp)
    refine wpAny_pyNext_list_item st p.isList (x := u) (by simpa using hu) fun h' st' sb => ?_
    have I1 : Inv X pins σ H { s with heap := h' } := I.turned (t' := s.toks) (fun b o hb e => (sb.2 b hb).trans e) f0 f1 f3 f4 f5
    obtain ⟨o, e, c, d⟩ := id st'
    exact ⟨u, rfl, go_of (s := { s with heap := h' }) e c d (by decide) ⟨x, H, I1, ru, ⟨rfl, fun ys hy => by rw [I.list_inj hy hq]; exact hx⟩, st', fun b hb => (hf b hb).1⟩⟩
  done := by
    intro X hP hw hK hc i pins s σ H E I hf st hg
    subst hP hw hK
    obtain ⟨xs, hq, hx⟩ := hg
    obtain ⟨its, rv, p, hz⟩ := I.list hq
    obtain ⟨f0, f1, f2, f3, f4, f5⟩ := hf it (by simp)
    have hl := rv.length
    exact wpAny_pyNext_list_end (I.ok.hd hc) st p.isList (by simp; omega) fun h' eb => ⟨rfl, I.turned (t' := s.toks) (fun b o hb e => eb b o hb e) f0 f1 f3 f4 f5⟩
  self := fun _ _ _ _ _ st h => wpAny_pyIter_listiter st h
theorem turn_tuple {P : Program} {w : World} {K : PySem.W.Frag} {tg : Expr} (a it : Addr) : Turn P w K tg (Itt K a) [it] it (fun i h => h.IsTupleIter it a i) where
  mem := by simp
  obj := fun i h st b hb => by
    have e : b = it := by simpa using hb
    subst e
    obtain ⟨o, e, c, d⟩ := st
    exact ⟨o, e, fun v z => by rw [d] at z; cases z⟩
  keep := fun i h h' st k => st.at fun o e => k it (by simp) o e
  item := by
    intro X hP hw hK hc i pins s σ H E I hf st hg
    subst hP hw hK
    obtain ⟨xs, x, hq, hx⟩ := hg
    obtain ⟨its, rv, p, hz⟩ := I.tuple hq
    obtain ⟨u, hu, ru⟩ := rv.get hx
    obtain ⟨f0, f1, f2, f3, f4, f5⟩ := hf it (by simp)
    refine wpAny_pyNext_tuple_item st (show s.heap.IsTuple a its.toArray from p) (x := u) (by simpa using hu) fun h' st' sb => ?_
    have I1 : Inv X pins σ H { s with heap := h' } := I.turned (t' := s.toks) (fun b o hb e => (sb.2 b hb).trans e) f0 f1 f3 f4 f5
    obtain ⟨o, e, c, d⟩ := id st'
    exact ⟨u, rfl, go_of (s := { s with heap := h' }) e c d (by decide) ⟨x, H, I1, ru, ⟨rfl, fun ys hy => by rw [I.tuple_inj hy hq]; exact hx⟩, st', fun b hb => (hf b hb).1⟩⟩
  done := by
    intro X hP hw hK hc i pins s σ H E I hf st hg
    subst hP hw hK
    obtain ⟨xs, hq, hx⟩ := hg
    obtain ⟨its, rv, p, hz⟩ := I.tuple hq
    obtain ⟨f0, f1, f2, f3, f4, f5⟩ := hf it (by simp)
    have hl := rv.length
    exact wpAny_pyNext_tuple_end (I.ok.hd hc) st (show s.heap.IsTuple a its.toArray from p) (by simp; omega) fun h' eb => ⟨rfl, I.turned (t' := s.toks) (fun b o hb e => eb b o hb e) f0 f1 f3 f4 f5⟩
  self := fun _ _ _ _ _ st h => wpAny_pyIter_tupleiter st h
theorem turn_range {P : Program} {w : World} {K : PySem.W.Frag} {tg : Expr} (it : Addr) (lo : Int) (n : Nat) : Turn P w K tg (Itr lo n) [it] it (fun i h => IsRangeIter h it (lo + (i : Nat) * 1) ((n : Int) - (i : Nat)) 1) where
  mem := by simp
  obj := fun i h st b hb => by
    have e : b = it := by simpa using hb
    subst e
    exact ⟨_, st, fun v z => by
      have z' : Data.fields _ = Data.cell v := z
      cases z'⟩
  keep := fun i h h' st k => k it (by simp) _ st
  item := by
    intro X hP hw hK hc i pins s σ H E I hf st hg
    subst hP hw hK
    obtain ⟨f0, f1, f2, f3, f4, f5⟩ := hf it (by simp)
    have W := Walks.range (prog := X.prog) (w := X.w) (I.ok.hd hc) it lo 1 n
    refine W.item i s _ _ hg st fun v h' tk hv st' kk => ?_
    obtain ⟨t, rfl⟩ := hv
    have I1 : Inv X pins σ H { s with heap := h', toks := tk } := I.turned (fun b o hb e => kk b o (by simpa using hb) e) f0 f1 f3 f4 f5
    refine ⟨_, rfl, go_of (s := { s with heap := h', toks := tk }) (n := "range_iterator") st' rfl rfl (by decide) ⟨.int (lo + i), H, I1, ⟨t, ?_⟩, ⟨rfl, rfl⟩, st', fun b hb => (hf b hb).1⟩⟩
    rw [Int.mul_one]
  done := by
    intro X hP hw hK hc i pins s σ H E I hf st hg
    subst hP hw hK
    obtain ⟨f0, f1, f2, f3, f4, f5⟩ := hf it (by simp)
    exact wpAny_pyNext_range_end (I.ok.hd hc) st (by have : n ≤ i := hg; omega) fun h' eb => ⟨rfl, I.turned (t' := s.toks) (fun b o hb e => eb b o hb e) f0 f1 f3 f4 f5⟩
  self := fun _ _ _ _ _ st h => wpAny_pyIter_rangeiter st h
end L2
namespace L2
open PySem PySem.Spec PyProof.Rows
section
variable {X : Cx} {tg : Expr}
def iList (K : PySem.W.Frag) (tl : TE) : TI := fun σ H R => tl σ H fun x H1 => ∃ a, x = .ref a ∧ (∃ xs, SqL K H1 a xs) ∧ R (Itl K a) H1
theorem pi_list {l : Expr} {tl : TE} (hl : PE X l tl) : PI X tg l (iList X.K tl) := by
  intro pins s σ H R I h
  refine thn (hl pins s σ H _ I h) fun v s1 ⟨x, H1, I1, r1, q1⟩ => ?_
  obtain ⟨a, e, ⟨xs, hq⟩, q⟩ := q1
  subst e
  cases r1
  obtain ⟨its, rv, p, hz⟩ := I1.list hq
  refine wpAny_pyIter_list p.isList ?_
  refine ⟨s1.heap.objs.size, [s1.heap.objs.size], _, _, H1, rfl, I1.kept (t' := s1.toks) fun b o e => Heap.get?_push_of_some _ e, turn_list a _, ⟨_, Heap.get?_push_size _ rfl, rfl, rfl⟩, fun b hb => ?_, q⟩
  have e : b = s1.heap.objs.size := by simpa using hb
  subst e
  exact I1.fpOk (Nat.le_refl _) (I1.hok.fresh (Nat.le_refl _))
theorem range_it {pins : List (Addr × Obj)} {σ : St} {H : Hp} {s : Shared} {R : It → Hp → Prop} {E : Value → Shared → Prop} {lo hi : Int} {t u v : Tok} {tk : Nat} (I : Inv X pins σ H s) (h1 : -(2 ^ 62) ≤ lo) (h2 : lo < 2 ^ 62) (h3 : -(2 ^ 62) ≤ hi) (h4 : hi < 2 ^ 62)
    (q : R (Itr lo (hi - lo).toNat) H) : wpAny (model X.prog X.w) X.A (pyIter (.ref s.heap.objs.size)) (PIE X pins σ tg R) E { s with heap := s.heap.push { cls := .type "range", data := .fields #[.int lo t, .int hi u, .int 1 v] }, toks := tk } := by
  refine wpAny_pyIter_range (IsRange.new ..) (small_one h1 h2 h3 h4) ?_
  have I1 : Inv X pins σ H { s with heap := s.heap.push { cls := .type "range", data := .fields #[.int lo t, .int hi u, .int 1 v] }, toks := tk } := I.kept fun b o e => Heap.get?_push_of_some _ e
  refine ⟨(s.heap.push { cls := .type "range", data := .fields #[.int lo t, .int hi u, .int 1 v] }).objs.size, [(s.heap.push { cls := .type "range", data := .fields #[.int lo t, .int hi u, .int 1 v] }).objs.size], _, _, H, rfl,
    I1.kept (t' := tk) fun b o e => Heap.get?_push_of_some _ e, turn_range _ lo (hi - lo).toNat, ?_, fun b hb => ?_, q⟩
  · have e1 : lo + ((0 : Nat) : Int) * 1 = lo := by simp
    have e2 : (((hi - lo).toNat : Nat) : Int) - ((0 : Nat) : Int) = Builtin.Range.rangeSize lo hi 1 := by rw [rangeSize_one]; split <;> omega
    show IsRangeIter _ _ (lo + ((0 : Nat) : Int) * 1) ((((hi - lo).toNat : Nat) : Int) - ((0 : Nat) : Int)) 1
    rw [e1, e2]
    exact Heap.get?_push_size _ rfl
  · have e : b = (s.heap.push { cls := .type "range", data := .fields #[.int lo t, .int hi u, .int 1 v] }).objs.size := by simpa using hb
    subst e
    exact I1.fpOk (Nat.le_refl _) (I1.hok.fresh (Nat.le_refl _))
def iRng1 (ta : TA) : TI := fun σ H R => ta σ H fun vs H1 => ∃ j : Int, vs = [.int j] ∧ -(2 ^ 62) ≤ j ∧ j < 2 ^ 62 ∧ R (Itr 0 j.toNat) H1
def iRng2 (ta : TA) : TI := fun σ H R => ta σ H fun vs H1 => ∃ i j : Int, vs = [.int i, .int j] ∧ (-(2 ^ 62) ≤ i ∧ i < 2 ^ 62 ∧ -(2 ^ 62) ≤ j ∧ j < 2 ^ 62) ∧ R (Itr i (j - i).toNat) H1
theorem pi_range1 {a : Expr} {ta : TA} {p pos : Pos} (hg : Gl X "range") (hm : X.mg "range" = none) (ha : PA X [a] ta) (hs : starEach [a] X.env = [(false, eval a X.env)] := by rfl) : PI X tg (.Call (.Name "range" p) [a] [] pos) (iRng1 ta) := by
  intro pins s σ H R I h
  refine Call_ (ld_blt I hg hm boot_range (PyProof.Rows.callWith_type1 (thn (ha pos pins s σ H _ I h) fun us s1 ⟨vs, H1, I1, r1, q1⟩ => ?_) hs rfl))
  obtain ⟨j, e, q1, q2, q⟩ := q1
  subst e
  cases r1 with
  | cons r rr =>
    cases rr
    obtain ⟨t, rfl⟩ := r
    exact call_range_1 (range_it I1 (by omega) (by omega) q1 q2 (by simpa using q))
theorem pi_range2 {a b : Expr} {ta : TA} {p pos : Pos} (hg : Gl X "range") (hm : X.mg "range" = none) (ha : PA X [a, b] ta) (hs : starEach [a, b] X.env = [(false, eval a X.env), (false, eval b X.env)] := by rfl) (hs2 : starEach [b] X.env = [(false, eval b X.env)] := by rfl) :
    PI X tg (.Call (.Name "range" p) [a, b] [] pos) (iRng2 ta) := by
  intro pins s σ H R I h
  refine Call_ (ld_blt I hg hm boot_range (PyProof.Rows.callWith_type1 (thn (ha pos pins s σ H _ I h) fun us s1 ⟨vs, H1, I1, r1, q1⟩ => ?_) (by rw [hs, hs2]) (by rw [hs2]; rfl)))
  obtain ⟨i, j, e, ⟨q1, q2, q3, q4⟩, q⟩ := q1
  subst e
  cases r1 with
  | cons r rr =>
    cases rr with
    | cons r' rr =>
      cases rr
      obtain ⟨t, rfl⟩ := r
      obtain ⟨t', rfl⟩ := r'
      exact call_range_2 (range_it I1 q1 q2 q3 q4 q)
def tFor (wi : TI) (g : TG) (tb : TS) : TS := fun D σ H => wi σ H fun J H1 => ∃ W : Nat → Nat → St → Hp → Prop, (∃ m, W 0 m σ H1) ∧ ∀ i m σ H, W i m σ H →
  (J.stop i H ∧ D.nx σ H) ∨ (J.go i H ∧ ∃ N : St → Hp → Prop, (∀ σ' H', N σ' H' → ∃ m', m' < m ∧ W (i + 1) m' σ' H') ∧ ∀ x H', J.yld i H x H' → g x σ H' fun σ2 H2 => tb { D with nx := N, ct := N, bk := D.nx } σ2 H2)
def pinsAt (fp : List Addr) (h : Heap) : List (Addr × Obj) := fp.filterMap fun b => (h.get? b).map fun o => (b, o)
theorem mem_pinsAt {fp : List Addr} {h : Heap} {b : Addr} {o : Obj} (hb : b ∈ fp) (e : h.get? b = some o) : (b, o) ∈ pinsAt fp h := List.mem_filterMap.mpr ⟨b, hb, by rw [e]; rfl⟩
theorem of_pinsAt {fp : List Addr} {h : Heap} {p : Addr × Obj} (hp : p ∈ pinsAt fp h) : p.1 ∈ fp ∧ h.get? p.1 = some p.2 := by
  obtain ⟨b, hb, e⟩ := List.mem_filterMap.mp hp
  cases q : h.get? b with
  | none => rw [q] at e; cases e
  | some o =>
    rw [q] at e
    have e' : (b, o) = p := Option.some.inj e
    subst e'
    exact ⟨hb, q⟩
theorem Inv.pinned {pins : List (Addr × Obj)} {σ : St} {H : Hp} {s : Shared} {fp : List Addr} (I : Inv X pins σ H s) (hf : ∀ b ∈ fp, FpOk X pins H b) (ho : ∀ b ∈ fp, ∃ o, s.heap.get? b = some o ∧ ∀ v, o.data ≠ .cell v) : Inv X (pins ++ pinsAt fp s.heap) σ H s :=
  I.pins_of fun p hp => (List.mem_append.mp hp).elim (fun z => I.pin p (List.mem_append_right _ z)) fun z => by
    obtain ⟨hb, e⟩ := of_pinsAt z
    obtain ⟨f0, f1, f2, _⟩ := hf p.1 hb
    obtain ⟨o, e', d⟩ := ho p.1 hb
    rw [e] at e'; cases e'
    exact ⟨e, f0, f1, f2, d⟩
theorem Inv.unpinned {pins pl : List (Addr × Obj)} {σ : St} {H : Hp} {s : Shared} (I : Inv X (pins ++ pl) σ H s) : Inv X pins σ H s := I.pins_of fun p hp => I.pin p (List.mem_append_right _ (List.mem_append_left _ hp))
theorem ps_for {iter : Expr} {body : List Stmt} {wi : TI} {g : TG} {tb : TS} {pos : Pos} (hp : PassesOwn (model X.prog X.w) X.A X.env X.xe) (hc : X.calm = true) (hi : PI X tg iter wi) (hg : PG X tg g) (hb : PSs X body tb)
    (hs : ∀ x, foldedSetIterable iter X.env x = pure x := by intro _; rfl) : PS X (.For tg iter body [] pos) (tFor wi g tb) := by
  intro pins s σ H D I h
  refine wpAny_For (thn (hi pins s σ H _ I h) fun v s1 h1 => thn h1 fun itv s2 h2 => ?_) hs
  obtain ⟨it, fp, tn, J, H2, e, I2, T, st2, f2, W, ⟨m0, w0⟩, turn⟩ := h2
  subst e
  -- what stays true of the iterator's objects through the loop
  have stat : ∀ {H' : Hp}, (∀ b ∈ fp, H' b = none) → ∀ b ∈ fp, FpOk X pins H' b := fun hn b hb => ⟨hn b hb, (f2 b hb).2⟩
  refine codeAny_forLoop_any (fun n s' => ∃ i σ' H', Inv X pins σ' H' s' ∧ tn i s'.heap ∧ (∀ b ∈ fp, H' b = none) ∧ W i n σ' H') ?_ m0 ⟨0, σ, H2, I2, st2, fun b hb => (f2 b hb).1, w0⟩
  rintro n s3 ⟨i, σ3, H3, I3, st3, fr3, w3⟩
  rcases turn i n σ3 H3 w3 with ⟨stop, qn⟩ | ⟨go, N, hN, step⟩
  · refine wpAny_passesOwn hp (thn (T.done X rfl rfl rfl hc i pins s3 σ3 H3 X.xe I3 (stat fr3) st3 stop) fun r s4 ⟨hr, I4⟩ => ?_)
    subst hr
    exact wpAny_execs_nil ⟨σ3, H3, I4, qn⟩
  · refine wpAny_passesOwn hp (thn (T.item X rfl rfl rfl hc i pins s3 σ3 H3 X.xe I3 (stat fr3) st3 go) fun r s4 ⟨u, hr, h4⟩ => ?_)
    subst hr
    refine wpAny_passesOwn hp (thn h4 fun _ s5 ⟨x, H5, I5, r5, y5, st5, fr5⟩ => ?_)
    have I5' := I5.pinned (stat fr5) (T.obj _ _ st5)
    refine wpAny_passesOwn hp (thn (hg _ s5 σ3 H5 x u _ I5' r5 (step x H5 y5)) fun _ s6 ⟨σ6, H6, I6, q6⟩ => ?_)
    refine wpAny_passesOwn hp (thn (hb _ s6 σ6 H6 _ I6 q6) fun f s7 q7 => ?_)
    have again : ∀ {σ7 : St} {H7 : Hp}, Inv X (pins ++ pinsAt fp s5.heap) σ7 H7 s7 → N σ7 H7 → ∃ m, m < n ∧ ∃ i σ' H', Inv X pins σ' H' s7 ∧ tn i s7.heap ∧ (∀ b ∈ fp, H' b = none) ∧ W i m σ' H' := fun {σ7 H7} I7 n7 => by
      obtain ⟨m', hm, w7⟩ := hN σ7 H7 n7
      refine ⟨m', hm, i + 1, σ7, H7, I7.unpinned, T.keep _ _ _ st5 fun b hb o e => (I7.pin (b, o) (List.mem_append_right _ (List.mem_append_right _ (mem_pinsAt hb e)))).1, fun b hb => ?_, w7⟩
      obtain ⟨o, e, d⟩ := T.obj _ _ st5 b hb
      exact (I7.pin (b, o) (List.mem_append_right _ (List.mem_append_right _ (mem_pinsAt hb e)))).2.1
    cases f with
    | next => obtain ⟨σ7, H7, I7, n7⟩ := q7; exact again I7 n7
    | cont => obtain ⟨σ7, H7, I7, n7⟩ := q7; exact again I7 n7
    | brk => obtain ⟨σ7, H7, I7, q7⟩ := q7; exact ⟨σ7, H7, I7.unpinned, q7⟩
    | ret v => obtain ⟨x7, σ7, H7, I7, r7, q7⟩ := q7; exact ⟨x7, σ7, H7, I7.unpinned, r7, q7⟩
end
end L2
namespace L2
open PySem PySem.Spec PyProof.Rows
abbrev R2 := V → V → Hp → VK → Prop
def OpR (X : Cx) (f : Value → Value → Sem Value) (r : R2) : Prop :=
  ∀ (pins : List (Addr × Obj)) (s : Shared) (σ : St) (H : Hp) (x y : V) (v u : Value) (Q : VK), Inv X pins σ H s → RelV x v → RelV y u → r x y H Q →
    wpAny (model X.prog X.w) X.A (f v u) (EP X pins σ Q) X.xe s
def UnR (X : Cx) (f : Value → Sem Value) (r : V → Hp → VK → Prop) : Prop :=
  ∀ (pins : List (Addr × Obj)) (s : Shared) (σ : St) (H : Hp) (x : V) (v : Value) (Q : VK), Inv X pins σ H s → RelV x v → r x H Q →
    wpAny (model X.prog X.w) X.A (f v) (EP X pins σ Q) X.xe s
def CallR (X : Cx) (f : Value) (r : List V → Hp → VK → Prop) : Prop :=
  ∀ (pins : List (Addr × Obj)) (s : Shared) (σ : St) (H : Hp) (xs : List V) (us : List Value) (Q : VK), Inv X pins σ H s → Vals xs us → r xs H Q →
    wpAny (model X.prog X.w) X.A (call f us) (EP X pins σ Q) X.xe s
def TruR (X : Cx) (r : V → Hp → (Bool → Hp → Prop) → Prop) : Prop :=
  ∀ (pins : List (Addr × Obj)) (s : Shared) (σ : St) (H : Hp) (x : V) (v : Value) (Q : Bool → Hp → Prop), Inv X pins σ H s → RelV x v → r x H Q →
    wpAny (model X.prog X.w) X.A (truthy v) (TP X pins σ Q) X.xe s
def tOp (r : R2) (ta tb : TE) : TE := fun σ H Q => ta σ H fun x H1 => tb σ H1 fun y H2 => r x y H2 Q
def tUn (r : V → Hp → VK → Prop) (ta : TE) : TE := fun σ H Q => ta σ H fun x H1 => r x H1 Q
def rI (C : Int → Int → Prop) (g : Int → Int → V) : R2 := fun x y H Q => ∃ i j, x = .int i ∧ y = .int j ∧ C i j ∧ Q (g i j) H
def rI0 (g : Int → Int → V) : R2 := fun x y H Q => ∃ i j, x = .int i ∧ y = .int j ∧ Q (g i j) H
def rU (g : Int → V) : V → Hp → VK → Prop := fun x H Q => ∃ i, x = .int i ∧ Q (g i) H
section
variable {X : Cx} {a b c : Expr} {ta tb tc : TE} {pos : Pos}
theorem binT (ha : PE X a ta) (hb : PE X b tb) {pins : List (Addr × Obj)} {s : Shared} {σ : St} {H : Hp} {R : V → V → Hp → Prop} (I : Inv X pins σ H s)
    (h : ta σ H fun x H1 => tb σ H1 fun y H2 => R x y H2) {Q : Value → Shared → Prop} {f : Value → Value → Sem Value}
    (hf : ∀ v u s2 x y H2, Inv X pins σ H2 s2 → RelV x v → RelV y u → R x y H2 → wpAny (model X.prog X.w) X.A (f v u) Q X.xe s2) :
    wpAny (model X.prog X.w) X.A (eval a X.env) (fun v s₁ => wpAny (model X.prog X.w) X.A (eval b X.env) (fun u s₂ => wpAny (model X.prog X.w) X.A (f v u) Q X.xe s₂) X.xe s₁) X.xe s := by
  refine thn (ha pins s σ H _ I h) fun v s1 ⟨x, H1, I1, r1, q1⟩ => ?_
  refine thn (hb pins s1 σ H1 _ I1 q1) fun u s2 ⟨y, H2, I2, r2, q2⟩ => ?_
  exact hf v u s2 x y H2 I2 r1 r2 q2
theorem pe_op {op : Operator} {r : R2} (ho : OpR X (binaryOp op) r) (ha : PE X a ta) (hb : PE X b tb) : PE X (.BinOp a op b pos) (tOp r ta tb) := by
  intro pins s σ H Q I h
  exact wpAny_BinOp (binT ha hb I h fun v u s2 x y H2 I2 rx ry q => ho pins s2 σ H2 x y v u Q I2 rx ry q)
theorem pe_un {op : UnaryOp} {r : V → Hp → VK → Prop} (ho : UnR X (unaryOp op) r) (ha : PE X a ta) : PE X (.UnaryOp op a pos) (tUn r ta) := by
  intro pins s σ H Q I h
  exact UnaryOp_ (thn (ha pins s σ H _ I h) fun v s1 ⟨x, H1, I1, r1, q1⟩ => ho pins s1 σ H1 x v Q I1 r1 q1)
theorem opI {f : Value → Value → Sem Value} {C : Int → Int → Prop} {g : Int → Int → Int}
    (rule : ∀ (i j : Int) (t u : Tok) (s : Shared) (Q : Value → Shared → Prop) (E : Value → Shared → Prop), C i j → Q (.int (g i j) s.toks) { s with toks := s.toks + 1 } → wpAny (model X.prog X.w) X.A (f (.int i t) (.int j u)) Q E s) :
    OpR X f (rI C fun i j => .int (g i j)) := by
  intro pins s σ H x y v u Q I rx ry h
  obtain ⟨i, j, rfl, rfl, hc, q⟩ := h
  obtain ⟨t, rfl⟩ := rx
  obtain ⟨t', rfl⟩ := ry
  exact rule i j t t' s _ _ hc ⟨.int (g i j), H, I.tok _, ⟨_, rfl⟩, q⟩
theorem opI0 {f : Value → Value → Sem Value} {g : Int → Int → Int}
    (rule : ∀ (i j : Int) (t u : Tok) (s : Shared) (Q : Value → Shared → Prop) (E : Value → Shared → Prop), Q (.int (g i j) s.toks) { s with toks := s.toks + 1 } → wpAny (model X.prog X.w) X.A (f (.int i t) (.int j u)) Q E s) :
    OpR X f (rI0 fun i j => .int (g i j)) := by
  intro pins s σ H x y v u Q I rx ry h
  obtain ⟨i, j, rfl, rfl, q⟩ := h
  obtain ⟨t, rfl⟩ := rx
  obtain ⟨t', rfl⟩ := ry
  exact rule i j t t' s _ _ ⟨.int (g i j), H, I.tok _, ⟨_, rfl⟩, q⟩
theorem opB0 {f : Value → Value → Sem Value} {g : Int → Int → Bool}
    (rule : ∀ (i j : Int) (t u : Tok) (s : Shared) (Q : Value → Shared → Prop) (E : Value → Shared → Prop), Q (.bool (g i j)) s → wpAny (model X.prog X.w) X.A (f (.int i t) (.int j u)) Q E s) :
    OpR X f (rI0 fun i j => .bl (g i j)) := by
  intro pins s σ H x y v u Q I rx ry h
  obtain ⟨i, j, rfl, rfl, q⟩ := h
  obtain ⟨t, rfl⟩ := rx
  obtain ⟨t', rfl⟩ := ry
  exact rule i j t t' s _ _ ⟨.bl (g i j), H, I, rfl, q⟩
def CPow (i j : Int) : Prop := 0 ≤ j ∧ j ≤ 1000000 ∧ i.natAbs < 2 ^ 64
theorem op_add : OpR X (binaryOp .Add) (rI0 fun i j => .int (i + j)) := opI0 fun _ _ _ _ _ _ _ q => add_int q
theorem op_sub : OpR X (binaryOp .Sub) (rI0 fun i j => .int (i - j)) := opI0 fun _ _ _ _ _ _ _ q => sub_int q
theorem op_pow : OpR X (binaryOp .Pow) (rI CPow fun i j => .int (i ^ j.toNat)) := opI fun _ _ _ _ _ _ _ hc q => pow_int_small hc.1 hc.2.1 hc.2.2 q
theorem unI {f : Value → Sem Value} {g : Int → Int}
    (rule : ∀ (i : Int) (t : Tok) (s : Shared) (Q : Value → Shared → Prop) (E : Value → Shared → Prop), Q (.int (g i) s.toks) { s with toks := s.toks + 1 } → wpAny (model X.prog X.w) X.A (f (.int i t)) Q E s) :
    UnR X f (rU fun i => .int (g i)) := by
  intro pins s σ H x v Q I rx h
  obtain ⟨i, rfl, q⟩ := h
  obtain ⟨t, rfl⟩ := rx
  exact rule i t s _ _ ⟨.int (g i), H, I.tok _, ⟨_, rfl⟩, q⟩
theorem un_neg : UnR X (unaryOp .USub) (rU fun i => .int (-i)) := unI fun _ _ _ _ _ q => neg_int q
end
section
variable {X : Cx} {a b c : Expr} {ta tb tc : TE} {pos : Pos}
theorem fin_bl {pins : List (Addr × Obj)} {σ : St} {H : Hp} {s : Shared} {Q : VK} {k k' : Bool} (I : Inv X pins σ H s) (q : Q (.bl k) H) (e : k = k') : EP X pins σ Q (.bool k') s := by
  subst e
  exact ⟨.bl k, H, I, rfl, q⟩
theorem op_lt : OpR X (compareOp .Lt) (rI0 fun i j => .bl (decide (i < j))) := opB0 fun _ _ _ _ _ _ _ q => lt_int q
theorem op_le : OpR X (compareOp .LtE) (rI0 fun i j => .bl (decide (i ≤ j))) := opB0 fun _ _ _ _ _ _ _ q => le_int q
theorem op_gt : OpR X (compareOp .Gt) (rI0 fun i j => .bl (decide (j < i))) := opB0 fun _ _ _ _ _ _ _ q => gt_int q
theorem op_ge : OpR X (compareOp .GtE) (rI0 fun i j => .bl (decide (j ≤ i))) := opB0 fun _ _ _ _ _ _ _ q => ge_int q
theorem op_lt_str : OpR X (compareOp .Lt) (fun x y H Q => ∃ i j, x = .str i ∧ y = .str j ∧ Q (.bl (decide (i.cps.toList < j.cps.toList))) H) := by
  intro pins s σ H x y v u Q I rx ry h
  obtain ⟨i, j, rfl, rfl, q⟩ := h
  obtain ⟨t, rfl⟩ := rx
  obtain ⟨t', rfl⟩ := ry
  exact lt_str (fin_bl I q rfl)
theorem op_in_str : OpR X (compareOp .In) (fun x y H Q => ∃ i j, x = .str i ∧ y = .str j ∧ Q (.bl (!(Builtin.Str.occurrences j i 0 j.length 1).isEmpty)) H) := by
  intro pins s σ H x y v u Q I rx ry h
  obtain ⟨i, j, rfl, rfl, q⟩ := h
  obtain ⟨t, rfl⟩ := rx
  obtain ⟨t', rfl⟩ := ry
  exact in_str (fin_bl I q rfl)
theorem op_isN : OpR X (compareOp .Is) (fun x y H Q => y = .non ∧ Q (.bl (decide (x = .non))) H) := by
  intro pins s σ H x y v u Q I rx ry h
  obtain ⟨rfl, q⟩ := h
  cases ry
  refine is_none_gen (fin_bl I q ?_)
  cases x <;> first
    | (cases rx; rfl)
    | (obtain ⟨t, rfl⟩ := rx; rfl)
theorem op_notN : OpR X (compareOp .IsNot) (fun x y H Q => y = .non ∧ Q (.bl (!decide (x = .non))) H) := by
  intro pins s σ H x y v u Q I rx ry h
  obtain ⟨rfl, q⟩ := h
  cases ry
  refine isnot_none_gen (fin_bl I q ?_)
  cases x <;> first
    | (cases rx; rfl)
    | (obtain ⟨t, rfl⟩ := rx; rfl)
theorem pe_cmpR {op : CmpOp} {r : R2} (ho : OpR X (compareOp op) r) (ha : PE X a ta) (hb : PE X b tb) (hm : behindInMarks op b = false) : PE X (.Compare a [op] [b] pos) (tOp r ta tb) := by
  intro pins s σ H Q I h
  exact wpAny_Compare1 (binT ha hb I h fun v u s2 x y H2 I2 rx ry q => ho pins s2 σ H2 x y v u Q I2 rx ry q) hm
def tTest (t : TE) : TT := fun σ H Q => t σ H fun x H' => ∃ k, x = .bl k ∧ Q k H'
theorem pt_cmpR {op : CmpOp} {r : R2} (ho : OpR X (compareOp op) r) (ha : PE X a ta) (hb : PE X b tb) (hm : behindInMarks op b = false) : PT X (.Compare a [op] [b] pos) (tTest (tOp r ta tb)) := by
  intro pins s σ H Q I h
  refine wpAny_isTrue_Compare1 (thn (ha pins s σ H _ I h) fun v s1 ⟨x, H1, I1, r1, q1⟩ => thn (hb pins s1 σ H1 _ I1 q1) fun u s2 ⟨y, H2, I2, r2, q2⟩ =>
    thn (ho pins s2 σ H2 x y v u _ I2 r1 r2 q2) fun c s3 ⟨z, H3, I3, r3, k, e, q3⟩ => ?_) hm
  subst e
  cases r3
  exact wpAny_truthy_bool ⟨H3, I3, q3⟩
def tChain (r r' : R2) (ta tb tc : TE) : TE := fun σ H Q => ta σ H fun x H1 => tb σ H1 fun y H2 => r x y H2 fun z H3 => ∃ k, z = .bl k ∧
  (if k = true then tc σ H3 fun w' H4 => r' y w' H4 Q else Q (.bl false) H3)
theorem pe_chain {op op' : CmpOp} {r r' : R2} (ho : OpR X (compareOp op) r) (ho' : OpR X (compareOp op') r') (ha : PE X a ta) (hb : PE X b tb) (hc : PE X c tc)
    (hm : lastMarks [op, op'] [b, c] = false := by with_unfolding_all rfl) : PE X (.Compare a [op, op'] [b, c] pos) (tChain r r' ta tb tc) := by
  intro pins s σ H Q I h
  refine Compare_chain (thn (ha pins s σ H _ I h) fun v s1 ⟨x, H1, I1, r1, q1⟩ => chain_link (thn (hb pins s1 σ H1 _ I1 q1) fun u s2 ⟨y, H2, I2, r2, q2⟩ =>
    thn (ho pins s2 σ H2 x y v u _ I2 r1 r2 q2) fun d s3 ⟨z, H3, I3, r3, k, e, q3⟩ => ?_)) hm
  subst e
  cases r3
  refine wpAny_truthy_bool ?_
  cases k with
  | false => exact ite_ff ⟨.bl false, H3, I3, rfl, q3⟩
  | true => exact ite_tt (chain_last (thn (hc pins s3 σ H3 _ I3 q3) fun w' s4 ⟨z', H4, I4, r4, q4⟩ => ho' pins s4 σ H4 y z' u w' Q I4 r2 r4 q4))
theorem pt_chain {op op' : CmpOp} {r r' : R2} (ho : OpR X (compareOp op) r) (ho' : OpR X (compareOp op') r') (ha : PE X a ta) (hb : PE X b tb) (hc : PE X c tc)
    (hm : lastMarks [op, op'] [b, c] = false := by with_unfolding_all rfl) : PT X (.Compare a [op, op'] [b, c] pos) (tTest (tChain r r' ta tb tc)) := by
  intro pins s σ H Q I h
  refine isTrue_chain (thn (ha pins s σ H _ I h) fun v s1 ⟨x, H1, I1, r1, q1⟩ => test_link (thn (hb pins s1 σ H1 _ I1 q1) fun u s2 ⟨y, H2, I2, r2, q2⟩ =>
    thn (ho pins s2 σ H2 x y v u _ I2 r1 r2 q2) fun d s3 ⟨z, H3, I3, r3, k, e, q3⟩ => ?_)) hm
  subst e
  cases r3
  refine wpAny_truthy_bool ?_
  cases k with
  | false =>
    obtain ⟨k', e', q'⟩ := q3
    cases e'
    exact ite_ff ⟨H3, I3, q'⟩
  | true =>
    refine ite_tt (test_last (thn (hc pins s3 σ H3 _ I3 q3) fun w' s4 ⟨z', H4, I4, r4, q4⟩ => thn (ho' pins s4 σ H4 y z' u w' _ I4 r2 r4 q4) fun d' s5 ⟨z2, H5, I5, r5, k2, e2, q5⟩ => ?_))
    subst e2
    cases r5
    exact wpAny_truthy_bool ⟨H5, I5, q5⟩
def TruV (K : PySem.W.Frag) (x : V) (H : Hp) (k : Bool) : Prop :=
  match x with
  | .non => k = false
  | .bl b => k = b
  | .int i => k = (i != 0)
  | .str y => y.length ≤ sizeLine ∧ k = ((y.length : Int) != 0)
  | .byt y => y.size ≤ sizeLine ∧ k = ((y.size : Int) != 0)
  | .ref p => (∃ xs, SqL K H p xs ∧ k = !xs.isEmpty) ∨ (∃ xs, SqT K H p xs ∧ k = !xs.isEmpty) ∨ ∃ kvs, H p = some (.dK kvs) ∧ k = !kvs.isEmpty
  | _ => False
theorem isEmpty_kv {κ : Type} {kvs : List (κ × V)} {vs : List (κ × Value)} (r : KV kvs vs) : (!vs.isEmpty) = !kvs.isEmpty := by
  cases r <;> rfl
theorem isEmpty_of {xs : List V} {its : List Value} (r : Vals xs its) : (!its.toArray.isEmpty) = !xs.isEmpty := by
  cases r <;> simp
theorem line63 : (sizeLine : Nat) < 2 ^ 63 := by rw [sizeLine_eq]; decide
theorem tru_ok : TruR X (fun x H Q => ∃ k, TruV X.K x H k ∧ Q k H) := by
  intro pins s σ H x v Q I rx h
  obtain ⟨k, e, q⟩ := h
  have hl := line63
  have hs : sizeLine = 16777216 := sizeLine_eq
  cases x with
  | non =>
    cases rx
    have e' : k = false := e
    subst e'
    exact truthy_none ⟨H, I, q⟩
  | bl b =>
    cases rx
    have e' : k = b := e
    subst e'
    exact wpAny_truthy_bool ⟨H, I, q⟩
  | int i =>
    obtain ⟨t, rfl⟩ := rx
    have e' : k = (i != 0) := e
    subst e'
    exact PySem.P.truthy_int ⟨H, I, q⟩
  | str y =>
    obtain ⟨t, rfl⟩ := rx
    obtain ⟨hy, e'⟩ : y.length ≤ sizeLine ∧ k = ((y.length : Int) != 0) := e
    subst e'
    exact PySem.P.truthy_str (by omega) ⟨H, I.tok _, q⟩
  | byt y =>
    obtain ⟨t, rfl⟩ := rx
    obtain ⟨hy, e'⟩ : y.size ≤ sizeLine ∧ k = ((y.size : Int) != 0) := e
    subst e'
    exact PySem.W.truthy_bytes (by omega) ⟨H, I.tok _, q⟩
  | ref p =>
    cases rx
    have e' : (∃ xs, SqL X.K H p xs ∧ k = !xs.isEmpty) ∨ (∃ xs, SqT X.K H p xs ∧ k = !xs.isEmpty) ∨ ∃ kvs, H p = some (.dK kvs) ∧ k = !kvs.isEmpty := e
    rcases e' with ⟨xs, hx, e'⟩ | ⟨xs, hx, e'⟩ | ⟨kvs, hx, e'⟩
    · subst e'
      obtain ⟨its, r, pl, hz⟩ := I.list hx
      have hlen := r.length
      exact wpAny_truthy_list pl.isList (by simp only [List.size_toArray]; omega) ⟨H, I.tok _, by rw [isEmpty_of r]; exact q⟩
    · subst e'
      obtain ⟨its, r, pl, hz⟩ := I.tuple hx
      have hlen := r.length
      exact truthy_tuple pl (by simp only [List.size_toArray]; omega) ⟨H, I.tok _, by rw [isEmpty_of r]; exact q⟩
    · subst e'
      obtain ⟨hz, hS, vs, r, m⟩ : kvs.length ≤ sizeLine ∧ (p == sysModules) = false ∧ ∃ vs, KV kvs vs ∧ s.heap.DictOf (mixKind X.prog X.w) p vs := I.hok p _ hx
      have hlen : kvs.length = vs.length := Paired.length r
      exact wpAny_truthy_dict hS m (by omega) ⟨H, I.tok _, by rw [isEmpty_kv r]; exact q⟩
  | _ => exact (show False from e).elim
theorem pt_truth (ha : PE X a ta) (he : ∀ whole, isTrue a X.env whole = (do let v ← whole; standAt a.pos; holding [v] (truthy v))) :
    PT X a (fun σ H Q => ta σ H fun x H' => ∃ k, TruV X.K x H' k ∧ Q k H') := by
  intro pins s σ H Q I h
  exact isTrue_plain (thn (ha pins s σ H _ I h) fun v s1 ⟨x, H1, I1, r1, q1⟩ => tru_ok pins s1 σ H1 x v Q I1 r1 q1) (he _)
theorem op_add_str : OpR X (binaryOp .Add) (fun x y H Q => ∃ i j, x = .str i ∧ y = .str j ∧ i.length + j.length ≤ sizeLine ∧ Q (.str (i ++ j)) H) := by
  intro pins s σ H x y v u Q I rx ry h
  obtain ⟨i, j, rfl, rfl, hz, q⟩ := h
  obtain ⟨t, rfl⟩ := rx
  obtain ⟨t', rfl⟩ := ry
  exact add_str (fun t' tk => ⟨.str (i ++ j), H, I.tok _, ⟨_, rfl⟩, q⟩) hz
theorem vals1 {x : V} {us : List Value} (r : Vals [x] us) : ∃ u, us = [u] ∧ RelV x u := by
  cases r with
  | cons r1 r2 => cases r2; exact ⟨_, rfl, r1⟩
theorem vals2 {x y : V} {us : List Value} (r : Vals [x, y] us) : ∃ u w', us = [u, w'] ∧ RelV x u ∧ RelV y w' := by
  cases r with
  | cons r1 r2 =>
    cases r2 with
    | cons r3 r4 => cases r4; exact ⟨_, _, rfl, r1, r3⟩
end
end L2
namespace L2
open PySem PySem.Spec PyProof.Rows
structure ObjM (h : Heap) (x dx C : Addr) (mA : Str → Option Value) : Prop where
  obj : h.get? x = some (PySem.W.instObj C dx)
  ns : h.Ns1 dx mA
  ne : dx ≠ x
section
variable {prog : Program} {w : World} {A : Around} {E : Value → Shared → Prop} {s : Shared} {K : PySem.W.Frag} {x dx C f : Addr} {mA : Str → Option Value} {name : Str} {v : Value}
end
theorem RelO.some_of {v : V} {o : Option Value} (r : RelO (some v) o) : ∃ u, o = some u ∧ RelV v u := by
  cases o with
  | none => exact (show False from r).elim
  | some u => exact ⟨u, rfl, r⟩
section
variable {P : Program} {w : World} {H H' : Hp} {h h' : Heap} {a C dx : Addr} {fs fs' : List (Str × V)}
end
structure Cls (K : PySem.W.Frag) (C : Addr) : Prop where
  pg : PySem.W.plainGet K C Str.empty = true
  hd : PySem.W.hasDictIn K C = true
  po : PySem.W.plainOver K C = true
  sa : PySem.W.findIn K (.ref C) "__setattr__" = some (some (.builtin "object.__setattr__"))
structure Con (K : PySem.W.Frag) (C : Addr) (f : Str) (v : V) (u : Value) : Prop where
  at_ : PySem.W.findIn K (.ref C) f = some (some u)
  rel : RelV v u
  get : PySem.W.specialIn K u "__get__" = some none
  cp : PySem.W.copiedNames.contains f = false
structure Meth (K : PySem.W.Frag) (C : Addr) (m : Str) (f : Addr) : Prop where
  at_ : PySem.W.findIn K (.ref C) m = some (some (.ref f))
  fn : PySem.W.isFn K (.ref f) = true
  kp : PySem.W.keepIn K (.ref f) = true
section
variable {X : Cx} {pins : List (Addr × Obj)} {σ : St} {H : Hp} {s : Shared} {a C dx : Addr} {fs : List (Str × V)} {f : Str} {v : V} {A : Around} {E : Value → Shared → Prop}
end
section
variable {X : Cx} {o e value : Expr} {f : Str} {pos pos' tpos : Pos} {ta tv : TE}
end
section
variable {X : Cx} {pins : List (Addr × Obj)} {σ : St} {H : Hp} {s : Shared} {A : Around} {E : Value → Shared → Prop} {Q : Value → Shared → Prop} {c : Value} {b : Bool}
inductive TyOf (K : PySem.W.Frag) (H : Hp) : V → Value → Prop where
  | non : TyOf K H .non (.type "NoneType")
  | bl (x : Bool) : TyOf K H (.bl x) (.type "bool")
  | int (i : Int) : TyOf K H (.int i) (.type "int")
  | str (x : Str) : TyOf K H (.str x) (.type "str")
  | flt (x : UInt64) : TyOf K H (.flt x) (.type "float")
  | lst {a : Addr} {xs : List V} (e : H a = some (.lst xs)) : TyOf K H (.ref a) (.type "list")
  | frz {a : Addr} {o : Obj} {xs : List V} (e : H a = some (.frz o (.lst xs))) : TyOf K H (.ref a) (.type "list")
  | tup {a : Addr} {xs : List V} (e : H a = some (.tup xs)) : TyOf K H (.ref a) (.type "tuple")
  | dK {a : Addr} {kvs : List (Key × V)} (e : H a = some (.dK kvs)) : TyOf K H (.ref a) (.type "dict")
  | dT {a : Addr} {kvs : List (List Key × V)} (e : H a = some (.dT kvs)) : TyOf K H (.ref a) (.type "dict")
  | ins {a C dx : Addr} {fs : List (Str × V)} (e : H a = some (.ins C dx fs)) (cl : Cls K C) (ha : PySem.W.findIn K (.ref C) "__class__" = some (some (.builtin "object.__class__")))
      (hn : PySem.W.specialIn K (.builtin "object.__class__") "__get__" = some (some (.builtin "getset_descriptor.__get__"))) (htk : PySem.W.takesIn K (.builtin "object.__class__") = some true)
      (hm : PySem.W.mroIn K C (.type "object") = some true) : TyOf K H (.ref a) (.ref C)
end
end L2
namespace L2
open PySem PySem.Spec PyProof.Rows
structure Room (k : Nat) (A : Around) : Prop where
  hd : A.handled = none
  dp : A.depth + 3 * k + 5 < recursionLimit
  un : A.units + 16 * k + 200 < cLine
theorem Room.mono {j k : Nat} {A : Around} (r : Room k A) (h : j ≤ k) : Room j A := ⟨r.hd, by have := r.dp; omega, by have := r.un; omega⟩
theorem Room.deeper {k : Nat} {A : Around} (r : Room (k + 1) A) (env : Env) : Room k (A.deeper env) :=
  ⟨r.hd, by have := r.dp; show A.depth + 1 + 3 * k + 5 < _; omega, by have := r.un; show A.units + 3 + 16 * k + 200 < _; omega⟩
theorem Room.depth {k : Nat} {A : Around} (r : Room k A) : A.depth < recursionLimit := by have := r.dp; omega
def tNil : TA := fun _ H Q => Q [] H
def tCons (ta : TE) (tr : TA) : TA := fun σ H Q => ta σ H fun x H1 => tr σ H1 fun xs H2 => Q (x :: xs) H2
section
variable {X : Cx} {e : Expr} {es : List Expr} {te : TE} {t : TA} {pos : Pos}
theorem pa_nil : PA X [] tNil := fun _ _ _ _ H Q I h => Calls.spliced_nil ⟨[], H, I, .nil, h⟩
theorem pa_cons (ha : PE X e te) (hr : PA X es t) (hs : starEach (e :: es) X.env = (false, eval e X.env) :: starEach es X.env := by rfl) : PA X (e :: es) (tCons te t) := by
  intro pos pins s σ H Q I h
  rw [hs]
  show wpAny _ _ (spliced ((false, eval e X.env) :: backTo pos (starEach es X.env))) _ _ s
  refine Calls.spliced_cons (thn (ha pins s σ H _ I h) fun u s1 ⟨x, H1, I1, r1, q1⟩ => ?_)
  exact thn (hr pos pins s1 σ H1 _ I1 q1) fun us s2 ⟨xs, H2, I2, r2, q2⟩ => ⟨x :: xs, H2, I2, .cons r1 r2, q2⟩
def tTup (t : TA) : TE := fun σ H Q => t σ H fun xs H1 => xs.length ≤ sizeLine ∧ ∀ p, H1 p = none → Q (.ref p) (upd H1 p (.tup xs))
def tLst (t : TA) : TE := fun σ H Q => t σ H fun xs H1 => xs.length ≤ sizeLine ∧ ∀ p, H1 p = none → Q (.ref p) (upd H1 p (.lst xs))
theorem pe_tup {x1} (h : PA X es t) : PE X (.Tuple es x1 pos) (tTup t) := by
  intro pins s σ H Q I hq
  refine wpAny_Tuple_spliced (thn (h pos pins s σ H _ I hq) fun us s1 ⟨xs, H1, I1, r, z, q⟩ => ⟨by rw [← r.length]; exact z, ?_⟩)
  have hf : H1 s1.heap.objs.size = none := I1.hok.fresh (Nat.le_refl _)
  refine ⟨.ref s1.heap.objs.size, upd H1 s1.heap.objs.size (.tup xs), I1.laid (t' := s1.toks) (fun b u e => Heap.get?_push_of_some _ e) (Nat.le_refl _) ?_, rfl, q _ hf⟩
  exact ⟨z, us, r, ⟨_, Heap.get?_push_size _ rfl, rfl, _, rfl⟩, NoDi.new _ _⟩
theorem pe_lst (h : PA X es t) : PE X (.List es pos) (tLst t) := by
  intro pins s σ H Q I hq
  refine wpAny_List_spliced (thn (h pos pins s σ H _ I hq) fun us s1 ⟨xs, H1, I1, r, z, q⟩ => ⟨by rw [← r.length]; exact z, ?_⟩)
  have hf : H1 s1.heap.objs.size = none := I1.hok.fresh (Nat.le_refl _)
  refine ⟨.ref s1.heap.objs.size, upd H1 s1.heap.objs.size (.lst xs), I1.laid (t' := s1.toks) (fun b u e => Heap.get?_push_of_some _ e) (Nat.le_refl _) ?_, rfl, q _ hf⟩
  exact ⟨z, us, 0, r, Heap.get?_push_size _ rfl⟩
end
abbrev Sp := List V → Hp → VK → XK → Prop
abbrev CXT := List Env → Hp → Shared → XK → Value → Shared → Prop
structure Env0 (P : Program) (w : World) (K : PySem.W.Frag) (mg : Str → Option Value) (base : Heap) (A : Around) (outer : List Env) (s : Shared) (H : Hp) : Prop where
  frames : A.frames = some outer
  mod : Mod K mg base
  bs : ∀ b o, base.get? b = some o → s.heap.get? b = some o ∧ H b = none
  bsz : base.objs.size ≤ s.heap.objs.size
  funs : s.heap.FunFrames base outer
  frf : ∀ b ∈ frs outer, H b = none
  hok : HOk P w H s.heap
  bare : AllBare s.gens
def CE (outer : List Env) (P : Program) (w : World) (H : Hp) (s : Shared) (Q : VK) (u : Value) (s' : Shared) : Prop :=
  ∃ v H', s'.os = s.os ∧ AllBare s'.gens ∧ Un (frs outer) [] H H' s.heap s'.heap ∧ HOk P w H' s'.heap ∧ RelV v u ∧ Q v H'
def CR (CX : CXT) (outer : List Env) (P : Program) (w : World) (H : Hp) (s : Shared) (Q : VK) (E : XK) (r : Result) (s' : Shared) : Prop :=
  match r with
  | .ok (.ret u) => CE outer P w H s Q u s'
  | .ok _ => False
  | .error e => CX outer H s E e s'
structure FnOk (P : Program) (w : World) (K : PySem.W.Frag) (mg : Str → Option Value) (base : Heap) (CX : CXT) (k : Nat) (f : Addr) (fd : FuncData) (ps : List Str) (sp : Sp) : Prop where
  len : ∀ vs H Q E, sp vs H Q E → vs.length = ps.length
  run : ∀ (A : Around) (outer : List Env) (s : Shared) (H : Hp) (args : Args) (us : List Value) (vs : List V) (Q : VK) (E : XK), Room k A → Env0 P w K mg base A outer s H → BindsTo s fd args (ps.zip us) → Vals vs us → sp vs H Q E →
    codeAny (model P w) A (.call (.ref f) args) (CR CX outer P w H s Q E) s
theorem FnOk.mono {P : Program} {w : World} {K : PySem.W.Frag} {mg : Str → Option Value} {base : Heap} {CX : CXT} {j k : Nat} {f : Addr} {fd : FuncData} {ps : List Str} {sp : Sp} (F : FnOk P w K mg base CX j f fd ps sp) (h : j ≤ k) :
    FnOk P w K mg base CX k f fd ps sp := ⟨F.len, fun A outer s H args us vs Q E hr => F.run A outer s H args us vs Q E (hr.mono h)⟩
section
variable {X : Cx} {pins : List (Addr × Obj)} {σ : St} {H : Hp} {s s' : Shared}
theorem Inv.env0 (I : Inv X pins σ H s) : Env0 X.prog X.w X.K X.mg X.base X.A X.stack s H :=
  ⟨I.ok.frames, I.ok.mod, I.bs, Nat.le_trans I.ok.bsz I.sz, I.stack, I.stkFree, I.hok, I.bare⟩
theorem Inv.after {Q : VK} {u : Value} (I : Inv X pins σ H s) (h : CE X.stack X.prog X.w H s Q u s') : EP X pins σ Q u s' := by
  obtain ⟨v, H', os, bare, un, hok, r, q⟩ := h
  obtain ⟨hh, g, d, t, os'⟩ := s'
  obtain rfl : os' = s.os := os
  exact ⟨v, H', I.call (h' := hh) (g' := g) (d' := d) (t' := t) (ch := []) un hok bare (fun b z => absurd z (by simp)), r, q⟩
end
def Binds (K : PySem.W.Frag) (fd : FuncData) (ps : List Str) (ds : List Value) : Prop :=
  ∀ (s : Shared) (us : List Value), K.In s.heap → (us ++ ds).length = ps.length → BindsTo s fd ⟨us, []⟩ (ps.zip (us ++ ds))
theorem Binds.all {K : PySem.W.Frag} {fd : FuncData} {ps : List Str} (h : ∀ us : List Value, us.length = ps.length → bindArgs fd ⟨us, []⟩ = pure (ps.zip us)) : Binds K fd ps [] := fun s us _ hl => by
  rw [List.append_nil] at hl ⊢
  exact .of_eq (h us hl)
section
variable {X : Cx} {CX : CXT} {k : Nat} {f C : Addr} {fd : FuncData} {ps : List Str} {sp : Sp} {dvs : List V} {ds : List Value} {E : XK} {x m : Str} {p pos apos : Pos} {e o : Expr} {es : List Expr} {ta : TE} {t : TA}
structure Mk (K : PySem.W.Frag) (C f : Addr) : Prop where
  makes : PySem.W.makesIn K C = true
  init : PySem.W.findIn K (.ref C) "__init__" = some (some (.ref f))
  fn : PySem.W.isFn K (.ref f) = true
  kp : PySem.W.keepIn K (.ref C) = true
end
section
variable {X : Cx} {CX : CXT} {k : Nat} {f C : Addr} {fd : FuncData} {ps ks : List Str} {sp : Sp} {E : XK} {x m : Str} {p pos apos kpos : Pos} {e o : Expr} {es : List Expr} {kws : List Keyword} {te ta : TE} {t tk : TA} {nm : Option Str}
structure KBinds (K : PySem.W.Frag) (fd : FuncData) (ps ks : List Str) (g : List Value → List Value → List Value) (gV : List V → List V → List V) : Prop where
  to : ∀ (s : Shared) (us ws : List Value), K.In s.heap → (g us ws).length = ps.length → BindsTo s fd ⟨us, ks.zip ws⟩ (ps.zip (g us ws))
  rel : ∀ {vs : List V} {us : List Value} {zs : List V} {ws : List Value}, Vals vs us → Vals zs ws → Vals (gV vs zs) (g us ws)
variable {g : List Value → List Value → List Value} {gV : List V → List V → List V}
end
structure FnScope (N P : List Str) (sc : Scope) : Prop where
  kind : sc.kind = .function
  co : sc.isCoroutine = false
  gen : sc.isGenerator = false
  nd : N.Nodup
  pre : N.take P.length = P
  par : ∀ x ∈ P, sc.names.lookup x = some .local ∨ sc.names.lookup x = some .cell
  nofree : ∀ y ∈ sc.names, y.2 ≠ .free
theorem bindL_out {kindOf : Str → Option NameKind} {x : Str} : ∀ {binds : List (Str × Value)} {m : Str → Option Value}, (∀ v, (x, v) ∉ binds) → bindL kindOf binds m x = m x
  | [], _, _ => rfl
  | (n, v) :: r, m, h => by
    unfold bindL
    rw [bindL_out fun w hw => h w (List.mem_cons_of_mem _ hw)]
    split
    · have : x ≠ n := by rintro rfl; exact h v List.mem_cons_self
      simp [this]
    · rfl
theorem bindC_out {kindOf : Str → Option NameKind} {x : Str} : ∀ {binds : List (Str × Value)} {m : Str → Option Value}, (∀ v, (x, v) ∉ binds) → bindC kindOf binds m x = m x
  | [], _, _ => rfl
  | (n, v) :: r, m, h => by
    unfold bindC
    rw [bindC_out fun w hw => h w (List.mem_cons_of_mem _ hw)]
    split
    · rfl
    · have : x ≠ n := by rintro rfl; exact h v List.mem_cons_self
      simp [this]
theorem bindL_get {kindOf : Str → Option NameKind} {x : Str} {v : Value} : ∀ {P : List Str} {vs : List Value} {i : Nat} {m : Str → Option Value}, P.Nodup → P[i]? = some x → vs[i]? = some v → kindOf x = some .local →
    bindL kindOf (P.zip vs) m x = some v
  | [], _, _, _, _, h, _, _ => by simp at h
  | _ :: _, [], _, _, _, _, h, _ => by simp at h
  | p :: P, w :: vs, 0, m, nd, h1, h2, hk => by
    simp at h1 h2; subst h1; subst h2
    show bindL kindOf ((p, w) :: P.zip vs) m p = _
    unfold bindL
    rw [bindL_out fun v hv => (List.nodup_cons.mp nd).1 (List.of_mem_zip hv).1, if_pos hk]
    simp
  | p :: P, w :: vs, i + 1, m, nd, h1, h2, hk => by
    show bindL kindOf ((p, w) :: P.zip vs) m x = _
    unfold bindL
    exact bindL_get (i := i) (List.nodup_cons.mp nd).2 (by simpa using h1) (by simpa using h2) hk
theorem bindC_get {kindOf : Str → Option NameKind} {x : Str} {v : Value} : ∀ {P : List Str} {vs : List Value} {i : Nat} {m : Str → Option Value}, P.Nodup → P[i]? = some x → vs[i]? = some v → kindOf x ≠ some .local →
    bindC kindOf (P.zip vs) m x = some v
  | [], _, _, _, _, h, _, _ => by simp at h
  | _ :: _, [], _, _, _, _, h, _ => by simp at h
  | p :: P, w :: vs, 0, m, nd, h1, h2, hk => by
    simp at h1 h2; subst h1; subst h2
    show bindC kindOf ((p, w) :: P.zip vs) m p = _
    unfold bindC
    rw [bindC_out fun v hv => (List.nodup_cons.mp nd).1 (List.of_mem_zip hv).1, if_neg hk]
    simp
  | p :: P, w :: vs, i + 1, m, nd, h1, h2, hk => by
    show bindC kindOf ((p, w) :: P.zip vs) m x = _
    unfold bindC
    exact bindC_get (i := i) (List.nodup_cons.mp nd).2 (by simpa using h1) (by simpa using h2) hk
def start (N : List Str) (vs : List V) : St := vs.map some ++ List.replicate (N.length - vs.length) none
def cxOf (CX : CXT) (P : Program) (w : World) (K : PySem.W.Frag) (mg : Str → Option Value) (base : Heap) (N : List Str) (qual : Str) (scope : Scope) (f : Addr) (cd : Value) (A : Around) (outer : List Env) (s : Shared) (H : Hp) (E : XK) : Cx where
  prog := P
  w := w
  K := K
  mg := mg
  base := base
  A := A.deeper (envOfC qual scope s.heap.objs.size f cd)
  N := N
  s₀ := s
  H₀ := H
  env := envOfC qual scope s.heap.objs.size f cd
  outer := outer
  stack := envOfC qual scope s.heap.objs.size f cd :: outer
  ex := []
  calm := true
  fn := fun _ => true
  pn := []
  xe := fun e s' => wpAny (model P w) (A.deeper (envOfC qual scope s.heap.objs.size f cd)) (leaving (envOfC qual scope s.heap.objs.size f cd) e) (fun _ s'' => CX outer H s E e s'') (fun e' s'' => CX outer H s E e' s'') s'
theorem cell_has {sc : Scope} {n : Nat} {x : Str} (h : sc.names.lookup x = some .cell) : ∃ c, (cellsFrom n sc.names []).lookup x = some c := by
  have q := PySem.W.cellsFrom_some sc.names n [] (.inl h)
  exact Option.isSome_iff_exists.mp q
theorem inv_start {CX : CXT} {P : Program} {w : World} {K : PySem.W.Frag} {mg : Str → Option Value} {base : Heap} {N ps : List Str} {qual : Str} {scope : Scope} {f : Addr} {cd : Value} {A : Around} {outer : List Env} {s s1 : Shared} {H : Hp} {E : XK} {us : List Value} {vs : List V}
    (S : FnScope N ps scope) (hd : A.handled = none) (e0 : Env0 P w K mg base A outer s H) (hl : vs.length = ps.length) (r : Vals vs us)
    (x : InCallC s s.heap.objs.size (bindL (envOfC qual scope s.heap.objs.size f cd).kindOf (ps.zip us) fun _ => none) (cellsFrom (s.heap.objs.size + 1) scope.names []) (bindC (envOfC qual scope s.heap.objs.size f cd).kindOf (ps.zip us) fun _ => none) s1) :
    Inv (cxOf CX P w K mg base N qual scope f cd A outer s H E) [] (start N vs) H s1 := by
  have hpl : ps.length ≤ N.length := by have := congrArg List.length S.pre; rw [List.length_take] at this; omega
  obtain ⟨h1, tk, rfl, hk⟩ := x.done
  have noA : ∀ b : Addr, b ∉ (cxOf CX P w K mg base N qual scope f cd A outer s H E).ex := fun b z => absurd (show b ∈ ([] : List Addr) from z) (by simp)
  refine ⟨⟨e0.mod, S.kind, rfl, rfl, Nat.le_refl _, fun y z c h1 h2 => ?_, fun y hy => ?_, fun y c _ h => ?_, fun _ => hd, Around.frames_deeper e0.frames, .inr ⟨rfl, rfl⟩, fun b z => absurd z (noA b), e0.bs, e0.bsz, fun b _ _ => noA b, fun b z => absurd z (noA b), e0.funs, e0.frf⟩,
    rfl, e0.bare, Un.kept hk, ⟨_, x.toInCall.ns, fun i y v h1 h2 h3 => ?_⟩, fun y c h => ⟨_, x.cell y c h⟩, e0.hok.fresh (Nat.le_refl _), fun y c h => ?_, fun p hp => absurd (show p ∈ ([] : List (Addr × Obj)) from hp) (by simp), e0.hok.kept hk, ?_⟩
  · exact name_of_addr x.apart (PySem.mem_of_lookup h1) (PySem.mem_of_lookup h2)
  · have hy : scope.names.lookup y = some .cell ∨ scope.names.lookup y = some .free := hy
    rcases hy with hy | hy
    · exact cell_has hy
    · exact absurd rfl (S.nofree _ (PySem.mem_of_lookup hy))
  · exact Nat.le_of_lt (x.above y c (PySem.mem_of_lookup h))
  · have hi : i < vs.length := by
      unfold start at h2
      by_cases hi : i < vs.length
      · exact hi
      · rw [List.getElem?_append_right (by simpa using hi)] at h2
        rw [List.getElem?_replicate] at h2
        split at h2 <;> cases h2
    have ha : vs[i]? = some v := by
      unfold start at h2
      rw [List.getElem?_append_left (by simpa using hi), List.getElem?_map] at h2
      cases e : vs[i]? with
      | none => rw [e] at h2; cases h2
      | some a => rw [e] at h2; cases h2; rfl
    obtain ⟨u, hu, rv⟩ := r.get ha
    have hp : ps[i]? = some y := by
      rw [← S.pre, List.getElem?_take_of_lt (by omega)]; exact h1
    have ndP : ps.Nodup := by rw [← S.pre]; exact S.nd.sublist (List.take_sublist _ _)
    refine ⟨u, rv, ?_⟩
    rcases S.par y (List.mem_of_getElem? hp) with k | k
    · exact .inl ⟨k, bindL_get ndP hp hu k⟩
    · obtain ⟨c, e⟩ := cell_has (n := s.heap.objs.size + 1) k
      refine .inr ⟨.inl k, c, e, ?_⟩
      have q := x.cell y c e
      rw [bindC_get ndP hp hu (by show scope.names.lookup y ≠ _; rw [k]; decide)] at q
      exact q
  · exact e0.hok.fresh (Nat.le_of_lt (x.above y c (PySem.mem_of_lookup h)))
  · unfold start
    show _ = N.length
    rw [List.length_append, List.length_map, List.length_replicate]
    omega
theorem fn_of {CX : CXT} {P : Program} {w : World} {K : PySem.W.Frag} {mg : Str → Option Value} {base : Heap} {k : Nat} {f : Addr} {name qual : Str} {params : Arguments} {body : List Stmt} {scope : Scope} {dV kV doc pm cdv ct oc : Value} {an od : Option Addr}
    {osl : Array (Option Value)} {N ps : List Str} {sp : Sp} (lk : K.lookup f = some ⟨oc, od, .func (PySem.W.fnOf name qual params body scope dV kV doc pm an cdv ct), osl⟩) (hcd : PySem.W.codeIn K cdv qual = true) (S : FnScope N ps scope)
    (len : ∀ vs H Q E, sp vs H Q E → vs.length = ps.length)
    (hbody : ∀ (A : Around) (outer : List Env) (s : Shared) (H : Hp) (vs : List V) (Q : VK) (E : XK), Room k (A.deeper (envOfC qual scope s.heap.objs.size f cdv)) → sp vs H Q E →
      ∃ t, PSs (cxOf CX P w K mg base N qual scope f cdv A outer s H E) body t ∧ t { nx := fun _ H' => Q .non H', rt := Q } (start N vs) H) :
    FnOk P w K mg base CX (k + 1) f (PySem.W.fnOf name qual params body scope dV kV doc pm an cdv ct) ps sp := by
  refine ⟨len, fun A outer s H args us vs Q E hr e0 hb r hsp => ?_⟩
  have hl := len _ _ _ _ hsp
  have KX : K.In s.heap := e0.mod.kin.keeps fun b o e => (e0.bs b o e).1
  have lim : s.heap.NoLimit := e0.mod.nolimit.keeps fun b o e => (e0.bs b o e).1
  have hkind : ∀ y ∈ ps.zip us, scope.names.lookup y.1 = some .local ∨ (scope.names.lookup y.1 = some .cell ∧ ((cellsFrom (s.heap.objs.size + 1) scope.names []).lookup y.1).isSome = true) := fun ⟨n, v⟩ hy => by
    rcases S.par n (List.of_mem_zip hy).1 with q | q
    · exact .inl q
    · exact .inr ⟨q, PySem.W.cellsFrom_some _ _ _ (.inl q)⟩
  refine codeAny_call_function hr.depth (KX _ _ lk) rfl S.co S.gen rfl (PySem.W.codeRec_of KX hcd) (hb _ _ _ _ ?_)
  refine wpAny_newFunctionEnv_cells S.kind hkind fun env he s1 x => ?_
  subst he
  refine ⟨lim.keeps x.toInCall.keep, codeAny_func ?_⟩
  obtain ⟨t, ht, hq⟩ := hbody A outer s H vs Q E (hr.deeper _) hsp
  have I : Inv (cxOf CX P w K mg base N qual scope f cdv A outer s H E) [] (start N vs) H s1 := inv_start S hr.hd e0 hl r x
  refine wpAny_mono (ht [] s1 (start N vs) H _ I hq) (fun fl s' hs => ?_) fun e s' hs => hs
  have fin : ∀ {σ' : St} {H' : Hp} {v : V} {u : Value}, Inv (cxOf CX P w K mg base N qual scope f cdv A outer s H E) [] σ' H' s' → RelV v u → Q v H' → CE outer P w H s Q u s' :=
    fun {σ' H' v u} J rv q => ⟨v, H', J.os, J.bare, J.base, J.hok, rv, q⟩
  cases fl with
  | ret u =>
    obtain ⟨v, σ', H', J, rv, q⟩ := hs
    exact fin J rv q
  | next =>
    obtain ⟨σ', H', J, q⟩ := hs
    exact fin (v := V.non) (u := Value.none) J rfl q
  | brk =>
    obtain ⟨_, _, _, q⟩ := hs
    exact False.elim q
  | cont =>
    obtain ⟨_, _, _, q⟩ := hs
    exact False.elim q
end L2
namespace L2
open PySem PySem.Spec PyProof.Rows
section
variable {X : Cx} {x : Str} {p pos : Pos} {e : Expr} {es : List Expr} {t : TA} {id T : String} {r : List V → Hp → VK → Prop}
def tCB (r : List V → Hp → VK → Prop) (t : TA) : TE := fun σ H Q => t σ H fun vs H1 => r vs H1 Q
theorem pe_callB (hc : CallR X (.builtin id) r) (hg : Gl X x) (hm : X.mg x = none) (hv : bootBuiltins x = some (.builtin id)) (ha : PA X (e :: es) t) (hn : x ≠ "__name__" := by decide) (hdb : (x == ("__debug__" : Str)) = false := by decide)
    (he : starEach (e :: es) X.env = (false, eval e X.env) :: starEach es X.env := by rfl) (hpl : (backTo pos (starEach es X.env)).any (·.1) = false := by rfl) : PE X (.Call (.Name x p) (e :: es) [] pos) (tCB r t) := by
  intro pins s σ H Q I h
  refine wpAny_Call_Name_kw (ld_blt I hg hm hv ?_ hn hdb)
  exact PyProof.Rows.callWith_builtin1 (thn (ha pos pins s σ H _ I h) fun us s1 ⟨vs, H1, I1, r1, q1⟩ => hc pins s1 σ H1 vs us Q I1 r1 q1) he hpl
theorem pe_callTy (hc : CallR X (.type T) r) (hg : Gl X x) (hm : X.mg x = none) (hv : bootBuiltins x = some (.type T)) (ha : PA X (e :: es) t) (hn : x ≠ "__name__" := by decide) (hdb : (x == ("__debug__" : Str)) = false := by decide)
    (he : starEach (e :: es) X.env = (false, eval e X.env) :: starEach es X.env := by rfl) (hpl : (backTo pos (starEach es X.env)).any (·.1) = false := by rfl) : PE X (.Call (.Name x p) (e :: es) [] pos) (tCB r t) := by
  intro pins s σ H Q I h
  refine wpAny_Call_Name_kw (ld_blt I hg hm hv ?_ hn hdb)
  exact PyProof.Rows.callWith_type1 (thn (ha pos pins s σ H _ I h) fun us s1 ⟨vs, H1, I1, r1, q1⟩ => hc pins s1 σ H1 vs us Q I1 r1 q1) he hpl
end
end L2
namespace HT
open PySem PyProof.Rows
def lexLt : List Int → List Int → Bool
  | [], [] => false
  | [], _ :: _ => true
  | _ :: _, [] => false
  | x :: xs, y :: ys => if x = y then lexLt xs ys else decide (x < y)
theorem lexLt_cons (x y : Int) (xs ys : List Int) : lexLt (x :: xs) (y :: ys) = if x = y then lexLt xs ys else decide (x < y) := rfl
theorem lexLt_nil_nil : lexLt [] [] = false := rfl
theorem lexLt_nil_cons (y : Int) (ys : List Int) : lexLt [] (y :: ys) = true := rfl
theorem lexLt_cons_nil (x : Int) (xs : List Int) : lexLt (x :: xs) [] = false := rfl
theorem eqAt_int (A : Around) (s : Shared) (a : Int) (t : Tok) (c : Int) (u : Tok) : ∃ e, SeqAt.EqAt A s (.int a t) (.int c u) e ∧ (e = true ↔ a = c) :=
  ⟨(a == c), SeqAt.EqAt.int_int a t c u, by simp⟩
theorem rcLt_int (A : Around) (s : Shared) (a : Int) (t : Tok) (c : Int) (u : Tok) (prog : Program) (w : World) (E : Value → Shared → Prop) (Q : Value → Shared → Prop) (h : Q (.bool (decide (a < c))) s) :
    wpAny (model prog w) A (richCompare .Lt (.int a t) (.int c u)) Q E s :=
  (PyProof.Rows.lt_int h : wpAny (model prog w) A (compareOp .Lt (.int a t) (.int c u)) Q E s)
section
open PySem.SeqAt
open PySem.AutoSeq1 (wpAny_loadPart')
open PySem.MeetsSeq PySem.MeetsSeq2 PySem.MeetsSeq3
theorem tuple_lt_ints (l b : Addr) (items items2 : Array Value) (n n2 : Nat) (dd dd2 : Option Addr) (sl sl2 : Array (Option Value)) (ns ms : List Int) (hi : IntsAre items.toList ns) (hj : IntsAre items2.toList ms) :
    Meets (Builtin.«tuple.__lt__» ⟨[.ref l, .ref b], []⟩)
      (fun _ R s => s.heap.get? l = some { cls := .type "tuple", dict := dd, data := .seq items n, slots := sl } ∧ s.heap.get? b = some { cls := .type "tuple", dict := dd2, data := .seq items2 n2, slots := sl2 } ∧
        R (.ok (.ret (.bool (lexLt ns ms)))) s) :=
  .of_wp fun prog w A R s h => by
    obtain ⟨hp, g, d, tk, os⟩ := s; obtain ⟨hl, hb, h⟩ := h
    have f2 := AutoSeq1.sub_tuple_tuple
    have z1 : items.size = ns.length := by rw [← hi.length]; simp
    have z2 : items2.size = ms.length := by rw [← hj.length]; simp
    wp_walk using wpAny_loadPart' hl, wpAny_loadPart' hb, wpAny_forIn_list _ (fun rest b s' => b.1 = none ∧ s' = ⟨hp, g, d, tk, os⟩ ∧ ∃ (vs ws : List Value) (ns' ms' : List Int), rest = vs.zip ws ∧
      IntsAre vs ns' ∧ IntsAre ws ms' ∧ ns'.length + items2.size = ms'.length + items.size ∧ R (.ok (.ret (.bool (lexLt ns' ms')))) ⟨hp, g, d, tk, os⟩) _
    case turn =>
      rintro ⟨y, x⟩ rest b s' ⟨hb', rfl, vs, ws, ns', ms', hz, hvi, hwi, hlen, hR⟩
      cases hvi with
      | nil => rw [List.zip_nil_left] at hz; cases hz
      | cons a t hvi' =>
        cases hwi with
        | nil => rw [List.zip_nil_right] at hz; cases hz
        | cons c u hwi' =>
          rw [List.zip_cons_cons] at hz
          injection hz with hyx hrest
          injection hyx with hy hx
          subst hy hx
          rw [lexLt_cons] at hR
          simp only [List.length_cons] at hlen
          obtain ⟨e, he, hiff⟩ := eqAt_int A.in1 ⟨hp, g, d, tk, os⟩ a t c u
          refine wpAny_bind (he prog w _ _ ?_)
          cases e with
          | true =>
            rw [if_pos (hiff.mp rfl)] at hR
            wp_walk
            exact ⟨rfl, rfl, _, _, _, _, hrest, hvi', hwi', by omega, hR⟩
          | false =>
            rw [if_neg (fun q => absurd (hiff.mpr q) Bool.false_ne_true)] at hR
            have hri := rcLt_int A.in1 ⟨hp, g, d, tk, os⟩ a t c u prog w
            wp_walk using hri
            exact ⟨_, rfl, by simpa using hR⟩
    case fin =>
      rintro ⟨b1, b2⟩ s' ⟨hb', rfl, vs, ws, ns', ms', hz, hvi, hwi, hlen, hR⟩
      simp only at hb'
      subst hb'
      have hv : lexLt ns' ms' = decide (items.size < items2.size) := by
        cases hvi with
        | nil =>
          cases hwi with
          | nil =>
            simp only [List.length_nil] at hlen
            rw [lexLt_nil_nil]
            exact (decide_eq_false (by omega)).symm
          | cons c u hw =>
            simp only [List.length_nil, List.length_cons] at hlen
            rw [lexLt_nil_cons]
            exact (decide_eq_true (by omega)).symm
        | cons a t hv =>
          cases hwi with
          | nil =>
            simp only [List.length_nil, List.length_cons] at hlen
            rw [lexLt_cons_nil]
            exact (decide_eq_false (by omega)).symm
          | cons c u hw =>
            rw [List.zip_cons_cons] at hz
            cases hz
      rw [hv] at hR
      wp_walk
      exact ⟨_, rfl, by simpa [Builtin.Tuple.tupleCompareSizes] using hR⟩
    case h =>
      exact ⟨rfl, rfl, items.toList, items2.toList, ns, ms, rfl, hi, hj, by omega, h⟩
end
section
variable {prog : Program} {w : World} {A : Around} {E : Value → Shared → Prop} {s : Shared}
theorem lt_tupInts {l b : Addr} {items items2 : Array Value} {ns ms : List Int} {Q : Value → Shared → Prop} (hl : IsTup s.heap l items) (hb : IsTup s.heap b items2) (hi : IntsAre items.toList ns) (hj : IntsAre items2.toList ms)
    (hu : A.units < cLine) (h : Q (.bool (lexLt ns ms)) s) : wpAny (model prog w) A (compareOp .Lt (.ref l) (.ref b)) Q E s := by
  obtain ⟨⟨cls, dd, data, sl⟩, ho, hc, n, hd⟩ := id hl
  obtain ⟨⟨cls2, dd2, data2, sl2⟩, ho2, hc2, n2, hd2⟩ := id hb
  simp only at hc hd hc2 hd2
  subst hc hd hc2 hd2
  exact richCompare_meets_room (op := .Lt) ⟨_, ho, rfl⟩ ⟨_, ho2, rfl⟩ PySem.F.slot_tuple_lt PySem.F.entry_tuple_lt (PySem.F.args_tuple_lt_2 _ _) (tuple_lt_ints l b items items2 n n2 dd dd2 sl sl2 ns ms hi hj)
    ⟨ho, ho2, show Value.bool (lexLt ns ms) ≠ Value.notImplemented ∧ Q (.bool (lexLt ns ms)) s from ⟨(fun x => nomatch x), h⟩⟩ hu
theorem cat_tup {t b : Addr} {vs ws : List Value} {Q : Value → Shared → Prop} (ht : IsTup s.heap t vs.toArray) (hb : IsTup s.heap b ws.toArray) (hv : vs ≠ [])
    (h1 : ws = [] → Q (.ref t) s) (h2 : ws ≠ [] → Q (.ref s.heap.objs.size) { s with heap := s.heap.push { cls := .type "tuple", data := .seq (vs ++ ws).toArray } })
    (hsz : vs.length + ws.length ≤ sizeLine) : wpAny (model prog w) A (binaryOp .Add (.ref t) (.ref b)) Q E s := by
  obtain ⟨⟨cls, dd, data, sl⟩, ho, hc, n, hd⟩ := id ht
  obtain ⟨⟨cls2, dd2, data2, sl2⟩, ho2, hc2, n2, hd2⟩ := id hb
  simp only at hc hd hc2 hd2
  subst hc hd hc2 hd2
  have e : vs.toArray ++ ws.toArray = (vs ++ ws).toArray := by simp
  by_cases hw : ws = []
  · exact concat_meets ⟨_, ho, rfl⟩ ⟨_, ho2, rfl⟩ noFill_tuple_add seq_tuple_add PySem.F.slot_tuple_add PySem.F.entry_tuple_add (PySem.F.args_tuple_add_2 _ _)
      (tuple_addW1 t b vs.toArray ws.toArray n n2 dd dd2 sl sl2 (by simpa using hv) (by simp [hw])) ⟨ho, ho2, h1 hw⟩
  · refine concat_meets ⟨_, ho, rfl⟩ ⟨_, ho2, rfl⟩ noFill_tuple_add seq_tuple_add PySem.F.slot_tuple_add PySem.F.entry_tuple_add (PySem.F.args_tuple_add_2 _ _)
      (tuple_addW2 t b vs.toArray ws.toArray n n2 dd dd2 sl sl2 (by simpa using hv) (by simpa using hw) (by rw [List.size_toArray, List.size_toArray]; exact hsz)) ⟨ho, ho2, ?_⟩
    rw [e]
    exact h2 hw
def sIx (n d : Nat) : Option Int → Nat
  | none => d
  | some v => if v < 0 then (v + (n : Int)).toNat else min v.toNat n
theorem sIx_le (n d : Nat) (hd : d ≤ n) (o : Option Int) : sIx n d o ≤ n := by
  cases o with
  | none => exact hd
  | some v =>
    show (if v < 0 then (v + (n : Int)).toNat else min v.toNat n) ≤ n
    by_cases hv : v < 0
    · rw [if_pos hv]; omega
    · rw [if_neg hv]; exact Nat.min_le_right _ _
theorem clip_eq (v : Int) (n d : Nat) : (if v < 0 then max (v + (n : Int)) 0 else min v (n : Int)) = ((sIx n d (some v) : Nat) : Int) := by
  show (if v < 0 then max (v + (n : Int)) 0 else min v (n : Int)) = (((if v < 0 then (v + (n : Int)).toNat else min v.toNat n) : Nat) : Int)
  by_cases hv : v < 0
  · simp only [if_pos hv]; omega
  · simp only [if_neg hv]; omega
theorem adjust_gen (lo hi : Option Int) (n : Nat) : Builtin.Slice.sliceAdjust lo hi 1 (n : Int) = (((sIx n 0 lo : Nat) : Int), ((sIx n n hi : Nat) : Int)) := by
  have h1 : ¬ ((1 : Int) < 0) := by omega
  unfold Builtin.Slice.sliceAdjust
  simp only [h1, if_false]
  refine Prod.ext ?_ ?_
  · cases lo with
    | none => rfl
    | some v => exact clip_eq v n 0
  · cases hi with
    | none => rfl
    | some v => exact clip_eq v n n
theorem places_gen (i j : Nat) : Builtin.Slice.slicePlaces (i : Int) (j : Int) 1 = j - i := by
  unfold Builtin.Slice.slicePlaces
  have h1 : (1 : Int) > 0 := by omega
  simp only [h1, if_true, Int.ediv_one]
  split <;> omega
theorem slicePart_ {v : Value} {o : Option Int} {Q : Option Int → Shared → Prop} (p : IsPart v o) (h : Q o s) : wpAny (model prog w) A (Builtin.Slice.slicePartIndex v) Q E s := by
  cases p with
  | none => exact slicePart_none h
  | int i t => exact slicePart_int h
theorem sliceApplied_gen {sl : Addr} {vl vu : Value} {lo hi : Option Int} {n : Nat} {Q : Int × Int × Nat → Shared → Prop} (hs : s.heap.IsSliceOf sl vl vu .none) (pl : IsPart vl lo) (pu : IsPart vu hi)
    (h : Q (((sIx n 0 lo : Nat) : Int), 1, sIx n n hi - sIx n 0 lo) s) : wpAny (model prog w) A (Builtin.Slice.sliceApplied (.ref sl) (pure (n : Int))) Q E s := by
  obtain ⟨os, hos, hcs, hds⟩ := id hs
  unfold Builtin.Slice.sliceApplied Builtin.Slice.sliceFields
  refine wpAny_bind (wpAny_bind (wpAny_field hos hds (x := vl) rfl (wpAny_bind (wpAny_field hos hds (x := vu) rfl (wpAny_bind (wpAny_field hos hds (x := .none) rfl (wpAny_pure ?_)))))))
  refine wpAny_bind (slicePart_none ?_)
  show wpAny _ _ (if ((1 : Int) == 0) = true then _ else _) _ _ s
  rw [if_neg (by decide)]
  refine wpAny_bind (slicePart_ pl (wpAny_bind (slicePart_ pu (wpAny_bind (wpAny_pure ?_)))))
  show wpAny _ _ (match Builtin.Slice.sliceAdjust lo hi 1 (n : Int) with | (lo, hi) => pure (lo, (1 : Int), Builtin.Slice.slicePlaces lo hi 1)) _ _ s
  rw [adjust_gen lo hi n]
  show wpAny _ _ (pure (((sIx n 0 lo : Nat) : Int), (1 : Int), Builtin.Slice.slicePlaces ((sIx n 0 lo : Nat) : Int) ((sIx n n hi : Nat) : Int) 1)) _ _ s
  rw [places_gen]
  exact wpAny_pure h
theorem pick_gen (xs : Array Value) (i k : Nat) : ((List.range k).filterMap fun (m : Nat) => xs[((i : Int) + (m : Int) * 1).toNat]?).toArray = ((xs.toList.drop i).take k).toArray := by
  have e : (fun (m : Nat) => xs[((i : Int) + (m : Int) * 1).toNat]?) = fun m => xs[i + m]? := by
    funext m
    have : ((i : Int) + (m : Int) * 1).toNat = i + m := by omega
    rw [this]
  rw [e]
  have := pick_run xs i k
  rw [List.filterMap_map] at this
  have e2 : ((fun x => xs[x]?) ∘ fun x => i + x) = fun m => xs[i + m]? := rfl
  rw [e2] at this
  rw [this]
theorem getItem_tuple_cut {t sl : Addr} {items : Array Value} {vl vu : Value} {lo hi : Option Int} {Q : Value → Shared → Prop} (ht : IsTup s.heap t items) (hs : s.heap.IsSliceOf sl vl vu .none) (pl : IsPart vl lo) (pu : IsPart vu hi)
    (hw : ¬ (sIx items.size 0 lo = 0 ∧ sIx items.size items.size hi = items.size))
    (h : Q (.ref s.heap.objs.size) { s with heap := s.heap.push { cls := .type "tuple", data := .seq ((items.toList.drop (sIx items.size 0 lo)).take (sIx items.size items.size hi - sIx items.size 0 lo)).toArray } })
    (hsz : items.size ≤ sizeLine) : wpAny (model prog w) A (getItem (.ref t) (.ref sl)) Q E s := by
  have htake : sizeOk (.seq ((items.toList.drop (sIx items.size 0 lo)).take (sIx items.size items.size hi - sIx items.size 0 lo)).toArray) := by
    show ((items.toList.drop (sIx items.size 0 lo)).take (sIx items.size items.size hi - sIx items.size 0 lo)).toArray.size ≤ sizeLine
    rw [List.size_toArray, List.length_take, List.length_drop, Array.length_toList]
    omega
  have hj : sIx items.size items.size hi ≤ items.size := sIx_le _ _ (Nat.le_refl _) hi
  obtain ⟨os, hos, hcs, hds⟩ := id hs
  have hTs : s.TypeIs (.ref sl) "slice" := ⟨os, hos, hcs⟩
  unfold getItem
  try with_reducible refine wpAny_holding ?_
  first | refine wpAny_bind (wpAny_pure ?_) | skip
  refine wpAny_bind (wpAny_sequenceKey ht.typeIs (by decide) ?_)
  refine wpAny_bind (wpAny_callSpecial?_slot (name := Str.ofString "__getitem__") ht.typeIs PyProof.Rows.slot_tuple_getitem
    (wpAny_call_entry PyProof.Rows.slot_tuple_getitem ht.typeIs entry_tuple_getitem ?_ (args_tuple_getitem _ _)))
  show wpAny _ _ (Builtin.Tuple.tupleItemsOf (.ref t) >>= _) _ _ s
  refine wpAny_bind (tupleItemsOf_ ht ?_)
  refine wpAny_bind (wpAny_typeOf hTs ?_)
  rw [if_pos (by decide)]
  refine wpAny_bind (sliceApplied_gen hs pl pu ?_)
  have hno : ¬ ((((sIx items.size 0 lo : Nat) : Int) == 0 && (1 : Int) == 1 && (sIx items.size items.size hi - sIx items.size 0 lo) == items.size) = true) := by
    intro q
    rw [Bool.and_eq_true, Bool.and_eq_true] at q
    have q1 : ((sIx items.size 0 lo : Nat) : Int) = 0 := eq_of_beq q.1.1
    have q2 : sIx items.size items.size hi - sIx items.size 0 lo = items.size := eq_of_beq q.2
    exact hw ⟨by omega, by omega⟩
  show wpAny _ _ (if (((sIx items.size 0 lo : Nat) : Int) == 0 && (1 : Int) == 1 && (sIx items.size items.size hi - sIx items.size 0 lo) == items.size) = true then _ else _) _ _ s
  rw [if_neg hno, pick_gen]
  first
    | exact wpAny_bind (m := Builtin.Tuple.tupleExact _) (wpAny_newObj_type (wpAny_pure ⟨_, rfl, wpAny_pure h⟩) htake)
    | exact wpAny_bind (m := Builtin.Tuple.tupleExact _) (wpAny_newObj_type (wpAny_bind (wpAny_pure (wpAny_pure ⟨_, rfl, wpAny_pure h⟩))) htake)
    | exact wpAny_bind (wpAny_bind (m := Builtin.Tuple.tupleExact _) (wpAny_newObj_type (wpAny_pure (wpAny_pure ⟨_, rfl, wpAny_pure h⟩)) htake))
    | exact wpAny_bind (wpAny_bind (m := Builtin.Tuple.tupleExact _) (wpAny_newObj_type (wpAny_pure ⟨_, rfl, wpAny_pure h⟩) htake))
end
end HT
namespace L2
open PySem PySem.Spec PyProof.Rows
abbrev TO := St → Hp → (Option Int → Hp → Prop) → Prop
def PO (X : Cx) (e : Option Expr) (t : TO) : Prop :=
  ∀ (pins : List (Addr × Obj)) (s : Shared) (σ : St) (H : Hp) (Q : Option Int → Hp → Prop), Inv X pins σ H s → t σ H Q →
    wpAny (model X.prog X.w) X.A (evalPart e X.env) (fun u s' => ∃ o H', Inv X pins σ H' s' ∧ IsPart u o ∧ Q o H') X.xe s
def tNoPart : TO := fun _ H Q => Q none H
def tPart (t : TE) : TO := fun σ H Q => t σ H fun x H1 => ∃ i, x = .int i ∧ Q (some i) H1
theorem intsAre_of {ns : List Int} : ∀ {us : List Value}, Vals (ns.map V.int) us → IntsAre us ns := by
  induction ns with
  | nil => intro us r; rw [List.map_nil] at r; cases r; exact .nil
  | cons n ns ih =>
    intro us r
    rw [List.map_cons] at r
    cases r with
    | cons r1 r2 =>
      obtain ⟨t, e⟩ := r1
      subst e
      exact .cons n t (ih r2)
section
variable {X : Cx} {e : Expr} {te : TE} {lo hi : Option Expr} {tl th : TO} {pos p2 : Pos}
theorem po_none : PO X none tNoPart := by
  intro pins s σ H Q I h
  rw [evalPart_none]
  exact wpAny_pure ⟨none, H, I, .none, h⟩
theorem po_some (h : PE X e te) : PO X (some e) (tPart te) := by
  intro pins s σ H Q I hw
  rw [evalPart_some]
  refine thn (h pins s σ H _ I hw) fun u s1 ⟨x, H1, I1, r1, q1⟩ => ?_
  obtain ⟨i, rfl, q⟩ := q1
  obtain ⟨t, rfl⟩ := r1
  exact ⟨some i, H1, I1, .int i t, q⟩
def SlR (X : Cx) (r : V → Option Int → Option Int → Hp → VK → Prop) : Prop :=
  ∀ (pins : List (Addr × Obj)) (s : Shared) (σ : St) (H : Hp) (x : V) (v vl vu : Value) (lo hi : Option Int) (sl : Addr) (Q : VK), Inv X pins σ H s → RelV x v → s.heap.IsSliceOf sl vl vu .none → IsPart vl lo → IsPart vu hi → r x lo hi H Q →
    ∃ T id, typeLookup (.type T) "__getitem__" = pure (some (.builtin id)) ∧ s.TypeIs v T ∧ wpAny (model X.prog X.w) X.A (getItem v (.ref sl)) (EP X pins σ Q) X.xe s
theorem SlR.or {r r' : V → Option Int → Option Int → Hp → VK → Prop} (h : SlR X r) (h' : SlR X r') : SlR X (fun x lo hi H Q => r x lo hi H Q ∨ r' x lo hi H Q) := by
  intro pins s σ H x v vl vu lo hi sl Q I rx hs pl pu q
  rcases q with q | q
  · exact h pins s σ H x v vl vu lo hi sl Q I rx hs pl pu q
  · exact h' pins s σ H x v vl vu lo hi sl Q I rx hs pl pu q
def tSl (r : V → Option Int → Option Int → Hp → VK → Prop) (te : TE) (tl th : TO) : TE := fun σ H Q => te σ H fun x H1 => tl σ H1 fun l H2 => th σ H2 fun u H3 => r x l u H3 Q
theorem pe_slice {r : V → Option Int → Option Int → Hp → VK → Prop} (hr : SlR X r) (he : PE X e te) (hl : PO X lo tl) (hu : PO X hi th) : PE X (.Subscript e (.Slice lo hi none p2) pos) (tSl r te tl th) := by
  intro pins s σ H Q I h
  refine Subscript_ (thn (he pins s σ H _ I h) fun v s1 ⟨x, H1, I1, r1, q1⟩ => ?_)
  refine wpAny_Slice (thn (hl pins s1 σ H1 _ I1 q1) fun vl s2 ⟨l, H2, I2, pl, q2⟩ => thn (hu pins s2 σ H2 _ I2 q2) fun vu s3 ⟨u, H3, I3, pu, q3⟩ => ?_)
  rw [evalPart_none]
  refine wpAny_pure ?_
  have I4 : Inv X pins σ H3 { s3 with heap := s3.heap.push { cls := .type "slice", data := .fields #[vl, vu, .none] } } := I3.kept (t' := s3.toks) fun b ob q => Heap.get?_push_of_some _ q
  obtain ⟨T, id, hT, ht, hg⟩ := hr pins { s3 with heap := s3.heap.push { cls := .type "slice", data := .fields #[vl, vu, .none] } } σ H3 x v vl vu l u s3.heap.objs.size Q I4 r1 (Heap.IsSliceOf.new ..) pl pu q3
  show wpAny (model X.prog X.w) X.A (subscriptTail e (.Slice lo hi none p2) v (.ref s3.heap.objs.size)) (EP X pins σ Q) X.xe { s3 with heap := s3.heap.push { cls := .type "slice", data := .fields #[vl, vu, .none] } }
  exact tail_any (ops := [.ref s3.heap.objs.size, v]) ht hT hg (by with_unfolding_all rfl)
def cutV (xs : List V) (lo hi : Option Int) : List V := (xs.drop (HT.sIx xs.length 0 lo)).take (HT.sIx xs.length xs.length hi - HT.sIx xs.length 0 lo)
theorem cutV_length (xs : List V) (lo hi : Option Int) : (cutV xs lo hi).length ≤ xs.length := by
  unfold cutV
  rw [List.length_take, List.length_drop]
  omega
def rSlT (K : PySem.W.Frag) : V → Option Int → Option Int → Hp → VK → Prop := fun x lo hi H Q => ∃ a xs, x = .ref a ∧ SqT K H a xs ∧
  ¬ (HT.sIx xs.length 0 lo = 0 ∧ HT.sIx xs.length xs.length hi = xs.length) ∧ ∀ p, H p = none → Q (.ref p) (upd H p (.tup (cutV xs lo hi)))
theorem sl_tup : SlR X (rSlT X.K) := by
  intro pins s σ H x v vl vu lo hi sl Q I rx hs pl pu h
  obtain ⟨a, xs, rfl, hx, hw, q⟩ := h
  cases rx
  obtain ⟨its, r, ht, hz⟩ := I.tuple hx
  have hlen : its.toArray.size = xs.length := by rw [List.size_toArray]; exact r.length.symm
  refine ⟨"tuple", _, PyProof.Rows.slot_tuple_getitem.lookup, ht.typeIs, ?_⟩
  refine HT.getItem_tuple_cut ht hs pl pu (by rw [hlen]; exact hw) ?_ (by rw [hlen]; exact hz)
  rw [hlen]
  refine ⟨.ref s.heap.objs.size, _, I.laid (t' := s.toks) (o := .tup (cutV xs lo hi)) (fun b ob q => Heap.get?_push_of_some _ q) (Nat.le_refl _) ?_, rfl, q _ (I.hok.fresh (Nat.le_refl _))⟩
  exact ⟨Nat.le_trans (cutV_length xs lo hi) hz, _, (r.drop (HT.sIx xs.length 0 lo)).take (HT.sIx xs.length xs.length hi - HT.sIx xs.length 0 lo), IsTup.new _ _, NoDi.new _ _⟩
def rLtT (K : PySem.W.Frag) : R2 := fun x y H Q => ∃ a b ns ms, x = .ref a ∧ y = .ref b ∧ SqT K H a (ns.map V.int) ∧ SqT K H b (ms.map V.int) ∧ Q (.bl (HT.lexLt ns ms)) H
theorem op_ltT (hu : X.A.units < cLine) : OpR X (compareOp .Lt) (rLtT X.K) := by
  intro pins s σ H x y v u Q I rx ry h
  obtain ⟨a, b, ns, ms, rfl, rfl, ha, hb, q⟩ := h
  cases rx
  cases ry
  obtain ⟨its, r1, p1, _⟩ := I.tuple ha
  obtain ⟨its2, r2, p2, _⟩ := I.tuple hb
  have i1 : IntsAre its.toArray.toList ns := intsAre_of r1
  have i2 : IntsAre its2.toArray.toList ms := intsAre_of r2
  exact HT.lt_tupInts p1 p2 i1 i2 hu ⟨.bl (HT.lexLt ns ms), H, I, rfl, q⟩
def rCatT (K : PySem.W.Frag) : R2 := fun x y H Q => ∃ a b xs ys, x = .ref a ∧ y = .ref b ∧ SqT K H a xs ∧ SqT K H b ys ∧ xs ≠ [] ∧ xs.length + ys.length ≤ sizeLine ∧
  (ys = [] → Q (.ref a) H) ∧ (ys ≠ [] → ∀ p, H p = none → Q (.ref p) (upd H p (.tup (xs ++ ys))))
theorem Vals.nil_iff {xs : List V} {us : List Value} (r : Vals xs us) : us = [] ↔ xs = [] := by
  cases r with
  | nil => simp
  | cons _ _ => simp
theorem op_catT : OpR X (binaryOp .Add) (rCatT X.K) := by
  intro pins s σ H x y v u Q I rx ry h
  obtain ⟨a, b, xs, ys, rfl, rfl, ha, hb, hx, hz, q1, q2⟩ := h
  cases rx
  cases ry
  obtain ⟨its, r1, p1, _⟩ := I.tuple ha
  obtain ⟨its2, r2, p2, _⟩ := I.tuple hb
  refine HT.cat_tup p1 p2 (fun z => hx (r1.nil_iff.mp z)) (fun z => ⟨.ref a, H, I, rfl, q1 (r2.nil_iff.mp z)⟩) (fun z => ?_) (by rw [← r1.length, ← r2.length]; exact hz)
  refine ⟨.ref s.heap.objs.size, _, I.laid (t' := s.toks) (o := .tup (xs ++ ys)) (fun b ob q => Heap.get?_push_of_some _ q) (Nat.le_refl _) ?_, rfl, q2 (fun w => z (r2.nil_iff.mpr w)) _ (I.hok.fresh (Nat.le_refl _))⟩
  exact ⟨by rw [List.length_append]; exact hz, _, r1.append r2, IsTup.new _ _, NoDi.new _ _⟩
end
end L2
namespace L2
open PySem PySem.Spec PyProof.Rows
def ixN (n : Nat) (i : Int) : Option Nat := if 0 ≤ i then (if i < n then some i.toNat else none) else if -(n : Int) ≤ i then some (i + n).toNat else none
def atI {α : Type} (xs : List α) (i : Int) : Option α := (ixN xs.length i).bind fun j => xs[j]?
theorem ixN_seq {n : Nat} {i : Int} {j : Nat} (h : ixN n i = some j) : seqIndex? i n = some j ∧ j < n ∧ -(n : Int) ≤ i ∧ i < n := by
  unfold ixN at h
  by_cases h0 : 0 ≤ i
  · rw [if_pos h0] at h
    by_cases h1 : i < n
    · rw [if_pos h1] at h
      have e : i.toNat = j := Option.some.inj h
      exact ⟨by rw [seqIndex_of h0 h1, e], by omega, by omega, h1⟩
    · rw [if_neg h1] at h; cases h
  · rw [if_neg h0] at h
    by_cases h1 : -(n : Int) ≤ i
    · rw [if_pos h1] at h
      have e : (i + n).toNat = j := Option.some.inj h
      exact ⟨by rw [seqIndex_neg (by omega) h1, e], by omega, h1, by omega⟩
    · rw [if_neg h1] at h; cases h
theorem atI_get {α : Type} {xs : List α} {i : Int} {v : α} (h : atI xs i = some v) : ∃ j, seqIndex? i xs.length = some j ∧ xs[j]? = some v ∧ j < xs.length ∧ -(xs.length : Int) ≤ i ∧ i < xs.length := by
  unfold atI at h
  cases e : ixN xs.length i with
  | none => rw [e] at h; cases h
  | some j =>
    rw [e] at h
    obtain ⟨h1, h2, h3, h4⟩ := ixN_seq e
    exact ⟨j, h1, h, h2, h3, h4⟩
theorem atI_nat {α : Type} {xs : List α} {j : Nat} {v : α} (h : xs[j]? = some v) : atI xs (j : Int) = some v := by
  have hj : j < xs.length := (List.getElem?_eq_some_iff.mp h).1
  have e : ixN xs.length (j : Int) = some j := by
    unfold ixN
    rw [if_pos (by omega), if_pos (by omega)]; simp
  unfold atI; rw [e]; exact h
def PlainIx (b : Expr) : Prop := ∀ o i, subscripted b false o i = operate [o, i] (getItem o i)
def IxR (X : Cx) (r : R2) : Prop :=
  ∀ (value slice : Expr) (pins : List (Addr × Obj)) (s : Shared) (σ : St) (H : Hp) (x y : V) (v u : Value) (Q : VK), Inv X pins σ H s → RelV x v → RelV y u → r x y H Q →
    subscripted slice false v u = operate [v, u] (getItem v u) → wpAny (model X.prog X.w) X.A (subscriptTail value slice v u) (EP X pins σ Q) X.xe s
def MtR (X : Cx) (id : String) (r : V → List V → Hp → VK → Prop) : Prop :=
  ∀ (pins : List (Addr × Obj)) (s : Shared) (σ : St) (H : Hp) (x : V) (xs : List V) (v : Value) (us : List Value) (Q : VK), Inv X pins σ H s → RelV x v → Vals xs us → r x xs H Q →
    wpAny (model X.prog X.w) X.A (call (.builtin id) (v :: us)) (EP X pins σ Q) X.xe s
section
variable {X : Cx} {a b : Expr} {ta tb : TE} {pos : Pos}
theorem IxR.or {r r' : R2} (h : IxR X r) (h' : IxR X r') : IxR X (fun x y H Q => r x y H Q ∨ r' x y H Q) := by
  intro value slice pins s σ H x y v u Q I rx ry q hs
  rcases q with q | q
  · exact h value slice pins s σ H x y v u Q I rx ry q hs
  · exact h' value slice pins s σ H x y v u Q I rx ry q hs
theorem pe_ix {r : R2} (hr : IxR X r) (ha : PE X a ta) (hb : PE X b tb) (hs : PlainIx b) : PE X (.Subscript a b pos) (tOp r ta tb) := by
  intro pins s σ H Q I h
  exact Subscript_ (binT ha hb I h fun v u s2 x y H2 I2 rx ry q => hr a b pins s2 σ H2 x y v u Q I2 rx ry q (hs _ _))
def rIxL (K : PySem.W.Frag) : R2 := fun x y H Q => ∃ p xs i v, x = .ref p ∧ y = .int i ∧ SqL K H p xs ∧ atI xs i = some v ∧ Q v H
def rIxT (K : PySem.W.Frag) : R2 := fun x y H Q => ∃ p xs i v, x = .ref p ∧ y = .int i ∧ SqT K H p xs ∧ atI xs i = some v ∧ Q v H
def rIxS : R2 := fun x y H Q => ∃ z i c, x = .str z ∧ y = .int i ∧ z.length ≤ sizeLine ∧ atI z.cps.toList i = some c ∧ Q (.str ⟨#[c]⟩) H
theorem ix_list : IxR X (rIxL X.K) := by
  intro value slice pins s σ H x y v u Q I rx ry h hs
  obtain ⟨p, xs, i, z, rfl, rfl, hq, he, q⟩ := h
  cases rx
  obtain ⟨t, rfl⟩ := ry
  obtain ⟨its, r, pl, hz⟩ := I.list hq
  obtain ⟨j, h1, h2, h3, h4, h5⟩ := atI_get he
  obtain ⟨w, ew, rw'⟩ := r.get h2
  have hl := r.length
  have hn := line63
  have fin : EP X pins σ Q w s := ⟨z, H, I, rw', q⟩
  by_cases h0 : 0 ≤ i
  · have hj : i.toNat = j := by
      rw [seqIndex_of h0 h5] at h1
      exact Option.some.inj h1
    exact item_listR pl.isList h0 (by omega) (by rw [hj]; simpa using ew) fin hs
  · have hj : (i + (its.toArray.size : Int)).toNat = j := by
      rw [seqIndex_neg (by omega) h4] at h1
      rw [List.size_toArray, ← hl]
      exact Option.some.inj h1
    exact subscriptTail_builtinR (x := w) pl.isList.typeIs slot_list_getitem.lookup
      (wpAny_getItem_list_neg (Q := fun r s' => r = w ∧ EP X pins σ Q r s') pl.isList (by omega) (by rw [List.size_toArray] <;> omega) (by omega) (by rw [hj]; simpa using ew) ⟨rfl, fin⟩) hs
theorem ix_tup : IxR X (rIxT X.K) := by
  intro value slice pins s σ H x y v u Q I rx ry h hs
  obtain ⟨p, xs, i, z, rfl, rfl, hq, he, q⟩ := h
  cases rx
  obtain ⟨t, rfl⟩ := ry
  obtain ⟨its, r, pl, hz⟩ := I.tuple hq
  obtain ⟨j, h1, h2, h3, h4, h5⟩ := atI_get he
  obtain ⟨w, ew, rw'⟩ := r.get h2
  have hl := r.length
  have hn := line63
  have fin : EP X pins σ Q w s := ⟨z, H, I, rw', q⟩
  exact subscriptTail_builtinR (x := w) pl.typeIs slot_tuple_getitem.lookup
    (getItem_tuple (j := j) (Q := fun r s' => r = w ∧ EP X pins σ Q r s') pl (by omega) (by omega) (by rw [List.size_toArray, ← hl]; exact h1) (by simpa using ew) ⟨rfl, fin⟩) hs
theorem ix_str : IxR X rIxS := by
  intro value slice pins s σ H x y v u Q I rx ry h hs
  obtain ⟨z, i, c, rfl, rfl, hz, he, q⟩ := h
  obtain ⟨t, rfl⟩ := rx
  obtain ⟨t', rfl⟩ := ry
  obtain ⟨j, h1, h2, h3, h4, h5⟩ := atI_get he
  have hl : z.cps.toList.length = z.length := by simp [Str.length]
  rw [hl] at h1 h4 h5
  have hn := line63
  exact tail_any (typeIs_str s z t) slot_str_getitem.lookup (getItem_str (c := c) (by
    have e1 : decide (i < -(2 ^ 63 : Int)) = false := decide_eq_false (by omega)
    have e2 : decide (i ≥ 2 ^ 63) = false := decide_eq_false (by omega)
    rw [e1, e2, Bool.or_false]) (by rw [h1]; simpa using h2) ⟨.str ⟨#[c]⟩, H, I.tok _, ⟨_, rfl⟩, q⟩) hs
def rIx (K : PySem.W.Frag) : R2 := fun x y H Q => rIxL K x y H Q ∨ rIxT K x y H Q ∨ rIxS x y H Q
theorem ix_seq : IxR X (rIx X.K) := ix_list.or (ix_tup.or ix_str)
theorem mapSeq_set (its : List Value) (n j : Nat) (u : Value) : Obj.mapSeq (·.setIfInBounds j u) { cls := .type "list", data := .seq its.toArray n } = { cls := .type "list", data := .seq (its.set j u).toArray n } := by
  simp [Obj.mapSeq]
theorem Inv.lst {pins : List (Addr × Obj)} {σ : St} {H : Hp} {s : Shared} {p : Addr} {xs : List V} (I : Inv X pins σ H s) (h : H p = some (.lst xs)) :
    ∃ (its : List Value) (n : Nat), Vals xs its ∧ s.heap.get? p = some { cls := .type "list", data := .seq its.toArray n } ∧ xs.length ≤ sizeLine := by
  obtain ⟨z, its, n, r, e⟩ := I.hok p _ h
  exact ⟨its, n, r, e, z⟩
theorem Inv.lstUpd {pins : List (Addr × Obj)} {σ : St} {H : Hp} {s : Shared} {p : Addr} {xs ys : List V} {its its' : List Value} {n n' : Nat} {f : Obj → Obj} (I : Inv X pins σ H s) (h : H p = some (.lst xs))
    (ho : s.heap.get? p = some { cls := .type "list", data := .seq its.toArray n }) (hf : f { cls := .type "list", data := .seq its.toArray n } = { cls := .type "list", data := .seq its'.toArray n' }) (r : Vals ys its') (hz : ys.length ≤ sizeLine) (t : Nat) :
    Inv X pins σ (upd H p (.lst ys)) { s with heap := s.heap.update p f, toks := t } := by
  have e : (s.heap.update p f).get? p = some { cls := .type "list", data := .seq its'.toArray n' } := by
    rw [Heap.get?_update_self f ho (by rw [hf] <;> rfl), hf]
  refine I.write (x := p) (e := p) (by rw [h]; trivial) (.inl rfl) (fun b u hb q => (Heap.get?_update_other _ _ (Ne.symm hb)).trans q) ⟨_, e⟩ ?_
  exact ⟨hz, its', n', r, e⟩
def rSetL : V → V → V → Hp → (Hp → Prop) → Prop := fun o i v H Q => ∃ p xs k j, o = .ref p ∧ i = .int k ∧ H p = some (.lst xs) ∧ ixN xs.length k = some j ∧ Q (upd H p (.lst (xs.set j v)))
theorem set_list : PSet X rSetL := by
  intro pins s σ H o i v ov iv u Q I ro ri rv h
  obtain ⟨p, xs, k, j, rfl, rfl, hp, hj, q⟩ := h
  cases ro
  obtain ⟨t, rfl⟩ := ri
  obtain ⟨its, n, r, ho, hz⟩ := I.lst hp
  obtain ⟨h1, h2, h3, h4⟩ := ixN_seq hj
  have hl := r.length
  have hn := line63
  have I' : Inv X pins σ (upd H p (.lst (xs.set j v))) { s with heap := s.heap.update p (Obj.mapSeq (·.setIfInBounds j u)) } :=
    I.lstUpd hp ho (mapSeq_set its n j u) (r.set rv j) (by rw [List.length_set]; exact hz) s.toks
  by_cases h0 : 0 ≤ k
  · have hk : k.toNat = j := by
      rw [seqIndex_of h0 h4] at h1
      exact Option.some.inj h1
    exact PySem.W.ki_setAt ho h0 (by omega) (by rw [List.size_toArray, ← hl]; exact h4) (by rw [hk]; exact ⟨_, I', q⟩)
  · have hk : (k + (its.toArray.size : Int)).toNat = j := by
      rw [seqIndex_neg (by omega) h3] at h1
      rw [List.size_toArray, ← hl]
      exact Option.some.inj h1
    exact PySem.W.ki_setBack ho (by omega) (by rw [List.size_toArray, ← hl]; exact h3) (by omega) (by rw [hk]; exact ⟨_, I', q⟩)
theorem slice_bounds (lo hi : Option Int) (n : Nat) : (sliceBounds lo hi none n).1 = ((HT.sIx n 0 lo : Nat) : Int) ∧ (sliceBounds lo hi none n).2.1 = ((HT.sIx n n hi : Nat) : Int) ∧ (sliceBounds lo hi none n).2.2 = 1 := by
  refine ⟨?_, ?_, rfl⟩
  · cases lo with
    | none => simp [sliceBounds, HT.sIx]
    | some i =>
      simp only [sliceBounds, HT.sIx, Option.getD_none, show (1 : Int) > 0 by decide, if_true]
      by_cases h : i < 0
      · simp only [h, if_true] <;> omega
      · simp only [h, if_false] <;> omega
  · cases hi with
    | none => simp [sliceBounds, HT.sIx]
    | some i =>
      simp only [sliceBounds, HT.sIx, Option.getD_none, show (1 : Int) > 0 by decide, if_true]
      by_cases h : i < 0
      · simp only [h, if_true] <;> omega
      · simp only [h, if_false] <;> omega
theorem slicePick_cut (its : List Value) (lo hi : Option Int) : slicePick its.toArray lo hi none = ((its.drop (HT.sIx its.length 0 lo)).take (HT.sIx its.length its.length hi - HT.sIx its.length 0 lo)).toArray := by
  obtain ⟨h1, h2, h3⟩ := slice_bounds lo hi its.toArray.size
  unfold slicePick
  rw [h1, h2, h3]
  simp only [sliceRange_one, pick_run, List.size_toArray] <;> rfl
def rSlL (K : PySem.W.Frag) : V → Option Int → Option Int → Hp → VK → Prop := fun x lo hi H Q => ∃ a xs, x = .ref a ∧ SqL K H a xs ∧ ∀ p, H p = none → Q (.ref p) (upd H p (.lst (cutV xs lo hi)))
theorem sl_list : SlR X (rSlL X.K) := by
  intro pins s σ H x v vl vu lo hi sl Q I rx hs pl pu h
  obtain ⟨a, xs, rfl, hx, q⟩ := h
  cases rx
  obtain ⟨its, r, ht, hz⟩ := I.list hx
  have hlen := r.length
  refine ⟨"list", _, slot_list_getitem.lookup, ht.isList.typeIs, ?_⟩
  refine wpAny_getItem_list_slice ht.isList hs pl pu .none (by simp) ?_ (by rw [List.size_toArray] <;> omega)
  rw [slicePick_cut, ← hlen]
  refine ⟨.ref s.heap.objs.size, _, I.laid (t' := s.toks) (o := .lst (cutV xs lo hi)) (fun b ob q => Heap.get?_push_of_some _ q) (Nat.le_refl _) ?_, rfl, q _ (I.hok.fresh (Nat.le_refl _))⟩
  exact ⟨Nat.le_trans (cutV_length xs lo hi) hz, _, 0, (r.drop (HT.sIx xs.length 0 lo)).take (HT.sIx xs.length xs.length hi - HT.sIx xs.length 0 lo), Heap.get?_push_size _ rfl⟩
def flatV : V → Bool
  | .non => true
  | .bl _ => true
  | .int _ => true
  | .str _ => true
  | _ => false
def eqV : V → V → Bool
  | .non, .non => true
  | .bl a, .bl b => a == b
  | .bl a, .int b => (if a then 1 else 0) == b
  | .int a, .bl b => a == (if b then 1 else 0)
  | .int a, .int b => a == b
  | .str a, .str b => a == b
  | _, _ => false
theorem eqAt_V {A : Around} {s : Shared} {y x : V} {u v : Value} (ry : RelV y u) (rx : RelV x v) (fy : flatV y = true) (fx : flatV x = true) : SeqAt.EqAt A s u v (eqV y x) := by
  cases y with
  | non =>
    cases ry
    cases x with
    | non => cases rx; exact SeqAt.EqAt.same _
    | bl b => cases rx; exact SeqAt.EqAt.none_bool b
    | int b => obtain ⟨t, rfl⟩ := rx; exact SeqAt.EqAt.none_int b t
    | str b => obtain ⟨t, rfl⟩ := rx; exact SeqAt.EqAt.none_str b t
    | _ => exact absurd (show false = true from fx) Bool.false_ne_true
  | bl a =>
    cases ry
    cases x with
    | non => cases rx; exact SeqAt.EqAt.bool_none a
    | bl b => cases rx; exact SeqAt.EqAt.bool_bool a b
    | int b => obtain ⟨t, rfl⟩ := rx; exact SeqAt.EqAt.bool_int a b t
    | str b => obtain ⟨t, rfl⟩ := rx; exact SeqAt.EqAt.bool_str a b t
    | _ => exact absurd (show false = true from fx) Bool.false_ne_true
  | int a =>
    obtain ⟨t', rfl⟩ := ry
    cases x with
    | non => cases rx; exact SeqAt.EqAt.int_none a t'
    | bl b => cases rx; exact SeqAt.EqAt.int_bool a t' b
    | int b => obtain ⟨t, rfl⟩ := rx; exact SeqAt.EqAt.int_int a t' b t
    | str b => obtain ⟨t, rfl⟩ := rx; exact SeqAt.EqAt.int_str a t' b t
    | _ => exact absurd (show false = true from fx) Bool.false_ne_true
  | str a =>
    obtain ⟨t', rfl⟩ := ry
    cases x with
    | non => cases rx; exact SeqAt.EqAt.str_none a t'
    | bl b => cases rx; exact SeqAt.EqAt.str_bool a t' b
    | int b => obtain ⟨t, rfl⟩ := rx; exact SeqAt.EqAt.str_int a t' b t
    | str b => obtain ⟨t, rfl⟩ := rx; exact SeqAt.EqAt.str_str a t' b t
    | _ => exact absurd (show false = true from fx) Bool.false_ne_true
  | _ => exact absurd (show false = true from fy) Bool.false_ne_true
def eqU (x : V) (u : Value) : Bool := match u with
  | .none => eqV .non x
  | .bool b => eqV (.bl b) x
  | .int i _ => eqV (.int i) x
  | .str z _ => eqV (.str z) x
  | _ => false
theorem eqU_of {x y : V} {u : Value} (r : RelV y u) (f : flatV y = true) : eqU x u = eqV y x := by
  cases y with
  | non => cases r; rfl
  | bl b => cases r; rfl
  | int i => obtain ⟨t, rfl⟩ := r; rfl
  | str z => obtain ⟨t, rfl⟩ := r; rfl
  | _ => exact absurd (show false = true from f) Bool.false_ne_true
theorem any_eqU {x : V} : ∀ {xs : List V} {us : List Value}, Vals xs us → xs.all flatV = true → us.any (eqU x) = xs.any fun y => eqV y x
  | _, _, .nil, _ => rfl
  | y :: xs, u :: us, .cons r t, f => by
    rw [List.all_cons, Bool.and_eq_true] at f
    rw [List.any_cons, List.any_cons, eqU_of r f.1, any_eqU t f.2]
theorem mem_eqAt {A : Around} {s : Shared} {x : V} {v : Value} (rx : RelV x v) (fx : flatV x = true) : ∀ {xs : List V} {us : List Value}, Vals xs us → xs.all flatV = true → ∀ u ∈ us, SeqAt.EqAt A s u v (eqU x u)
  | _, _, .nil, _ => fun u hu => by cases hu
  | y :: xs, u :: us, .cons r t, f => fun u' hu => by
    rw [List.all_cons, Bool.and_eq_true] at f
    rcases List.mem_cons.mp hu with rfl | hu
    · rw [eqU_of r f.1]; exact eqAt_V r rx f.1 fx
    · exact mem_eqAt rx fx t f.2 u' hu
def inV (x : V) (xs : List V) : Bool := xs.any fun y => eqV y x
def rIn (K : PySem.W.Frag) (neg : Bool) : R2 := fun x y H Q => ∃ p xs, y = .ref p ∧ (SqL K H p xs ∨ SqT K H p xs) ∧ flatV x = true ∧ xs.all flatV = true ∧ Q (.bl (if neg then !inV x xs else inV x xs)) H
theorem op_in_seq : OpR X (compareOp .In) (rIn X.K false) := by
  intro pins s σ H x y v u Q I rx ry h
  obtain ⟨p, xs, rfl, hq, fx, fs, q⟩ := h
  cases ry
  rcases hq with hq | hq
  · obtain ⟨its, r, pl, hz⟩ := I.list hq
    refine SeqAt.in_listAt (eqU x) pl.isList (fun w hw => mem_eqAt rx fx r fs w (by simpa using hw)) ⟨.bl _, H, I, rfl, ?_⟩
    rw [show its.toArray.any (eqU x) = its.any (eqU x) by simp, any_eqU r fs]
    exact q
  · obtain ⟨its, r, pl, hz⟩ := I.tuple hq
    refine SeqAt.in_tupleAt (eqU x) pl (fun w hw => mem_eqAt rx fx r fs w (by simpa using hw)) ⟨.bl _, H, I, rfl, ?_⟩
    rw [show its.toArray.any (eqU x) = its.any (eqU x) by simp, any_eqU r fs]
    exact q
theorem op_notIn_seq : OpR X (compareOp .NotIn) (rIn X.K true) := by
  intro pins s σ H x y v u Q I rx ry h
  obtain ⟨p, xs, rfl, hq, fx, fs, q⟩ := h
  cases ry
  rcases hq with hq | hq
  · obtain ⟨its, r, pl, hz⟩ := I.list hq
    refine SeqAt.notIn_listAt (eqU x) pl.isList (fun w hw => mem_eqAt rx fx r fs w (by simpa using hw)) ⟨.bl _, H, I, rfl, ?_⟩
    rw [show its.toArray.any (eqU x) = its.any (eqU x) by simp, any_eqU r fs]
    exact q
  · obtain ⟨its, r, pl, hz⟩ := I.tuple hq
    refine SeqAt.notIn_tupleAt (eqU x) pl (fun w hw => mem_eqAt rx fx r fs w (by simpa using hw)) ⟨.bl _, H, I, rfl, ?_⟩
    rw [show its.toArray.any (eqU x) = its.any (eqU x) by simp, any_eqU r fs]
    exact q
theorem op_notIn_str : OpR X (compareOp .NotIn) (fun x y H Q => ∃ i j, x = .str i ∧ y = .str j ∧ Q (.bl (!(!(Builtin.Str.occurrences j i 0 j.length 1).isEmpty))) H) := by
  intro pins s σ H x y v u Q I rx ry h
  obtain ⟨i, j, rfl, rfl, q⟩ := h
  obtain ⟨t, rfl⟩ := rx
  obtain ⟨t', rfl⟩ := ry
  exact notIn_str ⟨.bl _, H, I, rfl, q⟩
theorem call_len_seq : CallR X (.builtin "len") (fun xs H Q => ∃ p ys, xs = [.ref p] ∧ (SqL X.K H p ys ∨ SqT X.K H p ys) ∧ Q (.int ys.length) H) := by
  intro pins s σ H xs us Q I r h
  obtain ⟨p, ys, rfl, hq, q⟩ := h
  obtain ⟨u, rfl, rx⟩ := vals1 r
  cases rx
  have hn := line63
  rcases hq with hq | hq
  · obtain ⟨its, r', pl, hz⟩ := I.list hq
    have hlen := r'.length
    exact Calls.call_len_list pl.isList (by simp only [List.size_toArray] <;> omega) ⟨.int ys.length, H, I.tok _, ⟨s.toks + 1, by rw [List.size_toArray, hlen]⟩, q⟩
  · obtain ⟨its, r', pl, hz⟩ := I.tuple hq
    have hlen := r'.length
    exact len_tuple pl (by simp only [List.size_toArray] <;> omega) ⟨.int ys.length, H, I.tok _, ⟨s.toks + 1, by rw [List.size_toArray, hlen]⟩, q⟩
theorem call_len_str : CallR X (.builtin "len") (fun xs H Q => ∃ z, xs = [.str z] ∧ z.length ≤ sizeLine ∧ Q (.int z.length) H) := by
  intro pins s σ H xs us Q I r h
  obtain ⟨z, rfl, hz, q⟩ := h
  obtain ⟨u, rfl, t, rfl⟩ := vals1 r
  have hn := line63
  exact len_str (by omega) ⟨.int z.length, H, I.tok _, ⟨_, rfl⟩, q⟩
theorem CallR.or {f : Value} {r r' : List V → Hp → VK → Prop} (h : CallR X f r) (h' : CallR X f r') : CallR X f (fun xs H Q => r xs H Q ∨ r' xs H Q) := by
  intro pins s σ H xs us Q I rs q
  rcases q with q | q
  · exact h pins s σ H xs us Q I rs q
  · exact h' pins s σ H xs us Q I rs q
def tyV (K : PySem.W.Frag) (T : String) (x : V) (H : Hp) : Prop := match x with
  | .str _ => T = "str"
  | .int _ => T = "int"
  | .ref p => (T = "list" ∧ ∃ xs, SqL K H p xs) ∨ (T = "tuple" ∧ ((∃ o, K.lookup p = some o ∧ o.cls = .type "tuple" ∧ o.dict = none) ∨ ∃ xs, H p = some (.tup xs))) ∨
      (T = "dict" ∧ ((∃ kvs, H p = some (.dK kvs)) ∨ ∃ kvs, H p = some (.dT kvs))) ∨ (T = "set" ∧ ∃ S n, H p = some (.set S n))
  | _ => False
theorem tyV_is {pins : List (Addr × Obj)} {σ : St} {H : Hp} {s : Shared} {T : String} {x : V} {v : Value} (I : Inv X pins σ H s) (r : RelV x v) (ty : tyV X.K T x H) :
    s.TypeIs v T ∧ ∀ a, v = .ref a → ∃ ob, s.heap.get? a = some ob ∧ ob.dict = none := by
  cases x with
  | str z =>
    obtain ⟨t, rfl⟩ := r
    cases (show T = "str" from ty)
    exact ⟨typeIs_str s z t, fun _ e => nomatch e⟩
  | int i =>
    obtain ⟨t, rfl⟩ := r
    cases (show T = "int" from ty)
    exact ⟨typeIs_int s i t, fun _ e => nomatch e⟩
  | ref p =>
    cases r
    rcases ty with ⟨rfl, xs, hq⟩ | ⟨rfl, ⟨o, hk, hc, hd⟩ | ⟨xs, hk⟩⟩ | ⟨rfl, hk⟩ | ⟨rfl, S, n, hk⟩
    · obtain ⟨its, _, pl, _⟩ := I.list hq
      refine ⟨pl.isList.typeIs, fun a e => ?_⟩
      cases e
      obtain ⟨o, n, e, c, hd, _⟩ := pl
      exact ⟨o, e, hd⟩
    · refine ⟨⟨o, I.kIn p o hk, hc⟩, fun a e => ?_⟩
      cases e
      exact ⟨o, I.kIn _ o hk, hd⟩
    · obtain ⟨_, _, _, ⟨o, e1, e2, _⟩, nd⟩ := I.hok p _ hk
      refine ⟨⟨o, e1, e2⟩, fun a e => ?_⟩
      cases e
      exact ⟨o, e1, nd o e1⟩
    · have z : ∃ o, s.heap.get? p = some o ∧ o.ExactDict := by
        rcases hk with ⟨kvs, hk⟩ | ⟨kvs, hk⟩
        · obtain ⟨_, _, _, _, o, _, _, e, ex, _⟩ := I.hok p _ hk
          exact ⟨o, e, ex⟩
        · obtain ⟨_, _, _, _, o, _, _, e, ex, _⟩ := I.hok p _ hk
          exact ⟨o, e, ex⟩
      obtain ⟨o, e, ex⟩ := z
      refine ⟨⟨o, e, ex.1⟩, fun a e2 => ?_⟩
      cases e2
      exact ⟨o, e, ex.2.1⟩
    · obtain ⟨o, _, _, _, e, ex, _⟩ := I.hok p _ hk
      refine ⟨⟨o, e, ex.1⟩, fun a e2 => ?_⟩
      cases e2
      exact ⟨o, e, ex.2.1⟩
  | _ => exact False.elim ty
def tBM (K : PySem.W.Frag) (T : String) (r : V → List V → Hp → VK → Prop) (to : TE) (t : TA) : TE := fun σ H Q => to σ H fun x H1 => tyV K T x H1 ∧ t σ H1 fun xs H2 => r x xs H2 Q
variable {o e : Expr} {es : List Expr} {to : TE} {t : TA} {name : Str} {apos cpos : Pos} {T id : String} {r : V → List V → Hp → VK → Prop}
theorem pe_bm (pa : PlainAttrs T) (slot : Slot T name id) (hty : typeOf (.builtin id) = pure (.type "method_descriptor")) (hm : MtR X id r) (ho : PE X o to) (ha : PA X (e :: es) t)
    (hbase : attributeBase o name X.env (eval o X.env) = eval o X.env := by rfl)
    (hfew : ((backTo cpos (starEach (e :: es) X.env)).all (fun x => !x.1) && (backToKw cpos (keywordEach [] X.env)).all (fun x => x.1.isSome)
      && decide ((e :: es).length + ([] : List Keyword).length + (if ([] : List Keyword).isEmpty then 0 else 1) < 30)) = true := by rfl)
    (hline : (apos.endLine == cpos.line) = true := by rfl) (hs : starEach (e :: es) X.env = (false, eval e X.env) :: starEach es X.env := by rfl) (hplain : (backTo cpos (starEach es X.env)).any (·.1) = false := by rfl) :
    PE X (.Call (.Attribute o name apos) (e :: es) [] cpos) (tBM X.K T r to t) := by
  intro pins s σ H Q I h
  refine wpAny_Call_method_late hbase hfew hline rfl (thn (ho pins s σ H _ I h) fun v s1 ⟨x, H1, I1, r1, ty, q1⟩ => ?_)
  obtain ⟨h1, h2⟩ := tyV_is I1 r1 ty
  refine ⟨T, id, pa, slot, hty, h1, h2, ?_⟩
  have hA := ha cpos pins s1 σ H1 _ I1 q1
  rw [hs] at hA ⊢
  refine Calls.callWith_builtin (by show (false || (backTo cpos (starEach es X.env)).any (·.1)) = false; rw [hplain] <;> rfl) (Calls.evalArgs_plain ?_)
  exact thn hA fun us s2 ⟨vs, H2, I2, r2, q2⟩ => hm pins s2 σ H2 x vs v us Q I2 r1 r2 q2
/- xs.append(e), list.index on a module's tuple .. are MtR facts of 06m -/
end
end L2
namespace L2
open PySem PySem.Spec PyProof.Rows
def MtM (X : Cx) (id : String) (r : V → List V → Hp → VK → Prop) : Prop :=
  ∀ (pins : List (Addr × Obj)) (s : Shared) (σ : St) (H : Hp) (x : V) (xs : List V) (v : Value) (us : List Value) (Q : VK), Inv X pins σ H s → RelV x v → Vals xs us → r x xs H Q →
    wpAny (model X.prog X.w) X.A (call (.builtin id) (v :: us)) (EP X pins σ Q) X.xe s
theorem Vals.one : ∀ {x : V} {us : List Value}, Vals [x] us → ∃ u, us = [u] ∧ RelV x u
  | _, _, .cons r .nil => ⟨_, rfl, r⟩
theorem Vals.rep {xs : List V} {us : List Value} (h : Vals xs us) : ∀ k : Nat, Vals (List.replicate k xs).flatten (List.replicate k us).flatten
  | 0 => .nil
  | k + 1 => by
    rw [List.replicate_succ, List.replicate_succ, List.flatten_cons, List.flatten_cons]
    exact Vals.append h (Vals.rep h k)
theorem foldl_rep (its : List Value) : ∀ (k : Nat) (acc : List Value),
    List.foldl (fun x1 x2 => x1 ++ x2) acc.toArray (List.replicate k its.toArray) = (acc ++ (List.replicate k its).flatten).toArray
  | 0, acc => by simp
  | k + 1, acc => by
    have e : acc.toArray ++ its.toArray = (acc ++ its).toArray := by simp
    have e2 : (acc ++ its) ++ (List.replicate k its).flatten = acc ++ (List.replicate (k + 1) its).flatten := by
      rw [List.replicate_succ, List.flatten_cons, List.append_assoc]
    rw [← e2, ← foldl_rep its k (acc ++ its), ← e, List.replicate_succ, List.foldl_cons]
section
variable {X : Cx} {pins : List (Addr × Obj)} {σ : St} {H : Hp} {s : Shared} {l b : Addr} {xs ys zs : List V}
theorem Inv.lset {its its' : List Value} {n : Nat} {f : Array Value → Array Value} {t' : Nat} (I : Inv X pins σ H s) (hH : H l = some (.lst xs))
    (e : s.heap.get? l = some { cls := .type "list", data := .seq its.toArray n }) (hf : f its.toArray = its'.toArray) (hv : Vals ys its') (hz : ys.length ≤ sizeLine) :
    Inv X pins σ (upd H l (.lst ys)) { s with heap := s.heap.update l (Obj.mapSeq f), toks := t' } := by
  have q := PySem.IsL.update e f
  rw [hf] at q
  refine I.write (x := l) (e := l) (by rw [hH]; exact trivial) (.inl rfl) (fun b' u hb hu => (Heap.get?_update_other s.heap (Obj.mapSeq f) (Ne.symm hb)).trans hu) ⟨_, q⟩ ?_
  exact ⟨hz, its', _, hv, q⟩
theorem Inv.lnew {its : List Value} {t' : Nat} (I : Inv X pins σ H s) (hv : Vals ys its) (hz : ys.length ≤ sizeLine) :
    Inv X pins σ (upd H s.heap.objs.size (.lst ys)) { s with heap := s.heap.push { cls := .type "list", data := .seq its.toArray }, toks := t' } :=
  I.laid (fun _ _ q => Heap.get?_push_of_some _ q) (Nat.le_refl _) ⟨hz, its, 0, hv, Heap.get?_push_size _ rfl⟩
theorem Inv.fresh (I : Inv X pins σ H s) : H s.heap.objs.size = none := I.hok.fresh (Nat.le_refl _)
theorem Inv.lstM (I : Inv X pins σ H s) (hH : H l = some (.lst xs)) : xs.length ≤ sizeLine ∧ ∃ (its : List Value) (n : Nat), Vals xs its ∧ xs.length = its.length ∧ s.heap.get? l = some { cls := .type "list", data := .seq its.toArray n } := by
  obtain ⟨z, its, n, r, e⟩ := I.hok l _ hH
  exact ⟨z, its, n, r, r.length, e⟩
theorem notLongL {n : Nat} (h : n ≤ sizeLine) : Builtin.List.listTooLong n = false := by
  unfold Builtin.List.listTooLong
  exact decide_eq_false (by omega)
end
section
variable {X : Cx}
def rAppend : V → List V → Hp → VK → Prop := fun x vs H Q => ∃ l xs y, x = .ref l ∧ vs = [y] ∧ H l = some (.lst xs) ∧ xs.length < sizeLine ∧ Q .non (upd H l (.lst (xs ++ [y])))
theorem mt_append : MtM X "list.append" rAppend := by
  intro pins s σ H x vs v us Q I rx rv h
  obtain ⟨l, xs, y, rfl, rfl, hH, hz, q⟩ := h
  cases rx
  obtain ⟨u, rfl, ru⟩ := rv.one
  obtain ⟨z, its, n, r, hl, e⟩ := I.lstM hH
  refine call_meets F.slot_list_append ⟨_, e, rfl⟩ F.entry_list_append (F.args_list_append_2 _ _) (PySem.list_append l its.toArray n u (by rw [List.size_toArray]; omega)) ⟨e, ?_⟩
  refine ⟨.non, _, I.lset (its' := its ++ [u]) hH e (by simp) (r.append (.cons ru .nil)) ?_, rfl, q⟩
  rw [List.length_append, List.length_singleton]
  omega
def rRep : R2 := fun x y H Q => ∃ l k xs, x = .ref l ∧ y = .int k ∧ H l = some (.lst xs) ∧ -(2 ^ 63) ≤ k ∧ k < 2 ^ 63 ∧ xs.length * k.toNat ≤ sizeLine ∧
  ∀ p, H p = none → Q (.ref p) (upd H p (.lst (List.replicate k.toNat xs).flatten))
theorem len_rep {α : Type} (xs : List α) (k : Nat) : (List.replicate k xs).flatten.length = k * xs.length := by
  induction k with
  | zero => simp
  | succ k ih => rw [List.replicate_succ, List.flatten_cons, List.length_append, ih, Nat.succ_mul, Nat.add_comm]
theorem op_rep : OpR X (binaryOp .Mult) rRep := by
  intro pins s σ H x y v u Q I rx ry h
  obtain ⟨l, k, xs, rfl, rfl, hH, h1, h2, hz, q⟩ := h
  cases rx
  obtain ⟨t, rfl⟩ := ry
  obtain ⟨z, its, n, r, hl, e⟩ := I.lstM hH
  have hlen : its.toArray.size * k.toNat ≤ sizeLine := by rw [List.size_toArray, ← hl]; exact hz
  have hcap : ¬ its.toArray.size * k.toNat > (2 ^ 63 - 1) / 8 := by
    have : (sizeLine : Nat) ≤ (2 ^ 63 - 1) / 8 := by decide
    omega
  have hfit : ¬ (!Builtin.List.listFitsIndex k) = true := by
    rw [fitsIndex_both h1 h2]
    exact Bool.false_ne_true
  have hlong : ¬ Builtin.List.listTooLong (its.toArray.size * k.toNat) = true := by
    rw [notLongL hlen]
    exact Bool.false_ne_true
  have hnew : List.foldl (fun x1 x2 => x1 ++ x2) #[] (List.replicate (if its.toArray.isEmpty = true then 0 else k.toNat) its.toArray) = (List.replicate k.toNat its).flatten.toArray := by
    have f0 : ∀ m : Nat, List.foldl (fun x1 x2 => x1 ++ x2) #[] (List.replicate m its.toArray) = (List.replicate m its).flatten.toArray := fun m => by
      have := foldl_rep its m []
      rw [List.nil_append] at this
      exact this
    rw [f0]
    cases its with
    | nil => simp
    | cons a r' => rw [if_neg (by simp)]
  refine wpAny_binaryOp_repeat_ref (T := "list") (U := "int") (by decide) ⟨_, e, rfl⟩ (fun s' => typeIs_int s' k t) noFill_list_mul F.fills_int_mul F.slot_int_rmul repeat_list F.slot_int_index.lookup
    (call_meets F.slot_int_rmul (typeIs_int s k t) F.entry_int_rmul (F.args_int_rmul_2 _ _) (int___rmul___int_list k t l its.toArray n)
      ⟨e, rfl, ⟨_, e, rfl⟩, call_meets F.slot_list_mul ⟨_, e, rfl⟩ F.entry_list_mul (F.args_list_mul_2 _ _) (AutoListH.list___mul___list_int_3 l its.toArray n k t hfit hcap hlong) ⟨e, ?_⟩⟩)
  rw [hnew]
  exact ⟨.ref _, _, I.lnew (t' := s.toks) (r.rep k.toNat) (by rw [len_rep, Nat.mul_comm]; exact hz), rfl, q _ I.fresh⟩
end
section
variable {prog : Program} {w : World} {A : Around} {E : Value → Shared → Prop} {s : Shared}
set_option maxRecDepth 100000 in
end
section
variable {X : Cx}
end
end L2
namespace Att
open PySem PySem.W PySem.Calls PyProof.Rows
theorem ints_of_wellAll {P : Params} {h : Heap} : ∀ (ns : List Int) (vs : List Value), WellAll P h vs (ns.map WData.int) → IntsAre vs ns := by
  intro ns
  induction ns with
  | nil =>
    intro vs w
    rw [List.map_nil] at w
    cases w
    exact .nil
  | cons n ns ih =>
    intro vs w
    rw [List.map_cons] at w
    cases w with
    | cons a b =>
      cases a
      exact .cons _ _ (ih _ b)
theorem script_of {l : OpenLaw} {n : Nat} (hn : l.most = some n) {P : Params} {h : Heap} {args : List WData} {vals : List Value}
    (hpre : l.row.toRowW.claim.pre args = true) (hwl : WellAll P h vals args) :
    ∃ a vs ns, vals = [Value.ref a] ∧ args = [WData.list (ns.map WData.int)] ∧ h.get? a = some { cls := .type "list", data := .seq vs.toArray } ∧ IntsAre vs ns ∧ ns.length ≤ n := by
  have hsh : WShape.hasAll [] args [.list .int] = true := (pre_splitW hpre).1
  have hc : l.pre.holds [] { args := args } = true := (pre_splitW hpre).2
  obtain ⟨d, r, rfl, h1, h2⟩ := hasAllW_cons hsh
  obtain rfl := hasAllW_nil h2
  obtain ⟨xs, rfl, h3⟩ := hasW_list h1
  obtain ⟨ns, rfl⟩ := items_int h3
  have hlen : ns.length ≤ n := by
    unfold OpenLaw.pre at hc
    have h4 : (WTm.not (.lt (.lit (.int (n : Int))) (.len (.arg 0)))).holds [] { args := [.list (ns.map .int)] } = true := by
      have h4 := (holds_andW hc).1
      rw [hn] at h4
      exact h4
    have h5 := condW_of h4 (w_not (w_lt w_lit (w_len_list (w_arg rfl))))
    rw [List.length_map] at h5
    refine Nat.le_of_not_lt fun q => ?_
    have q' : (n : Int) < ((ns.length : Nat) : Int) := by omega
    first
      | (rw [decide_eq_true q'] at h5; exact absurd h5 (by decide))
      | (simp at h5; omega)
  cases hwl with
  | cons w1 w2 =>
    cases w2
    cases w1 with
    | list ho hall => exact ⟨_, _, ns, rfl, rfl, ho, ints_of_wellAll ns _ hall, hlen⟩
theorem post_true (l : OpenLaw) (args : List WData) : l.row.toRowW.claim.post args (.bool true) args = true :=
  postW_of (r := l.row.toRowW) (X := (true == true))
    (show WShape.has [] (.bool true) .bool = true by first | rfl | decide | simp [WShape.has, WShape.arms, WShape.armsAll])
    (show (WTm.eq .res (.lit (.bool true))).value [] { args := args, res := some (.bool true), after := args } = some (.bool (true == true)) from w_eq_bool (w_res rfl) w_lit) rfl
theorem attach_call {l : OpenLaw} {n : Nat} {q : Program} {loose : List Str} {XP : (Str → Option Value) → Heap → Prop} {YP : World → Heap → Prop} {d : DefRec}
    (hn : l.most = some n) (hdf : d.params.defaults = [])
    (call : ∀ (w : World) (s₀ s₁ : Shared) (mg mb : Str → Option Value) (fa : Addr) (o : Obj) (pm cd doc : Value) (a : Addr) (vs : List Value) (ns : List Int),
      Ground q loose [] XP w s₀ mg mb s₁.heap → YP w s₁.heap →
      s₁.heap.get? fa = some o → o.data = .func (docDef d.name d.params d.body d.scope pm cd doc) → s₁.heap.CodeRec cd d.name → mg d.name = some (.ref fa) →
      s₁.heap.get? a = some { cls := .type "list", data := .seq vs.toArray } → IntsAre vs ns → ns.length ≤ n → s₁.gens = #[] →
      codeAny (model l.prog w) callerA (.call (.ref fa) ⟨[.ref a], []⟩) (fun r s' => r = .ok (.ret (.bool true)) ∧ OldK s₁.heap s'.heap ∧ s'.os = s₁.os ∧ AllBare s'.gens) s₁) :
    WalkO q loose XP YP l.row.toRowW d [] (fun f vs => PySem.call f vs) := by
  intro w s₀ s₁ mg mb G Y fa o pm cd doc dV kV ho hd hcd hD hmg hg args vals as hpre hlay hrd hwl hlo
  obtain rfl : dV = .none := Dflts.none hD hdf
  obtain rfl : kV = .none := Dflts.noKw hD
  obtain ⟨a, vs, ns, rfl, rfl, hobj, hints, hlen⟩ := script_of hn hpre hwl
  refine enter_call (codeAny_mono (call w s₀ s₁ mg mb fa o pm cd doc a vs ns G Y ho (fd_plain hd) hcd hmg hobj hints hlen hg) fun r s' hq => ?_)
  obtain ⟨rfl, h2, h3, h4⟩ := hq
  exact ⟨.inl ⟨.bool true, .bool true, [], rfl, fun _ => rfl, .bool true, post_true l _, fun _ => ⟨List.Pairwise.nil, fun _ hm => (nomatch hm)⟩⟩, h2, h3, h4⟩
section
variable {prog : Program} {w : World} {A : Around} {E : Value → Shared → Prop} {s : Shared} {K : Frag}
def noObjs (h : Heap) : Heap := { h with objs := #[] }
theorem noObjs_get (h : Heap) (b : Addr) : (noObjs h).get? b = none := by
  cases e : (noObjs h).get? b with
  | none => rfl
  | some o => exact absurd (Heap.lt_size e) (Nat.not_lt_zero _)
theorem fr_all {h : Heap} {L : Addr} {m : Str → Option Value} (n : h.Ns L m) : Fr (noObjs h) L h m :=
  ⟨n, fun b o e => (by rw [noObjs_get] at e; cases e), Nat.zero_le _⟩
end
end Att
namespace L2
open PySem PySem.Spec PyProof.Rows
theorem vals_ints : ∀ {vs : List Value} {ns : List Int}, IntsAre vs ns → Vals (ns.map V.int) vs
  | _, _, .nil => .nil
  | _, _, .cons n t h => .cons ⟨t, rfl⟩ (vals_ints h)
def Only (H : Hp) : Prop := ∀ b, H b = none ∨ ∃ o xs, H b = some (.frz o (.lst xs))
theorem law_call {P : Program} {w : World} {K : PySem.W.Frag} {mg mb : Str → Option Value} {CX : CXT} {k : Nat} {fa a : Addr} {fd : FuncData} {x : Str} {sp : Sp} {s₁ : Shared} {vs : List Value} {ns : List Int}
    (KX : K.In s₁.heap) (hns : s₁.heap.Ns mainGlobals mg) (hb : s₁.heap.Ns builtinsNs mb) (hbb : ∀ x : Str, x ≠ "__name__" → mb x = bootBuiltins x) (hlim : s₁.heap.NoLimit) (hg : s₁.gens = #[])
    (ha : s₁.heap.get? a = some { cls := .type "list", data := .seq vs.toArray }) (hi : IntsAre vs ns) (hl : ns.length ≤ sizeLine) (hr : Room k callerA)
    (F : ∀ base : Heap, K.In base → base.Ns mainGlobals mg → FnOk P w K mg base CX k fa fd [x] sp) (hbind : ∀ (s : Shared) (u : Value), BindsTo s fd ⟨[u], []⟩ [(x, u)])
    (hsp : ∀ H : Hp, Only H → SqL K H a (ns.map V.int) → sp [.ref a] H (fun v _ => v = .bl true) fun _ _ _ => False)
    (hCX : ∀ H e s', CX [] H s₁ (fun _ _ _ => False) e s' → False) :
    codeAny (model P w) callerA (.call (.ref fa) ⟨[.ref a], []⟩) (fun r s' => r = .ok (.ret (.bool true)) ∧ OldK s₁.heap s'.heap ∧ s'.os = s₁.os ∧ AllBare s'.gens) s₁ := by
  have rv := vals_ints hi
  have lenV := hi.length
  -- from an abstract heap in which nothing but the script may be tracked
  have core : ∀ H : Hp, Only H → SqL K H a (ns.map V.int) → HOk P w H s₁.heap → (∀ b, H b ≠ none → b = a) → (H a ≠ none → K.lookup a = none) →
      codeAny (model P w) callerA (.call (.ref fa) ⟨[.ref a], []⟩) (fun r s' => r = .ok (.ret (.bool true)) ∧ OldK s₁.heap s'.heap ∧ s'.os = s₁.os ∧ AllBare s'.gens) s₁ := by
    intro H hO hS hok hA hK
    have base_of : ∀ {b : Addr} {o : Obj}, s₁.heap.get? b = some o → H b = none → (hidT s₁.heap H).get? b = some o := fun e n => hidT_get e n
    have noA : ∀ {b : Addr} {o : Obj} {es : Array DictEntry} {ep : Nat}, s₁.heap.get? b = some o → o.data = .dict es ep → H b = none := fun {b o es ep} e d => by
      cases q : H b with
      | none => rfl
      | some u =>
        have e' : b = a := hA b (by rw [q]; simp)
        subst e'
        rw [ha] at e; cases e
        have d' : Data.seq vs.toArray _ = Data.dict es ep := d
        cases d'
    have nsK : ∀ {b : Addr} {m : Str → Option Value}, s₁.heap.Ns b m → (hidT s₁.heap H).Ns b m := fun {b m} ⟨o, es, ep, e, d, r⟩ => ⟨o, es, ep, base_of e (noA e d), d, r⟩
    have hKb : K.In (hidT s₁.heap H) := fun b o e => base_of (KX b o e) (by
      cases q : H b with
      | none => rfl
      | some u =>
        have e' : b = a := hA b (by rw [q]; simp)
        subst e'
        rw [hK (by rw [q]; simp)] at e; cases e)
    have hM : Mod K mg (hidT s₁.heap H) := ⟨hKb, nsK hns, ⟨mb, nsK hb, hbb⟩, let ⟨mc, h1, h2⟩ := hlim; ⟨mc, nsK h1, h2⟩⟩
    have e0 : Env0 P w K mg (hidT s₁.heap H) callerA [] s₁ H := ⟨rfl, hM, fun b o e => of_hidT e, Nat.le_of_eq (hidT_size _ _), trivial, fun b hb => absurd (show b ∈ ([] : List Addr) from hb) (by simp), hok, .of_eq hg⟩
    refine codeAny_mono ((F _ hKb (nsK hns)).run callerA [] s₁ H ⟨[.ref a], []⟩ [.ref a] [.ref a] _ _ hr e0 (hbind s₁ (.ref a)) (.cons rfl .nil) (hsp H hO hS)) fun r s' h => ?_
    cases r with
    | error e => exact (hCX H e s' h).elim
    | ok fl =>
      cases fl with
      | next => exact False.elim h
      | brk => exact False.elim h
      | cont => exact False.elim h
      | ret u =>
        obtain ⟨v, H', os, bare, un, hok', r', q⟩ := h
        have q' : v = .bl true := q
        subst q'
        obtain rfl : u = Value.bool true := r'
        refine ⟨rfl, OldK.of_keep fun b o e => ?_, os, bare⟩
        cases q : H b with
        | none => exact un.keep b o e q (by intro z; exact absurd (show b ∈ ([] : List Addr) from z) (by simp)) (by simp)
        | some u =>
          rcases hO b with z | ⟨ob, xs, z⟩
          · rw [q] at z; cases z
          · have z2 := un.frzs b ob _ z
            obtain ⟨e1, _⟩ := hok b _ z
            obtain ⟨e2, _⟩ := hok' b _ z2
            rw [e] at e1; cases e1
            exact e2
  cases hk : K.lookup a with
  | some o =>
    -- the script is one of the module's own objects
    have e := KX a o hk
    rw [ha] at e
    cases e
    refine core (fun _ => none) (fun _ => .inl rfl) (.inr ⟨_, vs.toArray, _, hk, rfl, rfl, rfl, by rw [List.size_toArray, lenV]; exact hl, by simpa using rv⟩) (fun b u z => by have z' : (none : Option HO) = some u := z; cases z') (fun b z => absurd rfl z) fun z => absurd rfl z
  | none =>
    refine core (fun b => if b = a then some (.frz { cls := .type "list", data := .seq vs.toArray } (.lst (ns.map V.int))) else none) (fun b => ?_) (.inl (.inr ⟨{ cls := .type "list", data := .seq vs.toArray }, if_pos rfl⟩)) (fun b u z => ?_) (fun b z => ?_) fun _ => hk
    · by_cases hb : b = a
      · exact .inr ⟨_, _, if_pos hb⟩
      · exact .inl (if_neg hb)
    · by_cases hb : b = a
      · have z' := (if_pos hb).symm.trans z
        cases z'
        subst hb
        exact ⟨ha, by rw [List.length_map]; exact hl, vs, _, rv, ha⟩
      · have z' := (if_neg hb).symm.trans z
        cases z'
    · by_cases hb : b = a
      · exact hb
      · exact absurd (if_neg hb) z
end L2
namespace L2
open PySem PySem.Spec PyProof.Rows
abbrev KOf {K : PySem.W.Frag} {h : Heap} (_ : K.In h) : PySem.W.Frag := K
theorem walk_of {l : PySem.W.OpenLaw} {n k : Nat} {q : Program} {loose : List Str} {XP : (Str → Option Value) → Heap → Prop} {YP : World → Heap → Prop} {d : DefRec} {K : Params → PySem.W.Frag} {CX : World → CXT} {sp : World → Sp} {x : Str}
    (hn : l.most = some n) (hn2 : n ≤ sizeLine) (hdf : d.params.defaults = []) (hr : Room k callerA)
    (hY : ∀ (w : World) (h : Heap), YP w h → (K w.params).In h)
    (F : ∀ (w : World) (mg : Str → Option Value) (fa : Addr) (h : Heap), (K w.params).In h → h.Ns mainGlobals mg → mg d.name = some (.ref fa) →
      ∃ fd : FuncData, (∀ (s : Shared) (u : Value), BindsTo s fd ⟨[u], []⟩ [(x, u)]) ∧
        ∀ base : Heap, (K w.params).In base → base.Ns mainGlobals mg → FnOk l.prog w (K w.params) mg base (CX w) k fa fd [x] (sp w))
    (hsp : ∀ (w : World) (H : Hp) (a : Addr) (ns : List Int), ns.length ≤ n → Only H → SqL (K w.params) H a (ns.map V.int) → sp w [.ref a] H (fun v _ => v = .bl true) fun _ _ _ => False)
    (hCX : ∀ (w : World) (H : Hp) (s : Shared) (e : Value) (s' : Shared), CX w [] H s (fun _ _ _ => False) e s' → False) :
    PySem.W.WalkO q loose XP YP l.row.toRowW d [] (fun f vs => PySem.call f vs) := by
  refine Att.attach_call hn hdf fun w s₀ s₁ mg mb fa o pm cd doc a vs ns G Y ho hd hcd hmg hobj hints hlen hg => ?_
  have KX := hY w _ Y
  obtain ⟨fd, hb, hF⟩ := F w mg fa _ KX G.T.g hmg
  exact law_call KX G.T.g G.T.b G.T.builtins G.T.nolimit hg hobj hints (Nat.le_trans hlen hn2) hr hF hb (fun H hO hS => hsp w H a ns hlen hO hS) fun H e s' => hCX w H s₁ e s'
end L2
/- THE LAST THEOREM (shape; LID, My.* are yours):
   My.Adr: a structure of the addresses that your layer names (classes, functions); My.Txt K t: a structure (Prop) of the equations over K;
   My.txt_mk : {K} {implicit addresses ..} (e1 : nsIn K mainGlobals "law" = some (some (.ref f))) (e2 : K.lookup f = some ⟨oc, od, .func (fnOf "law" "law" params body scope dV kV doc pm an cdv ct), sl⟩) (e3 : codeIn K cdv "law" = true) .. : ∃ t, My.Txt K t
set_option maxRecDepth 100000 in
set_option maxHeartbeats 0 in
theorem PySem.Challenge.cw_LID_holds : PySem.Challenge.rw_LID.Holds := by
  w_on; o_law; k_head; (case hw => w_witness2)
  k_fill
  refine L2.walk_of (l := PySem.Challenge.rw_LID) (n := 63) (k := 40) (x := "script") (CX := fun w => ..) (sp := fun _ => My.sp_law) rfl (by decide) rfl ⟨rfl, by decide, by decide⟩ (fun w h Y => PySem.W.kIn_of Y) ?F ?S ?C
  case F =>
    intro w mg fa h KX G hmg
    have T : ∃ t, My.Txt (L2.KOf KX) t := by
      dsimp only [L2.KOf]                          -- K must stand as «<heap const> w.params» for k_is
      refine' My.txt_mk ?e1 ?e2 ?e3 ..
      (case e1 => PySem.W.k_is)                    -- in the order: a name -> its address -> its object -> its parts
      (case e2 => PySem.W.k_is)
      ..
    obtain ⟨t, T⟩ := T
    have e0 := hmg.symm.trans (PySem.W.mg_of KX G T.law)
    cases e0                                       -- fa is the law's own address
    exact ⟨_, fun s u => .of_eq rfl, fun base kb nb => My.law_fn T kb nb⟩     -- if «.of_eq rfl» comes too early: refine' ⟨_, ?b, fun base kb nb => My.law_fn T kb nb⟩; exact fun s u => .of_eq rfl
  case S => exact fun w H a ns hl hO hS => ..
  case C => exact ..
(the tactic k_is has no namespace: write k_is) -/
namespace L2
open PySem PySem.Spec PyProof.Rows
def defArgs (s : Stmt) : Arguments := match s with
  | .FunctionDef _ a _ _ _ _ _ _ _ _ => a
  | _ => { posonlyargs := [], args := [], vararg := none, kwonlyargs := [], kw_defaults := [], kwarg := none, defaults := [] }
def defBody (s : Stmt) : List Stmt := match s with
  | .FunctionDef _ _ b _ _ _ _ _ _ _ => b
  | _ => []
def defScope (s : Stmt) : Scope := match s with
  | .FunctionDef _ _ _ _ _ _ sc _ _ _ => sc
  | _ => { kind := .function, names := [], isGenerator := false, isCoroutine := false }
abbrev CX0 : CXT := fun _ _ _ _ _ _ => False
abbrev E0 : XK := fun _ _ _ => False
structure Fun (K : PySem.W.Frag) (x qual : Str) (st : Stmt) (f : Addr) (fd : FuncData) : Prop where
  ex : ∃ (oc : Value) (od : Option Addr) (kV doc pm : Value) (an : Option Addr) (cdv ct : Value) (osl : Array (Option Value)),
    fd = PySem.W.fnOf x qual (defArgs st) (defBody st) (defScope st) .none kV doc pm an cdv ct ∧ K.lookup f = some ⟨oc, od, .func fd, osl⟩ ∧ PySem.W.codeIn K cdv qual = true
  kp : PySem.W.keepIn K (.ref f) = true
section
variable {P : Program} {w : World} {K : PySem.W.Frag} {mg : Str → Option Value} {base : Heap}
theorem Fun.binds {x qual : Str} {st : Stmt} {f : Addr} {fd : FuncData} {ps : List Str} (F : Fun K x qual st f fd)
    (h : ∀ (kV doc pm : Value) (an : Option Addr) (cdv ct : Value) (us : List Value), us.length = ps.length → bindArgs (PySem.W.fnOf x qual (defArgs st) (defBody st) (defScope st) .none kV doc pm an cdv ct) ⟨us, []⟩ = pure (ps.zip us)) : Binds K fd ps [] := by
  obtain ⟨oc, od, kV, doc, pm, an, cdv, ct, osl, rfl, lk, hcd⟩ := F.ex
  exact .all (h kV doc pm an cdv ct)
theorem fun_mk {x qual : Str} {st : Stmt} {f : Addr} {oc : Value} {od an : Option Addr} {osl : Array (Option Value)} {kV doc pm cdv ct : Value} (l : K.lookup f = some ⟨oc, od, .func (PySem.W.fnOf x qual (defArgs st) (defBody st) (defScope st) .none kV doc pm an cdv ct), osl⟩)
    (c : PySem.W.codeIn K cdv qual = true) (k : PySem.W.keepIn K (.ref f) = true) : Fun K x qual st f (PySem.W.fnOf x qual (defArgs st) (defBody st) (defScope st) .none kV doc pm an cdv ct) := ⟨⟨oc, od, kV, doc, pm, an, cdv, ct, osl, rfl, l, c⟩, k⟩
end
section
variable {X : Cx}
end
end L2
namespace L2
open PySem PySem.Spec PyProof.Rows
section
variable {κ : Type} [DecidableEq κ]
def valV (kvs : List (κ × V)) (k : κ) : Option V := (kvs.find? fun kv => decide (kv.1 = k)).map (·.2)
def putK (kvs : List (κ × V)) (k : κ) (v : V) : List (κ × V) :=
  if (kvs.any fun kv => decide (kv.1 = k)) = true then kvs.map (fun kv => if kv.1 = k then (kv.1, v) else kv) else kvs ++ [(k, v)]
theorem valV_pos {p : κ × V} {r : List (κ × V)} {k : κ} (e : p.1 = k) : valV (p :: r) k = some p.2 := by simp [valV, List.find?_cons, e]
theorem valV_neg {p : κ × V} {r : List (κ × V)} {k : κ} (e : ¬ p.1 = k) : valV (p :: r) k = valV r k := by simp [valV, List.find?_cons, e]
theorem valV_any (k : κ) : ∀ kvs : List (κ × V), (kvs.any fun kv => decide (kv.1 = k)) = (valV kvs k).isSome
  | [] => rfl
  | p :: r => by
    rw [List.any_cons]
    by_cases e : p.1 = k
    · simp only [valV_pos e, decide_eq_true e, Bool.true_or, Option.isSome_some]
    · rw [valV_neg e, decide_eq_false e, Bool.false_or]; exact valV_any k r
theorem length_putK (kvs : List (κ × V)) (k : κ) (v : V) : (putK kvs k v).length ≤ kvs.length + 1 := by
  unfold putK
  split
  · rw [List.length_map]; omega
  · rw [List.length_append, List.length_cons, List.length_nil]; omega
theorem RelO.isSome_eq {o : Option V} {u : Option Value} (r : RelO o u) : o.isSome = u.isSome := by
  cases o with
  | none => cases u with
    | none => rfl
    | some _ => exact (show False from r).elim
  | some _ => cases u with
    | none => exact (show False from r).elim
    | some _ => rfl
theorem KV.val {kvs : List (κ × V)} {vs : List (κ × Value)} (r : KV kvs vs) (k : κ) : RelO (valV kvs k) (valueAt vs k) := by
  unfold KV at r
  induction r with
  | nil => exact True.intro
  | @cons p q ps qs h t ih =>
    obtain ⟨h1, h2⟩ := h
    by_cases e : p.1 = k
    · have e' : q.1 = k := h1.symm.trans e
      have b : valueAt (q :: qs) k = some q.2 := by simp [valueAt, List.find?_cons, e']
      rw [valV_pos e, b]; exact h2
    · have e' : ¬ q.1 = k := fun z => e (h1.trans z)
      have b : valueAt (q :: qs) k = valueAt qs k := by simp [valueAt, List.find?_cons, e']
      rw [valV_neg e, b]; exact ih
theorem KV.any {kvs : List (κ × V)} {vs : List (κ × Value)} (r : KV kvs vs) (k : κ) : (kvs.any fun kv => decide (kv.1 = k)) = vs.any fun kv => decide (kv.1 = k) := by
  unfold KV at r
  induction r with
  | nil => rfl
  | cons h t ih => rw [List.any_cons, List.any_cons, ih, h.1]
theorem KV.repl {kvs : List (κ × V)} {vs : List (κ × Value)} (r : KV kvs vs) (k : κ) {y : V} {u : Value} (ry : RelV y u) :
    KV (kvs.map fun kv => if kv.1 = k then (kv.1, y) else kv) (vs.map fun kv => if kv.1 = k then (kv.1, u) else kv) := by
  unfold KV at r ⊢
  induction r with
  | nil => exact .nil
  | @cons p q ps qs h t ih =>
    rw [List.map_cons, List.map_cons]
    refine .cons ?_ ih
    obtain ⟨h1, h2⟩ := h
    by_cases e : p.1 = k
    · rw [if_pos e, if_pos (h1.symm.trans e)]; exact ⟨h1, ry⟩
    · rw [if_neg e, if_neg (fun z => e (h1.trans z))]; exact ⟨h1, h2⟩
theorem KV.put {kvs : List (κ × V)} {vs : List (κ × Value)} (r : KV kvs vs) (k : κ) {y : V} {u : Value} (ry : RelV y u) : KV (putK kvs k y) (stored vs k u) := by
  unfold putK stored
  rw [r.any k]
  by_cases e : (vs.any fun kv => decide (kv.1 = k)) = true
  · rw [if_pos e, if_pos e]; exact r.repl k ry
  · rw [if_neg e, if_neg e]; exact Paired.snoc r ⟨rfl, ry⟩
theorem KV.length {kvs : List (κ × V)} {vs : List (κ × Value)} (r : KV kvs vs) : kvs.length = vs.length := Paired.length r
end
theorem kV_is {P : Program} {w : World} {k : Key} {u : Value} (r : RelV (kV k) u) : (mixKind P w).is k u = true := by
  cases k with
  | inl i => obtain ⟨t, e⟩ := (show ∃ t, u = Value.int i t from r); subst e; exact mixKind_int P w i t
  | inr x => obtain ⟨t, e⟩ := (show ∃ t, u = Value.str x t from r); subst e; exact mixKind_str P w x t
theorem items_are {P : Program} {w : World} : ∀ {ks : List Key} {us : List Value}, Vals (ks.map kV) us → ItemsAre (mixKind P w) ks us
  | [], _, r => by rw [List.map_nil] at r; cases r; exact .nil
  | k :: ks, _, r => by
    rw [List.map_cons] at r
    cases r with
    | cons h t => exact .cons (kV_is h) (items_are t)
abbrev KT (H : Hp) : List (List Key × V) → List (List Key × Addr × Value) → Prop := Paired fun p q => p.1 = q.1 ∧ H q.2.1 = some (.tup (p.1.map kV)) ∧ RelV p.2 q.2.2
theorem KT.val {H : Hp} {kvs : List (List Key × V)} {xs : List (List Key × Addr × Value)} (r : KT H kvs xs) (k : List Key) : RelO (valV kvs k) ((atKey xs k).map (·.2)) := by
  induction r with
  | nil => exact True.intro
  | @cons p q ps qs h t ih =>
    obtain ⟨h1, _, h2⟩ := h
    by_cases e : p.1 = k
    · have e' : q.1 = k := h1.symm.trans e
      have b : atKey (q :: qs) k = some q.2 := by simp [atKey, List.find?_cons, e']
      rw [valV_pos e, b]; exact h2
    · have e' : ¬ q.1 = k := fun z => e (h1.trans z)
      have b : atKey (q :: qs) k = atKey qs k := by simp [atKey, List.find?_cons, e']
      rw [valV_neg e, b]; exact ih
theorem KT.repl {H : Hp} {kvs : List (List Key × V)} {xs : List (List Key × Addr × Value)} (r : KT H kvs xs) (k : List Key) {y : V} {u : Value} (ry : RelV y u) :
    KT H (kvs.map fun kv => if kv.1 = k then (kv.1, y) else kv) (xs.map (putAt k u)) := by
  induction r with
  | nil => exact .nil
  | @cons p q ps qs h t ih =>
    rw [List.map_cons, List.map_cons]
    refine .cons ?_ ih
    obtain ⟨h1, h2, h3⟩ := h
    unfold putAt
    by_cases e : p.1 = k
    · rw [if_pos e, if_pos (h1.symm.trans e)]; exact ⟨h1, h2, ry⟩
    · rw [if_neg e, if_neg (fun z => e (h1.trans z))]; exact ⟨h1, h2, h3⟩
theorem KT.put {H : Hp} {kvs : List (List Key × V)} {xs : List (List Key × Addr × Value)} (r : KT H kvs xs) (k : List Key) {b : Addr} {y : V} {u : Value} (hb : H b = some (.tup (k.map kV))) (ry : RelV y u) :
    KT H (putK kvs k y) (storedH xs k b u) := by
  have e : (kvs.any fun kv => decide (kv.1 = k)) = (atKey xs k).isSome := by
    rw [valV_any, (r.val k).isSome_eq, Option.isSome_map]
  unfold putK storedH
  rw [e]
  by_cases q : (atKey xs k).isSome = true
  · rw [if_pos q, if_pos q]; exact r.repl k ry
  · rw [if_neg q, if_neg q]; exact Paired.snoc r ⟨rfl, hb, ry⟩
theorem KT.keeps {H H' : Hp} {kvs : List (List Key × V)} {xs : List (List Key × Addr × Value)} (r : KT H kvs xs) (ht : ∀ b ys, H b = some (.tup ys) → H' b = some (.tup ys)) : KT H' kvs xs :=
  Paired.mapP r fun _ _ z => ⟨z.1, ht _ _ z.2.1, z.2.2⟩
section
variable {P : Program} {w : World} {H : Hp} {h : Heap} {a : Addr}
theorem rd_of {u : HO} (ok : HOk P w H h) (e : Rd H a u) : ObjOk P w H h a u := e.ok ok
theorem dk_rd {kvs : List (Key × V)} (ok : HOk P w H h) (e : Rd H a (.dK kvs)) : kvs.length ≤ sizeLine ∧ (a == sysModules) = false ∧ ∃ vs, KV kvs vs ∧ h.DictOf (mixKind P w) a vs :=
  show ObjOk P w H h a (.dK kvs) from rd_of ok e
theorem dk_of {kvs : List (Key × V)} (ok : HOk P w H h) (e : H a = some (.dK kvs)) : kvs.length ≤ sizeLine ∧ (a == sysModules) = false ∧ ∃ vs, KV kvs vs ∧ h.DictOf (mixKind P w) a vs := dk_rd ok (.inl e)
theorem key_of {ks : List Key} (ok : HOk P w H h) (e : H a = some (.tup (ks.map kV))) : (tupleKind (mixKind P w)).is h ks a := by
  obtain ⟨_, its, r, ⟨o, h1, h2, n, h3⟩, _⟩ := (show ObjOk P w H h a (.tup (ks.map kV)) from ok a _ e)
  exact ⟨o, its.toArray, n, h1, h2, h3, by simpa using items_are r⟩
theorem dt_rd {kvs : List (List Key × V)} (ok : HOk P w H h) (e : Rd H a (.dT kvs)) : kvs.length ≤ sizeLine ∧ (a == sysModules) = false ∧
    ∃ xs, KT H kvs xs ∧ h.DictOfH (tupleKind (mixKind P w)) a xs := by
  obtain ⟨z, y, xs, r, o, es, ep, h1, h2, h3, h4, h5⟩ := (show ObjOk P w H h a (.dT kvs) from rd_of ok e)
  refine ⟨z, y, xs, r, o, es, ep, h1, h2, h3, h4, fun x hx => ?_, h5⟩
  have all : ∀ {l : List (List Key × V)} {m : List (List Key × Addr × Value)}, KT H l m → ∀ x ∈ m, (tupleKind (mixKind P w)).is h x.1 x.2.1 := by
    intro l m q
    induction q with
    | nil => intro x hx; exact nomatch hx
    | @cons p q ps qs hq t ih =>
      intro x hx
      rcases List.mem_cons.mp hx with e | hx
      · subst e
        exact key_of ok (by rw [← hq.1]; exact hq.2.1)
      · exact ih x hx
  exact all r x hx
theorem dt_of {kvs : List (List Key × V)} (ok : HOk P w H h) (e : H a = some (.dT kvs)) : kvs.length ≤ sizeLine ∧ (a == sysModules) = false ∧
    ∃ xs, KT H kvs xs ∧ h.DictOfH (tupleKind (mixKind P w)) a xs := dt_rd ok (.inl e)
end
def DGet (H : Hp) (a : Addr) (y : V) (r : Option V) : Prop :=
  (∃ kvs k, Rd H a (.dK kvs) ∧ y = kV k ∧ r = valV kvs k) ∨ ∃ kvs k b, Rd H a (.dT kvs) ∧ y = .ref b ∧ H b = some (.tup (k.map kV)) ∧ r = valV kvs k
def DPut (H : Hp) (a : Addr) (y v : V) (H' : Hp) : Prop :=
  (∃ kvs k, H a = some (.dK kvs) ∧ y = kV k ∧ kvs.length < sizeLine ∧ H' = upd H a (.dK (putK kvs k v))) ∨
  ∃ kvs k b, H a = some (.dT kvs) ∧ y = .ref b ∧ H b = some (.tup (k.map kV)) ∧ kvs.length < sizeLine ∧ H' = upd H a (.dT (putK kvs k v))
theorem DGet.k {H : Hp} {a : Addr} {kvs : List (Key × V)} {k : Key} (e : H a = some (.dK kvs)) : DGet H a (kV k) (valV kvs k) := .inl ⟨kvs, k, .inl e, rfl, rfl⟩
theorem DGet.t {H : Hp} {a b : Addr} {kvs : List (List Key × V)} {k : List Key} (e : H a = some (.dT kvs)) (eb : H b = some (.tup (k.map kV))) : DGet H a (.ref b) (valV kvs k) := .inr ⟨kvs, k, b, .inl e, rfl, eb, rfl⟩
theorem DPut.k {H : Hp} {a : Addr} {kvs : List (Key × V)} {k : Key} {v : V} (e : H a = some (.dK kvs)) (hl : kvs.length < sizeLine) : DPut H a (kV k) v (upd H a (.dK (putK kvs k v))) := .inl ⟨kvs, k, e, rfl, hl, rfl⟩
theorem DPut.t {H : Hp} {a b : Addr} {kvs : List (List Key × V)} {k : List Key} {v : V} (e : H a = some (.dT kvs)) (eb : H b = some (.tup (k.map kV))) (hl : kvs.length < sizeLine) :
    DPut H a (.ref b) v (upd H a (.dT (putK kvs k v))) := .inr ⟨kvs, k, b, e, rfl, eb, hl, rfl⟩
section
variable {X : Cx} {pins : List (Addr × Obj)} {σ : St} {H : Hp} {s : Shared} {a : Addr} {y v : V} {u r : Value} {o : Option V} {A : Around} {E : Value → Shared → Prop}
theorem Inv.big (I : Inv X pins σ H s) : sysModules < s.heap.objs.size := by
  have h : mainGlobals < s.heap.objs.size := (I.mod.glob.keeps I.bk).lt
  exact Nat.lt_trans (by decide) h
theorem d_getItem {Q : Value → Shared → Prop} (hu : A.units + 1 < cLine) (I : Inv X pins σ H s) (g : DGet H a y (some v)) (ry : RelV y u) (h : ∀ w' s', Inv X pins σ H s' → RelV v w' → Q w' s') :
    wpAny (model X.prog X.w) A (getItem (.ref a) u) Q E s := by
  rcases g with ⟨kvs, k, e, ey, l⟩ | ⟨kvs, k, b, e, ey, eb, l⟩
  · subst ey
    obtain ⟨z, hd, vs, rel, dd⟩ := dk_rd I.hok e
    obtain ⟨w', hw, rw'⟩ := RelO.some_of (v := v) (o := valueAt vs k) (by rw [l]; exact rel.val k)
    exact wpAny_getItem_of (kV_is ry) dd.mapOf hw (h w' _ (I.tok _) rw')
  · subst ey
    cases (show u = Value.ref b from ry)
    obtain ⟨z, hd, xs, rel, dd⟩ := dt_rd I.hok e
    obtain ⟨w', hw, rw'⟩ := RelO.some_of (v := v) (o := (atKey xs k).map (·.2)) (by rw [l]; exact rel.val k)
    obtain ⟨p, hp, hp2⟩ := Option.map_eq_some_iff.mp hw
    refine wpAny_getItem_heap (tupleKind_room_in1 hu) (key_of I.hok eb) dd hp ?_
    rw [hp2]
    exact h w' _ (I.tok _) rw'
theorem d_write {h' : Heap} {t' : Nat} {ob : HO} (I : Inv X pins σ H s) (mu : Mut (H a)) (hs : Heap.SameBut a s.heap h') (he : ∃ q, h'.get? a = some q) (new : ObjOk X.prog X.w (upd H a ob) h' a ob) :
    Inv X pins σ (upd H a ob) { s with heap := h', toks := t' } :=
  I.write (x := a) (e := a) mu (.inl rfl) (fun b q hb z => (hs.2 b hb).trans z) he new
theorem dk_new {P : Program} {w : World} {H' : Hp} {h' : Heap} {kvs : List (Key × V)} {vs : List (Key × Value)} (z : kvs.length ≤ sizeLine) (hd : (a == sysModules) = false) (rel : KV kvs vs) (dd : h'.DictOf (mixKind P w) a vs) :
    ObjOk P w H' h' a (.dK kvs) := ⟨z, hd, vs, rel, dd⟩
theorem d_setItem {H' : Hp} {Q : Unit → Shared → Prop} (hu : A.units + 1 < cLine) (I : Inv X pins σ H s) (g : DPut H a y v H') (ry : RelV y u) (rv : RelV v r) (h : ∀ s', Inv X pins σ H' s' → Q () s') :
    wpAny (model X.prog X.w) A (setItem (.ref a) u r) Q E s := by
  rcases g with ⟨kvs, k, e, ey, l, eH⟩ | ⟨kvs, k, b, e, ey, eb, l, eH⟩
  · subst ey eH
    obtain ⟨z, hd, vs, rel, dd⟩ := dk_of I.hok e
    have hz : vs.length ≤ sizeLine := by rw [← rel.length]; exact z
    have hl : (putK kvs k v).length ≤ sizeLine := by have := length_putK kvs k v; omega
    refine wpAny_setItem_pairs (hsz := hz) (kV_is ry) dd fun h' dd' hs => h _ ?_
    have he : ∃ q, h'.get? a = some q := let ⟨q, _, _, hq, _⟩ := dd'; ⟨q, hq⟩
    exact d_write I (by rw [e]; exact True.intro) hs he (dk_new hl hd (rel.put k rv) dd')
  · subst ey eH
    cases (show u = Value.ref b from ry)
    obtain ⟨z, hd, xs, rel, dd⟩ := dt_of I.hok e
    have hz : xs.length ≤ sizeLine := by rw [← Paired.length rel]; exact z
    have hl : (putK kvs k v).length ≤ sizeLine := by have := length_putK kvs k v; omega
    refine wpAny_setItem_heap (hsz := hz) (tupleKind_room_in1 hu) (key_of I.hok eb) dd fun h' dd' hs => h _ ?_
    obtain ⟨q, es, ep, hq, h2, h3, h4, _, h5⟩ := dd'
    refine d_write I (by rw [e]; exact True.intro) hs ⟨q, hq⟩ ⟨hl, hd, _, (rel.put k eb rv).keeps fun c ys ec => ?_, q, es, ep, hq, h2, h3, h4, h5⟩
    rw [upd_ne (ne_of ec e (fun z => nomatch z))]
    exact ec
end
section
variable {X : Cx} {pins : List (Addr × Obj)} {σ : St} {H : Hp} {s : Shared} {a : Addr} {kvs : List (Key × V)} {k : Key} {u : Value} {A : Around} {E : Value → Shared → Prop}
end
def NoSl (i : Expr) : Prop := ∀ ov iv, subscripted i false ov iv = operate [ov, iv] (getItem ov iv)
theorem subD_of {prog : Program} {w : World} {A : Around} {E : Value → Shared → Prop} {s : Shared} {env : Env} {value slice : Expr} {pos : Pos} {T id : String} {Q : Value → Shared → Prop}
    (hl : typeLookup (.type T) "__getitem__" = pure (some (.builtin id))) (hs : NoSl slice)
    (h : wpAny (model prog w) A (eval value env) (fun o s₁ => wpAny (model prog w) A (eval slice env) (fun i s₂ => s₂.TypeIs o T ∧ wpAny (model prog w) A (getItem o i) Q E s₂) E s₁) E s) :
    wpAny (model prog w) A (eval (.Subscript value slice pos) env) Q E s := by
  refine Subscript_ (wpAny_mono h (fun o s₁ h₁ => wpAny_mono h₁ (fun i s₂ h₂ => ?_) fun _ _ x => x) fun _ _ x => x)
  obtain ⟨hT, h₂⟩ := h₂
  unfold subscriptTail
  refine wpAny_bind ?_
  rw [getitemInPython_of_ne hT.not_modules]
  refine wpAny_bind (wpAny_specialOf hT hl ?_)
  have fin : wpAny (model prog w) A (subscripted slice false o i) (fun r s₃ => wpAny (model prog w) A (letTemporaryGo value o r >>= fun _ => pure r) Q E s₃) E s₂ := by
    rw [hs o i]
    exact wpAny_operating (wpAny_mono h₂ (fun r s₃ h₃ => wpAny_bind (wpAny_letTemporaryGo (wpAny_pure h₃))) fun _ _ x => x)
  first
    | exact wpAny_pure (wpAny_bind fin)
    | exact wpAny_bind (wpAny_pure (wpAny_bind fin))
    | exact wpAny_bind fin
theorem dict_typeIs {X : Cx} {pins : List (Addr × Obj)} {σ : St} {H : Hp} {s : Shared} {a : Addr} {y : V} {o : Option V} (I : Inv X pins σ H s) (g : DGet H a y o) : s.TypeIs (.ref a) "dict" := by
  rcases g with ⟨kvs, k, e, _, _⟩ | ⟨kvs, k, b, e, _, _, _⟩
  · obtain ⟨_, _, vs, _, dd⟩ := dk_rd I.hok e
    exact dd.typeIs
  · obtain ⟨_, _, xs, _, dd⟩ := dt_rd I.hok e
    exact dd.typeIs
def tDGet (td ty : TE) : TE := fun σ H Q => td σ H fun x H1 => ty σ H1 fun y H2 => ∃ a v, x = .ref a ∧ DGet H2 a y (some v) ∧ Q v H2
def sDPut (td ty tv : TE) : TS := fun D σ H => tv σ H fun v H1 => td σ H1 fun x H2 => ty σ H2 fun y H3 => ∃ a H4, x = .ref a ∧ DPut H3 a y v H4 ∧ D.nx σ H4
section
variable {X : Cx} {o i e value : Expr} {pos pos' tpos : Pos} {td ty tv : TE}
theorem pe_dget (hu : X.A.units + 1 < cLine) (ho : PE X o td) (hi : PE X i ty) (hs : NoSl i) : PE X (.Subscript o i pos) (tDGet td ty) := by
  intro pins s σ H Q I h
  refine subD_of PySem.F.slot_dict_getitem.lookup hs (thn (ho pins s σ H _ I h) fun u s1 ⟨x, H1, I1, rx, q1⟩ => thn (hi pins s1 σ H1 _ I1 q1) fun iv s2 ⟨y, H2, I2, ry, a, v, ex, g, q2⟩ => ?_)
  subst ex
  obtain rfl : u = Value.ref a := rx
  exact ⟨dict_typeIs I2 g, d_getItem hu I2 g ry fun w' s3 I3 rw' => ⟨v, H2, I3, rw', q2⟩⟩
theorem ps_dput (hu : X.A.units + 1 < cLine) (ho : PE X o td) (hi : PE X i ty) (hv : PE X value tv) (hs : swapsWith value (some (.Subscript o i pos')) pos.line X.env = pure false) :
    PS X (.Assign [.Subscript o i pos'] value pos) (sDPut td ty tv) := by
  intro pins s σ H D I h
  refine wpAny_Assign_Subscript (thn (hv pins s σ H _ I h) fun r s1 ⟨v, H1, I1, rv, q1⟩ => thn (ho pins s1 σ H1 _ I1 q1) fun u s2 ⟨x, H2, I2, rx, q2⟩ => thn (hi pins s2 σ H2 _ I2 q2) fun iv s3 ⟨y, H3, I3, ry, a, H4, ex, g, q3⟩ => ?_) hs
  subst ex
  obtain rfl : u = Value.ref a := rx
  exact d_setItem hu I3 g ry rv fun s4 I4 => ⟨σ, H4, I4, q3⟩
end
theorem dk_empty {P : Program} {w : World} {H : Hp} (h : Heap) (hb : sysModules < h.objs.size) : ObjOk P w H (h.push { cls := .type "dict", data := .dict #[] }) h.objs.size (.dK []) :=
  ⟨Nat.zero_le _, beq_eq_false_iff_ne.mpr (Ne.symm (Nat.ne_of_lt hb)), [], .nil, Heap.DictOf.new h⟩
theorem dt_empty {P : Program} {w : World} {H : Hp} (h : Heap) (hb : sysModules < h.objs.size) : ObjOk P w H (h.push { cls := .type "dict", data := .dict #[] }) h.objs.size (.dT []) :=
  ⟨Nat.zero_le _, beq_eq_false_iff_ne.mpr (Ne.symm (Nat.ne_of_lt hb)), [], .nil, _, #[], 0, Heap.get?_push_size _ rfl, ⟨rfl, rfl, rfl⟩, rfl, rfl, List.nodup_nil⟩
def tDNewK : TE := fun _ H Q => ∀ p, H p = none → Q (.ref p) (upd H p (.dK []))
def tDNewT : TE := fun _ H Q => ∀ p, H p = none → Q (.ref p) (upd H p (.dT []))
section
variable {X : Cx} {pos : Pos}
theorem pe_dnewK : PE X (.Dict [] [] pos) tDNewK := fun pins s σ H Q I h =>
  wpAny_Dict_empty ⟨.ref s.heap.objs.size, _, I.laid (a := s.heap.objs.size) (o := .dK []) (t' := s.toks) (fun _ _ q => Heap.get?_push_of_some _ q) (Nat.le_refl _) (dk_empty s.heap I.big), rfl, h _ (I.hok.fresh (Nat.le_refl _))⟩
theorem pe_dnewT : PE X (.Dict [] [] pos) tDNewT := fun pins s σ H Q I h =>
  wpAny_Dict_empty ⟨.ref s.heap.objs.size, _, I.laid (a := s.heap.objs.size) (o := .dT []) (t' := s.toks) (fun _ _ q => Heap.get?_push_of_some _ q) (Nat.le_refl _) (dt_empty s.heap I.big), rfl, h _ (I.hok.fresh (Nat.le_refl _))⟩
end
def tPairs : List (TE × TE) → St → Hp → (List (V × V) → Hp → Prop) → Prop
  | [], _, H, Q => Q [] H
  | (tk, tv) :: r, σ, H, Q => tk σ H fun x H1 => tv σ H1 fun y H2 => tPairs r σ H2 fun ps H3 => Q ((x, y) :: ps) H3
abbrev VV : List (V × V) → List (Value × Value) → Prop := Paired fun p q => RelV p.1 q.1 ∧ RelV p.2 q.2
def PPs (X : Cx) (pos : Pos) (keys : List (Option Expr)) (values : List Expr) (trs : List (TE × TE)) : Prop :=
  ∀ (pins : List (Addr × Obj)) (s : Shared) (σ : St) (H : Hp) (Q : List (V × V) → Hp → Prop), Inv X pins σ H s → tPairs trs σ H Q →
    wpAny (model X.prog X.w) X.A (evalPairs (pairTrees keys values X.env pos)) (fun vs s' => ∃ ps H', Inv X pins σ H' s' ∧ VV ps vs ∧ Q ps H') X.xe s
theorem pps_nil {X : Cx} {pos : Pos} : PPs X pos [] [] [] := fun pins s σ H Q I h => pairTrees_nil_walk ⟨[], H, I, .nil, h⟩
theorem pps_cons {X : Cx} {pos : Pos} {k v : Expr} {ks : List (Option Expr)} {vs : List Expr} {tk tv : TE} {trs : List (TE × TE)} (hk : PE X k tk) (hv : PE X v tv) (hr : PPs X pos ks vs trs) :
    PPs X pos (some k :: ks) (v :: vs) ((tk, tv) :: trs) := fun pins s σ H Q I h =>
  pairTrees_cons_walk (thn (hk pins s σ H _ I h) fun u s1 ⟨x, H1, I1, rx, q1⟩ => thn (hv pins s1 σ H1 _ I1 q1) fun w2 s2 ⟨y, H2, I2, ry, q2⟩ =>
    thn (hr pins s2 σ H2 _ I2 q2) fun ws s3 ⟨ps, H3, I3, rel, q3⟩ => ⟨(x, y) :: ps, H3, I3, .cons ⟨rx, ry⟩ rel, q3⟩)
def mergeK (kvs more : List (Key × V)) : List (Key × V) := more.foldl (fun acc kv => putK acc kv.1 kv.2) kvs
theorem KV.merge : ∀ {more : List (Key × V)} {rs : List (Key × Value)} {kvs : List (Key × V)} {vs : List (Key × Value)}, KV more rs → KV kvs vs → KV (mergeK kvs more) (merged vs rs) := by
  intro more rs kvs vs r
  unfold KV at r
  induction r generalizing kvs vs with
  | nil => intro q; exact q
  | @cons p q ps qs h t ih =>
    intro r0
    have e : KV (putK kvs p.1 p.2) (stored vs q.1 q.2) := by
      have := r0.put p.1 h.2
      rw [← h.1]; exact this
    exact ih e
theorem length_mergeK : ∀ (more kvs : List (Key × V)), (mergeK kvs more).length ≤ kvs.length + more.length
  | [], kvs => by show kvs.length ≤ kvs.length + 0; omega
  | p :: r, kvs => by
    have h1 := length_mergeK r (putK kvs p.1 p.2)
    have h2 := length_putK kvs p.1 p.2
    show (mergeK (putK kvs p.1 p.2) r).length ≤ _
    rw [List.length_cons]; omega
theorem carries_of {P : Program} {w : World} : ∀ {kvs : List (Key × V)} {ws : List (Value × Value)}, VV (kvs.map fun kv => (kV kv.1, kv.2)) ws → ∃ rs, Carries (mixKind P w) ws rs ∧ KV kvs rs
  | [], _, r => by rw [List.map_nil] at r; cases r; exact ⟨[], True.intro, .nil⟩
  | p :: kvs, _, r => by
    rw [List.map_cons] at r
    cases r with
    | @cons a b as bs h t =>
      obtain ⟨rs, c, q⟩ := carries_of (P := P) (w := w) t
      obtain ⟨b1, b2⟩ := b
      exact ⟨(p.1, b2) :: rs, ⟨kV_is h.1, rfl, c⟩, .cons ⟨rfl, h.2⟩ q⟩
def tDisp (trs : List (TE × TE)) : TE := fun σ H Q => ∀ p, H p = none → tPairs trs σ (upd H p (.dK [])) fun ps H2 => H2 p = some (.dK []) ∧ ∃ kvs : List (Key × V), ps = kvs.map (fun kv => (kV kv.1, kv.2)) ∧ kvs.length ≤ 15 ∧ Q (.ref p) (upd H2 p (.dK (mergeK [] kvs)))
theorem pe_disp {X : Cx} {pos : Pos} {keys : List (Option Expr)} {values : List Expr} {trs : List (TE × TE)} (h : PPs X pos keys values trs) (hall : keys.all (·.isSome) = true) (hl : keys.length = values.length) (h0 : keys ≠ [])
    (h15 : keys.length ≤ 15) : PE X (.Dict keys values pos) (tDisp trs) := by
  intro pins s σ H Q I q
  have hn := I.hok.fresh (Nat.le_refl s.heap.objs.size)
  have I1 := I.laid (a := s.heap.objs.size) (o := .dK []) (h' := s.heap.push { cls := .type "dict", data := .dict #[] }) (t' := s.toks) (fun _ _ q => Heap.get?_push_of_some _ q) (Nat.le_refl _) (dk_empty s.heap I.big)
  refine wpAny_Dict_walk (knd := mixKind X.prog X.w) hall hl h0 h15 (thn (h pins _ σ _ _ I1 (q _ hn)) fun ws s2 ⟨ps, H2, I2, rel, e, kvs, ep, lk, q2⟩ => ?_)
  subst ep
  obtain ⟨rs, c, rk⟩ := carries_of (P := X.prog) (w := X.w) rel
  obtain ⟨z, hd, vs0, r0, dd⟩ := dk_of I2.hok e
  cases r0
  refine ⟨rs, c, dd, fun h' dd' hs => ⟨.ref s.heap.objs.size, _, ?_, rfl, q2⟩⟩
  have hz : (mergeK [] kvs).length ≤ sizeLine := by
    have h1 := length_mergeK kvs []
    rw [List.length_nil] at h1
    rw [sizeLine_eq]; omega
  have he : ∃ q, h'.get? s.heap.objs.size = some q := let ⟨q, _, _, hq, _⟩ := dd'; ⟨q, hq⟩
  exact d_write I2 (by rw [e]; exact True.intro) hs he (dk_new hz hd (rk.merge .nil) dd')
structure M1 (X : Cx) (o : Expr) (m : Str) (apos : Pos) (e : Expr) (cpos : Pos) : Prop where
  base : attributeBase o m X.env (eval o X.env) = eval o X.env
  few : ((backTo cpos (starEach [e] X.env)).all (fun x => !x.1) && (backToKw cpos (keywordEach [] X.env)).all (fun x => x.1.isSome)
    && decide (([e] : List Expr).length + ([] : List Keyword).length + (if ([] : List Keyword).isEmpty then 0 else 1) < 30)) = true
  line : (apos.endLine == cpos.line) = true
  trees : backTo cpos (starEach [e] X.env) = [(false, eval e X.env)]
structure M2 (X : Cx) (o : Expr) (m : Str) (apos : Pos) (e f : Expr) (cpos : Pos) : Prop where
  base : attributeBase o m X.env (eval o X.env) = eval o X.env
  few : ((backTo cpos (starEach [e, f] X.env)).all (fun x => !x.1) && (backToKw cpos (keywordEach [] X.env)).all (fun x => x.1.isSome)
    && decide (([e, f] : List Expr).length + ([] : List Keyword).length + (if ([] : List Keyword).isEmpty then 0 else 1) < 30)) = true
  line : (apos.endLine == cpos.line) = true
  trees : backTo cpos (starEach [e, f] X.env) = [(false, eval e X.env), (false, eval f X.env)]
section
variable {X : Cx} {pins : List (Addr × Obj)} {σ : St} {H : Hp} {s : Shared} {a : Addr} {y d : V} {u r : Value} {o : Option V} {A : Around} {E : Value → Shared → Prop}
end
section
variable {X : Cx} {o e f : Expr} {apos cpos : Pos} {td ty tx : TE}
end
section
variable {X : Cx} {pins : List (Addr × Obj)} {σ : St} {H : Hp} {s : Shared} {a : Addr} {kvs : List (Key × V)} {A : Around} {E : Value → Shared → Prop}
end
section
variable {X : Cx} {pins : List (Addr × Obj)} {σ : St} {H : Hp} {s : Shared} {a : Addr} {y : V} {u : Value} {A : Around} {E : Value → Shared → Prop}
end
end L2
namespace Att
open PySem PySem.W PySem.Calls PyProof.Rows
end Att
namespace L2
open PySem PySem.Spec PyProof.Rows
section
variable {X : Cx}
end
section
variable {κ : Type} [DecidableEq κ]
end
end L2
set_option maxHeartbeats 4000000
namespace J
open PySem PySem.Spec PyProof.Rows L2
def TrX (h base : Heap) (e : Addr) (cls a0 fl : Value) : Prop :=
  ∃ ox us T ot ws, h.get? e = some ox ∧ (ox.cls = cls ∧ us[2]? = some Value.none) ∧ ox.data = .fields us ∧ us[1]? = some (.ref T) ∧ base.get? T = none ∧ T ≠ e ∧ h.get? T = some ot ∧ ot.data = .fields ws ∧ ws[3]? = some fl
abbrev MetX (base : Heap) (l : List Env) (e : Addr) (cls a0 fl : Value) (h : Heap) : Prop := base.StaysIn h ∧ base.get? e = none ∧ h.FunFrames base l ∧ TrX h base e cls a0 fl
def HeldX (base : Heap) (l : List Env) (e : Addr) (cls a0 : Value) (L : Addr) (h : Heap) : Prop := MetX base l e cls a0 (rawInt L) h
def FlyX (base : Heap) (l : List Env) (e : Addr) (cls a0 : Value) (h : Heap) : Prop := MetX base l e cls a0 .none h
theorem FlyX.first {base h : Heap} {l : List Env} {e : Addr} {cls a0 : Value} (x : FlyX base l e cls a0 h) : ∃ ox us, h.get? e = some ox ∧ ox.cls = cls ∧ ox.data = .fields us ∧ us[2]? = some Value.none :=
  let ⟨_, _, _, ox, us, _, _, _, g1, g2, g3, _⟩ := x; ⟨ox, us, g1, g2.1, g3, g2.2⟩
section
variable {M : Model} {A : Around} {E : Value → Shared → Prop} {s : Shared} {base : Heap} {env : Env} {outer l : List Env} {L e : Addr} {cls a0 nt : Value} {Q : Unit → Shared → Prop}
theorem entry_heap {h h1 : Heap} {S : List Addr} {ox ob : Obj} {us ws : Array Value} (so : Heap.SlotsOnly S h h1) (hS : S = l.filterMap (·.frame)) (fs : h.FunFrames base l) (g1 : h.get? e = some ox) (g3 : ox.data = .fields us) (st : base.StaysIn h) (ne : base.get? e = none) (sz : 1 < us.size) (g2 : us[2]? = some Value.none)
    (d : ob.data = .fields ws) (w3 : ws[3]? = some nt) (nf : ob.isFreed = false) :
    MetX base l e ox.cls a0 nt ((h1.push ob).update e (Obj.mapFields (·.setIfInBounds 1 (.ref h1.objs.size)))) ∧ h.UpToSlots ((h1.push ob).update e (Obj.mapFields (·.setIfInBounds 1 (.ref h1.objs.size)))) := by
  have nS : e ∉ S := fun z => by
    rw [hS] at z
    obtain ⟨_, o2, q2, d2⟩ := fs.mem z
    rw [g1] at q2
    cases q2
    exact d2 us g3
  have q1 : h1.get? e = some ox := (so.2.1 e nS).trans g1
  have lt : e ≠ h1.objs.size := Nat.ne_of_lt (Heap.lt_size q1)
  have oth : ∀ b o, b ≠ e → h1.get? b = some o → ((h1.push ob).update e (Obj.mapFields (·.setIfInBounds 1 (.ref h1.objs.size)))).get? b = some o := fun b o n q => (Heap.get?_update_other _ _ (Ne.symm n)).trans (Heap.get?_push_of_some _ q)
  have up : h.UpToSlots ((h1.push ob).update e (Obj.mapFields (·.setIfInBounds 1 (.ref h1.objs.size)))) := fun b o q n => by
    obtain ⟨sl, q2⟩ := so.2.2 b o q
    exact ⟨sl, oth b _ (fun z => by rw [z, g1] at q; cases q; exact n us g3) q2⟩
  have stay : base.StaysIn h1 := fun b o q => (so.2.1 b fun z => by
    rw [hS] at z
    rw [(fs.mem z).1] at q
    cases q).trans (st b o q)
  have fresh : base.get? h1.objs.size = none := by
    cases z : base.get? h1.objs.size with
    | none => rfl
    | some o => exact absurd (Heap.lt_size (stay _ _ z)) (Nat.lt_irrefl _)
  have d1 := Obj.data_mapFields g3 (·.setIfInBounds 1 (Value.ref h1.objs.size))
  refine ⟨⟨fun b o q => oth b o (fun z => by rw [z, ne] at q; cases q) (stay b o q), ne, fs.of_keeps fun b o q n => ?_, _, _, h1.objs.size, ob, ws, Heap.get?_update_self _ (Heap.get?_push_of_some _ q1) (Obj.isFreed_of_fields d1), ⟨Obj.cls_mapFields _ _, ?_⟩, d1, by simp [sz], fresh, Ne.symm lt, ?_, d, w3⟩, up⟩
  · obtain ⟨sl, q2⟩ := up b o q n
    exact ⟨_, q2, rfl⟩
  · rw [Array.getElem?_setIfInBounds_ne (by decide)]; exact g2
  · exact (Heap.get?_update_other _ _ lt).trans (Heap.get?_push_size _ nf)
theorem entryX {ox : Obj} {us : Array Value} {head : Value} {had : Bool} (hfr : A.frames = some (env :: outer)) (fs : s.heap.FunFrames base (env :: outer)) (hf : env.frame = some L) (g1 : s.heap.get? e = some ox) (st : base.StaysIn s.heap) (ne : base.get? e = none) (g3 : ox.data = .fields us) (sz : 1 < us.size) (g2 : us[2]? = some Value.none)
    (k : ∀ h', HeldX base (env :: outer) e ox.cls a0 L h' → s.heap.UpToSlots h' → Q () { s with heap := h' }) :
    wpAny M A (do let a ← frameOf env; let pl ← entryPlaceOf L had; let b ← EntryCells.newEntry head a .none (rawInt L) .none pl; setField (.ref e) 1 b) Q E s := by
  refine wpAny_bind (wpAny_frameOf_fun hfr fs hf fun h1 so => wpAny_bind (wpAny_entryPlaceOf fun pl pp => ?_))
  have nS : e ∉ (env :: outer).filterMap (·.frame) := fun z => by
    obtain ⟨_, o2, q2, d2⟩ := fs.mem z
    rw [g1] at q2
    cases q2
    exact d2 us g3
  have q1 : h1.get? e = some ox := (so.2.1 e nS).trans g1
  simp only [EntryCells.newEntry, newFields]
  refine wpAny_bind (wpAny_newObj_type (wpAny_setField (Heap.get?_push_of_some _ q1) g3 sz ?_) (pp.sizeOk5 _ _ _ _ _))
  obtain ⟨m, up⟩ := entry_heap (a0 := a0) (nt := rawInt L) so rfl fs g1 g3 st ne sz g2 (ob := { cls := .type "traceback", dict := none, data := .fields ([head, .ref L, .none, rawInt L, .none] ++ (if pl.isEmpty then List.replicate 6 Value.none else pl)).toArray }) rfl (by first | (simp; done) | (rcases pp with rfl | ⟨_, _, _, _, _, _, _, rfl⟩ <;> simp)) rfl
  exact k _ m up
theorem againX (hf : env.frame = some L) (x : TrX s.heap base e cls a0 (rawInt L)) (k : Q () s) : wpAny M A (noteFrame (.ref e) env) Q E s := by
  obtain ⟨ox, us, T, ot, ws, g1, g2, g3, g4, g5, g6, g7, g8, g9⟩ := x
  unfold noteFrame
  simp only [hf]
  refine wpAny_bind (wpAny_field g1 g3 g4 ?_)
  rw [if_pos (by simp)]
  refine wpAny_bind (wpAny_field g7 g8 g9 ?_)
  rw [if_pos (by simp)]
  exact wpAny_pure k
theorem landX (x : MetX base l e cls a0 nt s.heap) (k : ∀ h', FlyX base l e cls a0 h' → s.heap.UpToSlots h' → Q () { s with heap := h' }) : wpAny M A (setFlight (.ref e) none) Q E s := by
  obtain ⟨x1, x2, x3, ox, us, T, ot, ws, g1, g2, g3, g4, g5, g6, g7, g8, g9⟩ := x
  have sz : 3 < ws.size := (Array.getElem?_eq_some_iff.mp g9).1
  unfold setFlight
  refine wpAny_bind (wpAny_field g1 g3 g4 ?_)
  rw [if_pos (by simp)]
  refine wpAny_setField g7 g8 sz ?_
  generalize hu : s.heap.update T _ = h'
  have ap : ∀ b, b ≠ T → h'.get? b = s.heap.get? b := fun b n => by rw [← hu]; exact Heap.get?_update_other _ _ (Ne.symm n)
  have pl : ∀ b o, s.heap.get? b = some o → (∀ vs, o.data ≠ .fields vs) → h'.get? b = some o := fun b o q n => (ap b fun z => by rw [z, g7] at q; cases q; exact n ws g8).trans q
  refine k h' ⟨fun b o q => (ap b fun z => by rw [z, g5] at q; cases q).trans (x1 b o q), x2, x3.of_keeps fun b o q n => ⟨o, pl b o q n, rfl⟩, ox, us, T, Obj.mapFields (·.setIfInBounds 3 .none) ot, ws.setIfInBounds 3 .none, (ap e (Ne.symm g6)).trans g1, g2, g3, g4, g5, g6, ?_, Obj.data_mapFields g8 _, ?_⟩ fun b o q n => ⟨o.slots, pl b o q n⟩
  · rw [← hu]; exact Heap.get?_update_self _ g7 (Obj.isFreed_of_fields (Obj.data_mapFields g8 _))
  · simp [sz]
end
end J
namespace J
open PySem PySem.Spec PyProof.Rows L2
structure Lm where
  a : Addr
  c : Addr
  q : PySem.Str
  xs : List V
inductive Wv where
  | non
  | bl (b : Bool)
  | int (i : Int)
  | str (x : PySem.Str)
  | tup (ws : List Wv)
  | ktp (ws : List Wv)
  | ref (l : Nat)
  | ty (n : String)
  | cls (c : PySem.Str)
  | exn (c : PySem.Str)
  | fn (p : Lm) (ws : List Wv)
inductive Ob where
  | lst (ws : List Wv)
  | scr (ns : List Int)
  | dct (kvs : List (L2.Key × Wv))
  | dcT (kvs : List (List L2.Key × Wv))
abbrev Hs := List Ob
abbrev St := L2.St
abbrev Rho := List (Option Wv)
abbrev Mp := List Addr
def ExnAt (a C : Addr) : Heap → Prop := fun h => ∃ o, h.get? a = some o ∧ o.cls = .ref C ∧ ∃ vs, o.data = .fields vs
def ExH (a C : Addr) (u : Option HO) : Prop := ∃ o vs, u = some (.frz o (.ext (ExnAt a C))) ∧ o.data = .fields vs ∧ vs[2]? = some Value.none
theorem ex_at {P : Program} {w : World} {H : Hp} {h : Heap} {a C : Addr} (ok : HOk P w H h) (x : ExH a C (H a)) : ExnAt a C h := let ⟨_, _, e, _⟩ := x; (ok a _ e).2.1
def ClsAt (K : PySem.W.Frag) (c : PySem.Str) (C : Addr) : Prop := PySem.W.nsIn K mainGlobals c = some (some (.ref C))
def CodeX (c : Addr) (q : PySem.Str) : Heap → Prop := fun h => h.CodeRec (.ref c) q
def lamDefs : List PySem.Str := ["form_of", "formula_by", "turned"]
def tabFree (K : PySem.W.Frag) (q : PySem.Str) : Option Addr := match PySem.W.tabIn K q with
  | some (_, P) => if (K.lookup P).isNone = true then some P else none
  | none => none
def lamQ (q : PySem.Str) : PySem.Str := (q ++ ".<locals>.") ++ "<lambda>"
def TbOk (K : PySem.W.Frag) (H : Hp) : Prop := ∀ q P, q ∈ lamDefs → tabFree K q = some P → ∃ ps, H P = some (.tbl ps) ∧ TriplesOk ps.toList ∧ ∀ pos cv, codeAmong pos ps.toList = some cv → ∃ c, cv = .ref c ∧ H c = some (.ext (CodeX c (lamQ q)))
theorem TbOk.keep {K : PySem.W.Frag} {H H' : Hp} (t : TbOk K H) (h1 : ∀ a ps, H a = some (.tbl ps) → H' a = some (.tbl ps)) (h2 : ∀ a φ, H a = some (.ext φ) → H' a = some (.ext φ)) : TbOk K H' := fun q P hq hP => by
  obtain ⟨ps, e1, e2, e3⟩ := t q P hq hP
  refine ⟨ps, h1 _ _ e1, e2, fun pos cv e => ?_⟩
  obtain ⟨c, f1, f2⟩ := e3 pos cv e
  exact ⟨c, f1, h2 _ _ f2⟩
def KTup (K : PySem.W.Frag) (a : Addr) (xs : List V) : Prop := ∃ (o : Obj) (its : Array Value) (n : Nat), K.lookup a = some o ∧ o.cls = .type "tuple" ∧ o.data = .seq its n ∧ its.size ≤ sizeLine ∧ Vals xs its.toList
mutual
def RelW (K : PySem.W.Frag) (m : Mp) (H : Hp) : Wv → V → Prop
  | .non, v => v = .non
  | .bl b, v => v = .bl b
  | .int i, v => v = .int i
  | .str x, v => v = .str x ∧ PyData.strOk x = true
  | .tup ws, v => ∃ a xs, v = .ref a ∧ H a = some (.tup xs) ∧ RelWs K m H ws xs
  | .ktp ws, v => ∃ a xs, v = .ref a ∧ KTup K a xs ∧ RelWs K m H ws xs
  | .ref l, v => ∃ a, v = .ref a ∧ m[l]? = some a
  | .ty n, v => v = .ty n
  | .cls c, v => ∃ C, v = .ref C ∧ ClsAt K c C
  | .exn c, v => ∃ a C, v = .ref a ∧ ClsAt K c C ∧ ExH a C (H a)
  | .fn p ws, v => v = .ref p.a ∧ H p.c = some (.ext (CodeX p.c p.q)) ∧ RelWs K m H ws p.xs
def RelWs (K : PySem.W.Frag) (m : Mp) (H : Hp) : List Wv → List V → Prop
  | [], xs => xs = []
  | w :: ws, xs => ∃ x r, xs = x :: r ∧ RelW K m H w x ∧ RelWs K m H ws r
end
structure Ext (K : PySem.W.Frag) (m : Mp) (H : Hp) (m' : Mp) (H' : Hp) : Prop where
  pre : ∀ (l : Nat) (a : Addr), m[l]? = some a → m'[l]? = some a
  tup : ∀ (a : Addr) (xs : List V), H a = some (.tup xs) → H' a = some (.tup xs)
  ext : ∀ (a : Addr) (φ : Heap → Prop), H a = some (.ext φ) → H' a = some (.ext φ)
  frz : ∀ (a : Addr) (o : Obj) (u : HO), H a = some (.frz o u) → H' a = some (.frz o u)
section
variable {K : PySem.W.Frag} {m m1 m2 : Mp} {H H1 H2 : Hp}
theorem Ext.refl : Ext K m H m H := ⟨fun _ _ h => h, fun _ _ h => h, fun _ _ h => h, fun _ _ _ h => h⟩
theorem Ext.trans (a : Ext K m H m1 H1) (b : Ext K m1 H1 m2 H2) : Ext K m H m2 H2 :=
  ⟨fun l x h => b.pre l x (a.pre l x h), fun x xs h => b.tup x xs (a.tup x xs h), fun x φ h => b.ext x φ (a.ext x φ h), fun x o u h => b.frz x o u (a.frz x o u h)⟩
mutual
theorem RelW.mono (e : Ext K m H m1 H1) : ∀ (w : Wv) (v : V), RelW K m H w v → RelW K m1 H1 w v
  | .non, v, h => by unfold RelW at h ⊢; exact h
  | .bl b, v, h => by unfold RelW at h ⊢; exact h
  | .int i, v, h => by unfold RelW at h ⊢; exact h
  | .str x, v, h => by unfold RelW at h ⊢; exact h
  | .ty n, v, h => by unfold RelW at h ⊢; exact h
  | .cls c, v, h => by unfold RelW at h ⊢; exact h
  | .exn c, v, h => by
    unfold RelW at h ⊢
    obtain ⟨a, C, e1, e2, o, vs, e3, e4⟩ := h
    exact ⟨a, C, e1, e2, o, vs, e.frz _ _ _ e3, e4⟩
  | .ref l, v, h => by
    unfold RelW at h ⊢
    obtain ⟨a, e1, e2⟩ := h
    exact ⟨a, e1, e.pre _ _ e2⟩
  | .tup ws, v, h => by
    unfold RelW at h ⊢
    obtain ⟨a, xs, e1, e2, e3⟩ := h
    exact ⟨a, xs, e1, e.tup _ _ e2, RelWs.mono e ws xs e3⟩
  | .ktp ws, v, h => by
    unfold RelW at h ⊢
    obtain ⟨a, xs, e1, e2, e3⟩ := h
    exact ⟨a, xs, e1, e2, RelWs.mono e ws xs e3⟩
  | .fn p ws, v, h => by
    unfold RelW at h ⊢
    obtain ⟨e1, e2, e3⟩ := h
    exact ⟨e1, e.ext _ _ e2, RelWs.mono e ws p.xs e3⟩
theorem RelWs.mono (e : Ext K m H m1 H1) : ∀ (ws : List Wv) (xs : List V), RelWs K m H ws xs → RelWs K m1 H1 ws xs
  | [], xs, h => by unfold RelWs at h ⊢; exact h
  | w :: ws, xs, h => by
    unfold RelWs at h ⊢
    obtain ⟨x, r, e1, e2, e3⟩ := h
    exact ⟨x, r, e1, RelW.mono e w x e2, RelWs.mono e ws r e3⟩
end
theorem RelWs.nil : RelWs K m H [] [] := by unfold RelWs; rfl
theorem RelWs.cons {w : Wv} {x : V} {ws : List Wv} {xs : List V} (h : RelW K m H w x) (t : RelWs K m H ws xs) : RelWs K m H (w :: ws) (x :: xs) := by unfold RelWs; exact ⟨x, xs, rfl, h, t⟩
theorem RelWs.length : ∀ {ws : List Wv} {xs : List V}, RelWs K m H ws xs → ws.length = xs.length
  | [], xs, h => by unfold RelWs at h; subst h; rfl
  | w :: ws, xs, h => by
    unfold RelWs at h
    obtain ⟨x, r, e1, _, e3⟩ := h
    subst e1
    simp [RelWs.length e3]
theorem RelWs.get : ∀ {ws : List Wv} {xs : List V} {i : Nat} {w : Wv}, RelWs K m H ws xs → ws[i]? = some w → ∃ x, xs[i]? = some x ∧ RelW K m H w x
  | [], _, i, w, _, e => by simp at e
  | a :: ws, xs, 0, w, h, e => by
    unfold RelWs at h
    obtain ⟨x, r, e1, e2, _⟩ := h
    subst e1
    simp at e
    subst e
    exact ⟨x, rfl, e2⟩
  | a :: ws, xs, i + 1, w, h, e => by
    unfold RelWs at h
    obtain ⟨x, r, e1, _, e3⟩ := h
    subst e1
    obtain ⟨y, f1, f2⟩ := RelWs.get (i := i) (w := w) e3 (by simpa using e)
    exact ⟨y, by simpa using f1, f2⟩
theorem RelWs.append : ∀ {ws zs : List Wv} {xs ys : List V}, RelWs K m H ws xs → RelWs K m H zs ys → RelWs K m H (ws ++ zs) (xs ++ ys)
  | [], _, xs, _, h, g => by unfold RelWs at h; subst h; exact g
  | w :: ws, zs, xs, ys, h, g => by
    unfold RelWs at h
    obtain ⟨x, r, e1, e2, e3⟩ := h
    subst e1
    exact RelWs.cons e2 (RelWs.append e3 g)
theorem RelWs.set : ∀ {ws : List Wv} {xs : List V} (i : Nat) {w : Wv} {x : V}, RelWs K m H ws xs → RelW K m H w x → RelWs K m H (ws.set i w) (xs.set i x)
  | [], xs, i, w, x, h, _ => by unfold RelWs at h; subst h; exact RelWs.nil
  | a :: ws, xs, 0, w, x, h, g => by
    unfold RelWs at h
    obtain ⟨y, r, e1, e2, e3⟩ := h
    subst e1
    exact RelWs.cons g e3
  | a :: ws, xs, i + 1, w, x, h, g => by
    unfold RelWs at h
    obtain ⟨y, r, e1, e2, e3⟩ := h
    subst e1
    exact RelWs.cons e2 (RelWs.set i e3 g)
theorem RelWs.drop : ∀ {ws : List Wv} {xs : List V} (i : Nat), RelWs K m H ws xs → RelWs K m H (ws.drop i) (xs.drop i)
  | ws, xs, 0, h => by simpa using h
  | [], xs, i + 1, h => by unfold RelWs at h; subst h; simpa using RelWs.nil
  | a :: ws, xs, i + 1, h => by
    unfold RelWs at h
    obtain ⟨y, r, e1, e2, e3⟩ := h
    subst e1
    simpa using RelWs.drop i e3
theorem RelWs.take : ∀ {ws : List Wv} {xs : List V} (i : Nat), RelWs K m H ws xs → RelWs K m H (ws.take i) (xs.take i)
  | ws, xs, 0, h => by simpa using RelWs.nil
  | [], xs, i + 1, h => by unfold RelWs at h; subst h; simpa using RelWs.nil
  | a :: ws, xs, i + 1, h => by
    unfold RelWs at h
    obtain ⟨y, r, e1, e2, e3⟩ := h
    subst e1
    simpa using RelWs.cons e2 (RelWs.take i e3)
theorem RelWs.ints : ∀ (ns : List Int), RelWs K m H (ns.map Wv.int) (ns.map V.int)
  | [] => RelWs.nil
  | n :: ns => RelWs.cons (by unfold RelW; rfl) (RelWs.ints ns)
end
def ScrOk (K : PySem.W.Frag) (H : Hp) (a : Addr) (ns : List Int) : Prop :=
  (∃ o, H a = some (.frz o (.lst (ns.map V.int)))) ∨
    ∃ (o : Obj) (its : Array Value) (n : Nat), K.lookup a = some o ∧ o.cls = .type "list" ∧ o.dict = none ∧ o.data = .seq its n ∧ its.size ≤ sizeLine ∧ Vals (ns.map V.int) its.toList
def RelK {κ : Type} (K : PySem.W.Frag) (m : Mp) (H : Hp) (kvs : List (κ × Wv)) (xs : List (κ × V)) : Prop := kvs.map (·.1) = xs.map (·.1) ∧ RelWs K m H (kvs.map (·.2)) (xs.map (·.2))
def ORel (K : PySem.W.Frag) (m : Mp) (H : Hp) (a : Addr) : Ob → Prop
  | .lst ws => ∃ xs, H a = some (.lst xs) ∧ RelWs K m H ws xs
  | .scr ns => ScrOk K H a ns
  | .dct kvs => ∃ xs, H a = some (.dK xs) ∧ RelK K m H kvs xs
  | .dcT kvs => ∃ xs, H a = some (.dT xs) ∧ RelK K m H kvs xs
def Ob.mu : Ob → Bool
  | .scr _ => false
  | _ => true
structure Sim (K : PySem.W.Frag) (m : Mp) (st : Hs) (H : Hp) : Prop where
  len : m.length = st.length
  obj : ∀ (l : Nat) (a : Addr) (o : Ob), m[l]? = some a → st[l]? = some o → ORel K m H a o
  inj : ∀ (l l' : Nat) (a : Addr) (o o' : Ob), m[l]? = some a → m[l']? = some a → st[l]? = some o → st[l']? = some o' → o.mu = true → o'.mu = true → l = l'
  tab : TbOk K H
def lstOf (st : Hs) (l : Nat) : Option (List Wv) := match st[l]? with
  | some (.lst ws) => some ws
  | some (.scr ns) => some (ns.map Wv.int)
  | _ => none
section
variable {K : PySem.W.Frag} {m : Mp} {H : Hp} {st : Hs}
def Wr (u : Option HO) : Prop := u = none ∨ (∃ ys, u = some (.lst ys)) ∨ (∃ ys, u = some (.dK ys)) ∨ ∃ ys, u = some (.dT ys)
theorem Wr.ne {p a : Addr} {u : HO} (hp : Wr (H p)) (e : H a = some u) (n1 : ∀ ys, u ≠ .lst ys) (n2 : ∀ ys, u ≠ .dK ys) (n3 : ∀ ys, u ≠ .dT ys) : a ≠ p := fun z => by
  subst z
  rcases hp with q | ⟨ys, q⟩ | ⟨ys, q⟩ | ⟨ys, q⟩
  · rw [q] at e; cases e
  · rw [q] at e; cases e; exact n1 ys rfl
  · rw [q] at e; cases e; exact n2 ys rfl
  · rw [q] at e; cases e; exact n3 ys rfl
theorem tup_updW {p a : Addr} {o : HO} {xs : List V} (hp : Wr (H p)) (h : H a = some (.tup xs)) : upd H p o a = some (.tup xs) := by
  rw [upd_ne (hp.ne h (by intro ys z; cases z) (by intro ys z; cases z) (by intro ys z; cases z))]; exact h
theorem scr_updW {p a : Addr} {o : HO} {ns : List Int} (hp : Wr (H p)) (h : ScrOk K H a ns) : ScrOk K (upd H p o) a ns := by
  rcases h with ⟨o', h⟩ | h
  · exact .inl ⟨o', by rw [upd_ne (hp.ne h (by intro ys z; cases z) (by intro ys z; cases z) (by intro ys z; cases z))]; exact h⟩
  · exact .inr h
theorem Wr.of {u : Option HO} (h : u = none ∨ ∃ ys, u = some (.lst ys)) : Wr u := by
  rcases h with q | q
  · exact .inl q
  · exact .inr (.inl q)
theorem Ext.updW {p : Addr} {o : HO} (hp : Wr (H p)) : Ext K m H m (upd H p o) := ⟨fun _ _ h => h, fun _ _ h => tup_updW hp h, fun a φ h => by
  rw [upd_ne (hp.ne h (by intro ys z; cases z) (by intro ys z; cases z) (by intro ys z; cases z))]
  exact h, fun a o u h => by
  rw [upd_ne (hp.ne h (by intro ys z; cases z) (by intro ys z; cases z) (by intro ys z; cases z))]
  exact h⟩
theorem Ext.upd {p : Addr} {o : HO} (hp : H p = none ∨ ∃ ys, H p = some (.lst ys)) : Ext K m H m (upd H p o) := Ext.updW (Wr.of hp)
theorem RelK.mono {κ : Type} {m1 : Mp} {H1 : Hp} {kvs : List (κ × Wv)} {xs : List (κ × V)} (e : Ext K m H m1 H1) (h : RelK K m H kvs xs) : RelK K m1 H1 kvs xs := ⟨h.1, RelWs.mono e _ _ h.2⟩
theorem ORel.keep {m1 : Mp} {b p : Addr} {u : HO} {o : Ob} (ex : Ext K m H m1 (L2.upd H p u)) (hp : Wr (H p)) (hb : o.mu = true → b ≠ p) (h : ORel K m H b o) : ORel K m1 (L2.upd H p u) b o := by
  cases o with
  | lst ws =>
    obtain ⟨xs, e1, e2⟩ := h
    exact ⟨xs, by rw [upd_ne (hb rfl)]; exact e1, RelWs.mono ex _ _ e2⟩
  | dct kvs =>
    obtain ⟨xs, e1, e2⟩ := h
    exact ⟨xs, by rw [upd_ne (hb rfl)]; exact e1, e2.mono ex⟩
  | dcT kvs =>
    obtain ⟨xs, e1, e2⟩ := h
    exact ⟨xs, by rw [upd_ne (hb rfl)]; exact e1, e2.mono ex⟩
  | scr ns => exact scr_updW hp h
theorem ORel.at {b : Addr} {o : Ob} (h : ORel K m H b o) (hm : o.mu = true) : ∃ u, H b = some u := by
  cases o with
  | lst ws => obtain ⟨xs, e1, e2⟩ := h; exact ⟨_, e1⟩
  | dct kvs => obtain ⟨xs, e1, e2⟩ := h; exact ⟨_, e1⟩
  | dcT kvs => obtain ⟨xs, e1, e2⟩ := h; exact ⟨_, e1⟩
  | scr ns => simp [Ob.mu] at hm
theorem ORel.wr {b : Addr} {o : Ob} (h : ORel K m H b o) (hm : o.mu = true) : Wr (H b) := by
  cases o with
  | lst ws => obtain ⟨xs, e1, e2⟩ := h; exact .inr (.inl ⟨_, e1⟩)
  | dct kvs => obtain ⟨xs, e1, e2⟩ := h; exact .inr (.inr (.inl ⟨_, e1⟩))
  | dcT kvs => obtain ⟨xs, e1, e2⟩ := h; exact .inr (.inr (.inr ⟨_, e1⟩))
  | scr ns => simp [Ob.mu] at hm
theorem TbOk.updW {p : Addr} {o : HO} (t : TbOk K H) (hp : Wr (H p)) : TbOk K (L2.upd H p o) := t.keep
  (fun a ps h => by rw [upd_ne (hp.ne h (by intro ys z; cases z) (by intro ys z; cases z) (by intro ys z; cases z))]; exact h)
  fun a φ h => by rw [upd_ne (hp.ne h (by intro ys z; cases z) (by intro ys z; cases z) (by intro ys z; cases z))]; exact h
theorem Ext.more {p : Addr} : Ext K m H (m ++ [p]) H := ⟨fun l a h => by
  rw [List.getElem?_append_left]
  · exact h
  · exact (List.getElem?_eq_some_iff.mp h).1, fun _ _ h => h, fun _ _ h => h, fun _ _ _ h => h⟩
theorem Sim.fresh {p : Addr} {o : HO} (S : Sim K m st H) (hp : H p = none) : Sim K m st (upd H p o) :=
  ⟨S.len, fun l a ob h1 h2 => by
    have q := S.obj l a ob h1 h2
    refine q.keep (Ext.updW (.inl hp)) (.inl hp) fun hm => ?_
    obtain ⟨u, e⟩ := q.at hm
    exact ne_of_none e hp, S.inj, S.tab.updW (.inl hp)⟩
theorem Sim.lstAt {l : Nat} {a : Addr} {ws : List Wv} (S : Sim K m st H) (h1 : m[l]? = some a) (h2 : st[l]? = some (.lst ws)) : ∃ xs, H a = some (.lst xs) ∧ RelWs K m H ws xs := S.obj l a _ h1 h2
theorem Sim.has {l : Nat} {o : Ob} (S : Sim K m st H) (h : st[l]? = some o) : ∃ a, m[l]? = some a := by
  have e : l < st.length := (List.getElem?_eq_some_iff.mp h).1
  have e' : l < m.length := by rw [S.len]; exact e
  exact ⟨m[l], List.getElem?_eq_getElem e'⟩
theorem Sim.read {l : Nat} {a : Addr} {ws : List Wv} (S : Sim K m st H) (h1 : m[l]? = some a) (h2 : lstOf st l = some ws) : ∃ xs, SqL K H a xs ∧ RelWs K m H ws xs := by
  unfold lstOf at h2
  cases e : st[l]? with
  | none => rw [e] at h2; cases h2
  | some o =>
    rw [e] at h2
    cases o with
    | lst zs =>
      cases h2
      obtain ⟨xs, e1, e2⟩ := S.lstAt h1 e
      exact ⟨xs, SqL.of e1, e2⟩
    | dct kvs => cases h2
    | dcT kvs => cases h2
    | scr ns =>
      cases h2
      have q : ScrOk K H a ns := S.obj l a _ h1 e
      refine ⟨ns.map V.int, ?_, RelWs.ints ns⟩
      rcases q with ⟨o, q⟩ | q
      · exact .inl (.inr ⟨o, q⟩)
      · exact .inr q
theorem Sim.allocO {p : Addr} {ob : Ob} {u : HO} (S : Sim K m st H) (hp : H p = none) (r : ORel K (m ++ [p]) (L2.upd H p u) p ob) : Sim K (m ++ [p]) (st ++ [ob]) (L2.upd H p u) := by
  have ex : Ext K m H (m ++ [p]) (L2.upd H p u) := Ext.more.trans (Ext.updW (.inl hp))
  have notold : ∀ (l : Nat) (o : Ob), m[l]? = some p → st[l]? = some o → o.mu = true → False := fun l o h1 h2 hm => by
    obtain ⟨v, e⟩ := (S.obj l p o h1 h2).at hm
    rw [hp] at e; cases e
  have old : ∀ (l : Nat) (a : Addr), (m ++ [p])[l]? = some a → (l < m.length ∧ m[l]? = some a) ∨ (l = m.length ∧ a = p) := fun l a h => by
    by_cases hl : l < m.length
    · exact .inl ⟨hl, by rw [List.getElem?_append_left hl] at h; exact h⟩
    · have h' := h
      rw [List.getElem?_append_right (by omega)] at h'
      have z := List.getElem?_eq_some_iff.mp h'
      have z1 : l - m.length < 1 := by simpa using z.1
      refine .inr ⟨by omega, ?_⟩
      have e0 : l - m.length = 0 := by omega
      rw [e0] at h'
      simpa using h'.symm
  have olds : ∀ (l : Nat) (o : Ob), l < m.length → (st ++ [ob])[l]? = some o → st[l]? = some o := fun l o hl h => by
    rw [List.getElem?_append_left (by rw [← S.len]; exact hl)] at h
    exact h
  refine ⟨by simp [S.len], fun l a o h1 h2 => ?_, fun l l' a zs zs' h1 h1' h2 h2' k k' => ?_, S.tab.updW (.inl hp)⟩
  · rcases old l a h1 with ⟨hl, h1⟩ | ⟨hl, rfl⟩
    · have q := S.obj l a o h1 (olds l o hl h2)
      refine q.keep ex (.inl hp) fun hm => ?_
      obtain ⟨v, e⟩ := q.at hm
      exact ne_of_none e hp
    · have e : o = ob := by
        rw [hl, S.len, List.getElem?_append_right (Nat.le_refl _), Nat.sub_self] at h2
        simpa using h2.symm
      subst e
      exact r
  · rcases old l a h1 with ⟨hl, g1⟩ | ⟨hl, ea⟩
    · rcases old l' a h1' with ⟨hl', g1'⟩ | ⟨hl', ea'⟩
      · exact S.inj l l' a zs zs' g1 g1' (olds l _ hl h2) (olds l' _ hl' h2') k k'
      · rw [ea'] at g1
        exact (notold l zs g1 (olds l _ hl h2) k).elim
    · rcases old l' a h1' with ⟨hl', g1'⟩ | ⟨hl', _⟩
      · rw [ea] at g1'
        exact (notold l' zs' g1' (olds l' _ hl' h2') k').elim
      · omega
theorem Sim.alloc {p : Addr} {ws : List Wv} {xs : List V} (S : Sim K m st H) (hp : H p = none) (r : RelWs K m H ws xs) : Sim K (m ++ [p]) (st ++ [.lst ws]) (upd H p (.lst xs)) :=
  S.allocO hp ⟨xs, upd_same, RelWs.mono (Ext.more.trans (Ext.updW (.inl hp))) _ _ r⟩
theorem Sim.writeO {l : Nat} {a : Addr} {o0 ob : Ob} {u : HO} (S : Sim K m st H) (h1 : m[l]? = some a) (h2 : st[l]? = some o0) (hm : o0.mu = true) (r : ORel K m (L2.upd H a u) a ob) : Sim K m (st.set l ob) (L2.upd H a u) := by
  have wr : Wr (H a) := (S.obj l a o0 h1 h2).wr hm
  have ex : Ext K m H m (L2.upd H a u) := Ext.updW wr
  have hl : l < st.length := (List.getElem?_eq_some_iff.mp h2).1
  have at' : ∀ (k : Nat) (o : Ob), (st.set l ob)[k]? = some o → (k = l ∧ o = ob) ∨ (k ≠ l ∧ st[k]? = some o) := fun k o h => by
    by_cases e : l = k
    · subst e
      rw [List.getElem?_set_self hl] at h
      exact .inl ⟨rfl, (Option.some.inj h).symm⟩
    · rw [List.getElem?_set_ne e] at h
      exact .inr ⟨fun z => e z.symm, h⟩
  refine ⟨by simp [S.len], fun k b o g1 g2 => ?_, fun k k' b us us' g1 g1' g2 g2' q q' => ?_, S.tab.updW wr⟩
  · rcases at' k o g2 with ⟨rfl, rfl⟩ | ⟨hk, g2⟩
    · rw [h1] at g1; cases g1
      exact r
    · have q := S.obj k b o g1 g2
      refine q.keep ex wr fun ho z => ?_
      subst z
      exact hk (S.inj k l b o o0 g1 h1 g2 h2 ho hm)
  · have back : ∀ (k : Nat) (o : Ob), (st.set l ob)[k]? = some o → o.mu = true → ∃ o', st[k]? = some o' ∧ o'.mu = true := fun k o h ho => by
      rcases at' k _ h with ⟨rfl, _⟩ | ⟨_, h⟩
      · exact ⟨o0, h2, hm⟩
      · exact ⟨o, h, ho⟩
    obtain ⟨u1, e1, f1⟩ := back k us g2 q
    obtain ⟨u2, e2, f2⟩ := back k' us' g2' q'
    exact S.inj k k' b u1 u2 g1 g1' e1 e2 f1 f2
theorem Sim.write {l : Nat} {a : Addr} {ws zs : List Wv} {xs : List V} (S : Sim K m st H) (h1 : m[l]? = some a) (h2 : st[l]? = some (.lst ws)) (r : RelWs K m H zs xs) : Sim K m (st.set l (.lst zs)) (upd H a (.lst xs)) :=
  S.writeO h1 h2 rfl ⟨xs, upd_same, RelWs.mono (Ext.updW ((S.obj l a _ h1 h2).wr rfl)) _ _ r⟩
end
structure RelEnv (K : PySem.W.Frag) (m : Mp) (H : Hp) (ρ : Rho) (σ : St) : Prop where
  len : ρ.length = σ.length
  get : ∀ (i : Nat) (w : Wv), ρ[i]? = some (some w) → ∃ v, σ[i]? = some (some v) ∧ RelW K m H w v
section
variable {K : PySem.W.Frag} {m m1 : Mp} {H H1 : Hp} {ρ : Rho} {σ : St}
theorem RelEnv.mono (R : RelEnv K m H ρ σ) (e : Ext K m H m1 H1) : RelEnv K m1 H1 ρ σ := ⟨R.len, fun i w h => let ⟨v, h1, h2⟩ := R.get i w h; ⟨v, h1, RelW.mono e _ _ h2⟩⟩
theorem RelEnv.set (R : RelEnv K m H ρ σ) (i : Nat) {w : Wv} {v : V} (h : RelW K m H w v) : RelEnv K m H (ρ.set i (some w)) (σ.set i (some v)) := by
  refine ⟨by simp [R.len], fun j u e => ?_⟩
  by_cases hj : i = j
  · subst hj
    have hi : i < ρ.length := by
      have := (List.getElem?_eq_some_iff.mp e).1
      simpa using this
    rw [List.getElem?_set_self hi] at e
    have e' : w = u := Option.some.inj (Option.some.inj e)
    subst e'
    exact ⟨v, by rw [List.getElem?_set_self (by rw [← R.len]; exact hi)], h⟩
  · rw [List.getElem?_set_ne hj] at e
    obtain ⟨x, h1, h2⟩ := R.get j u e
    exact ⟨x, by rw [List.getElem?_set_ne hj]; exact h1, h2⟩
end
inductive Re (α : Type) where
  | ok (a : α) (st : Hs)
  | err (c : PySem.Str) (st : Hs)
  | bad
def Re.bind {α β : Type} (r : Re α) (f : α → Hs → Re β) : Re β := match r with
  | .ok a st => f a st
  | .err c st => .err c st
  | .bad => .bad
inductive Rs where
  | nx (ρ : Rho) (st : Hs)
  | rt (w : Wv) (st : Hs)
  | bk (ρ : Rho) (st : Hs)
  | ct (ρ : Rho) (st : Hs)
  | err (c : PySem.Str) (ρ : Rho) (st : Hs)
  | bad
def Re.thn {α : Type} (ρ : Rho) (r : Re α) (f : α → Hs → Rs) : Rs := match r with
  | .ok a st => f a st
  | .err c st => .err c ρ st
  | .bad => .bad
def Re.nox {α : Type} (r : Re α) : Re α := match r with
  | .ok a st => .ok a st
  | _ => .bad
abbrev GE := Rho → Hs → Re Wv
abbrev GT := Rho → Hs → Re Bool
abbrev GA := Rho → Hs → Re (List Wv)
abbrev GS := Rho → Hs → Rs
def Flown (P : Program) (w : World) (outer : List Env) (H : Hp) (s : Shared) (H' : Hp) (cls : Value) (e : Value) (s' : Shared) : Prop :=
  ∃ (a : Addr) (a0 : Value) (B : Heap), e = .ref a ∧ s'.os = s.os ∧ AllBare s'.gens ∧ Un (frs outer) [] H H' s.heap s'.heap ∧ HOk P w H' B ∧ FlyX B outer a cls a0 s'.heap ∧
    (∀ b o, s.heap.get? b = some o → b ∉ frs outer → ∃ o', B.get? b = some o' ∧ (H b = none → o' = o))
def FlownA (X : Cx) (pins : List (Addr × Obj)) (H : Hp) (s : Shared) (H' : Hp) (cls : Value) (e : Value) (s' : Shared) : Prop :=
  ∃ (a : Addr) (a0 nt : Value) (B : Heap) (ch : List Addr), e = .ref a ∧ s'.os = s.os ∧ AllBare s'.gens ∧ (∀ b ∈ ch, FpOk X pins H b) ∧ Un (frs X.stack) ch H H' s.heap s'.heap ∧ HOk X.prog X.w H' B ∧
    (B.StaysIn s'.heap ∧ B.get? a = none ∧ s'.heap.FunFrames B X.stack ∧ TrX s'.heap B a cls a0 nt) ∧
    (∀ b o, s.heap.get? b = some o → b ∉ frs X.stack → b ∉ ch → ∃ o', B.get? b = some o' ∧ (H b = none → o' = o))
theorem Flown.any {X : Cx} {pins : List (Addr × Obj)} {H H' : Hp} {s s' : Shared} {cls e : Value} (f : Flown X.prog X.w X.stack H s H' cls e s') : FlownA X pins H s H' cls e s' :=
  let ⟨a, a0, B, e1, e2, e3, un, hok, fl, cov⟩ := f
  ⟨a, a0, .none, B, [], e1, e2, e3, (fun b z => by cases z), un, hok, fl, fun b o q hb _ => cov b o q hb⟩
def Raised (X : Cx) (σ : St) (H' : Hp) (c : PySem.Str) (e : Value) (s' : Shared) : Prop :=
  ∃ (C : Addr) (pins : List (Addr × Obj)) (Hc : Hp) (sc : Shared), ClsAt X.K c C ∧ Inv X pins σ Hc sc ∧
    (FlownA X pins Hc sc H' (.ref C) e s' ∨ (H' = Hc ∧ ∃ a args, e = .ref a ∧ s'.os = sc.os ∧ s'.gens = sc.gens ∧ Heap.MadeExcOf sc.heap s'.heap a (.ref C) args))
def XOk (X : Cx) (σ : St) (m : Mp) (H : Hp) (c : PySem.Str) (st : Hs) : Prop :=
  ∀ (m' : Mp) (H' : Hp) (e : Value) (s' : Shared), Ext X.K m H m' H' → Sim X.K m' st H' → Raised X σ H' c e s' → X.xe e s'
theorem XOk.mono {X : Cx} {σ : St} {m m1 : Mp} {H H1 : Hp} {c : PySem.Str} {st : Hs} (h : XOk X σ m H c st) (e : Ext X.K m H m1 H1) : XOk X σ m1 H1 c st :=
  fun m' H' x s' e' S r => h m' H' x s' (e.trans e') S r
def PostG {α : Type} (X : Cx) (σ : St) (m : Mp) (H : Hp) (r : Re α) (ok : α → Hs → Prop) : Prop := match r with
  | .ok a st => ok a st
  | .err c st => XOk X σ m H c st
  | .bad => False
def PostN {α : Type} (r : Re α) (ok : α → Hs → Prop) : Prop := match r with
  | .ok a st => ok a st
  | _ => False
theorem PostG.nox {α : Type} {X : Cx} {σ : St} {m : Mp} {H : Hp} {r : Re α} {ok : α → Hs → Prop} (h : PostG X σ m H r.nox ok) : PostN r ok := by
  cases r with
  | ok a st => exact h
  | err c st => exact h
  | bad => exact h
theorem PostG.bind {α β : Type} {X : Cx} {σ : St} {m : Mp} {H : Hp} {r : Re α} {f : α → Hs → Re β} {ok : β → Hs → Prop} (h : PostG X σ m H (r.bind f) ok) : PostG X σ m H r (fun a st => PostG X σ m H (f a st) ok) := by
  cases r with
  | ok a st => exact h
  | err c st => exact h
  | bad => exact h
theorem PostG.imp {α : Type} {X : Cx} {σ : St} {m m1 : Mp} {H H1 : Hp} {r : Re α} {ok ok' : α → Hs → Prop} (h : PostG X σ m H r ok) (e : Ext X.K m H m1 H1) (k : ∀ a st, ok a st → ok' a st) : PostG X σ m1 H1 r ok' := by
  cases r with
  | ok a st => exact k a st h
  | err c st => exact XOk.mono (c := c) (st := st) h e
  | bad => exact h
theorem PostN.imp {α : Type} {r : Re α} {ok ok' : α → Hs → Prop} (h : PostN r ok) (k : ∀ a st, ok a st → ok' a st) : PostN r ok' := by
  cases r with
  | ok a st => exact k a st h
  | err c st => exact h
  | bad => exact h
def okE (K : PySem.W.Frag) (m : Mp) (H : Hp) (Q : VK) (w : Wv) (st : Hs) : Prop := ∀ (v : V) (m' : Mp) (H' : Hp), Ext K m H m' H' → Sim K m' st H' → RelW K m' H' w v → Q v H'
def okT (K : PySem.W.Frag) (m : Mp) (H : Hp) (Q : Bool → Hp → Prop) (b : Bool) (st : Hs) : Prop := ∀ (m' : Mp) (H' : Hp), Ext K m H m' H' → Sim K m' st H' → Q b H'
def okA (K : PySem.W.Frag) (m : Mp) (H : Hp) (Q : List V → Hp → Prop) (ws : List Wv) (st : Hs) : Prop := ∀ (vs : List V) (m' : Mp) (H' : Hp), Ext K m H m' H' → Sim K m' st H' → RelWs K m' H' ws vs → Q vs H'
abbrev PostE (X : Cx) (σ : St) (m : Mp) (H : Hp) (r : Re Wv) (Q : VK) : Prop := PostG X σ m H r (okE X.K m H Q)
abbrev PostT (X : Cx) (σ : St) (m : Mp) (H : Hp) (r : Re Bool) (Q : Bool → Hp → Prop) : Prop := PostG X σ m H r (okT X.K m H Q)
abbrev PostA (X : Cx) (σ : St) (m : Mp) (H : Hp) (r : Re (List Wv)) (Q : List V → Hp → Prop) : Prop := PostG X σ m H r (okA X.K m H Q)
theorem PostE.shift {X : Cx} {σ : St} {m m1 : Mp} {H H1 : Hp} {r : Re Wv} {Q : VK} (h : PostE X σ m H r Q) (e : Ext X.K m H m1 H1) : PostE X σ m1 H1 r Q := h.imp e fun _ _ k v m' H' e' => k v m' H' (e.trans e')
theorem PostT.shift {X : Cx} {σ : St} {m m1 : Mp} {H H1 : Hp} {r : Re Bool} {Q : Bool → Hp → Prop} (h : PostT X σ m H r Q) (e : Ext X.K m H m1 H1) : PostT X σ m1 H1 r Q := h.imp e fun _ _ k m' H' e' => k m' H' (e.trans e')
theorem PostA.shift {X : Cx} {σ : St} {m m1 : Mp} {H H1 : Hp} {r : Re (List Wv)} {Q : List V → Hp → Prop} (h : PostA X σ m H r Q) (e : Ext X.K m H m1 H1) : PostA X σ m1 H1 r Q := h.imp e fun _ _ k v m' H' e' => k v m' H' (e.trans e')
abbrev PostO (K : PySem.W.Frag) (m : Mp) (H : Hp) (r : Re Wv) (Q : VK) : Prop := PostN r (okE K m H Q)
theorem PostO.shift {K : PySem.W.Frag} {m m1 : Mp} {H H1 : Hp} {r : Re Wv} {Q : VK} (h : PostO K m H r Q) (e : Ext K m H m1 H1) : PostO K m1 H1 r Q := PostN.imp h fun _ _ k v m' H' e' => k v m' H' (e.trans e')
def PostS (X : Cx) (m : Mp) (H : Hp) (r : Rs) (D : Ends) : Prop := match r with
  | .nx ρ st => ∀ (σ : St) (m' : Mp) (H' : Hp), Ext X.K m H m' H' → Sim X.K m' st H' → RelEnv X.K m' H' ρ σ → D.nx σ H'
  | .rt w st => ∀ (v : V) (m' : Mp) (H' : Hp), Ext X.K m H m' H' → Sim X.K m' st H' → RelW X.K m' H' w v → D.rt v H'
  | .bk ρ st => ∀ (σ : St) (m' : Mp) (H' : Hp), Ext X.K m H m' H' → Sim X.K m' st H' → RelEnv X.K m' H' ρ σ → D.bk σ H'
  | .ct ρ st => ∀ (σ : St) (m' : Mp) (H' : Hp), Ext X.K m H m' H' → Sim X.K m' st H' → RelEnv X.K m' H' ρ σ → D.ct σ H'
  | .err c ρ st => ∀ (σ : St) (m' : Mp) (H' : Hp) (e : Value) (s' : Shared), Ext X.K m H m' H' → Sim X.K m' st H' → RelEnv X.K m' H' ρ σ → Raised X σ H' c e s' → X.xe e s'
  | .bad => False
theorem PostS.shift {X : Cx} {m m1 : Mp} {H H1 : Hp} {r : Rs} {D : Ends} (h : PostS X m H r D) (e : Ext X.K m H m1 H1) : PostS X m1 H1 r D := by
  cases r with
  | nx ρ st => exact fun σ m' H' e' => h σ m' H' (e.trans e')
  | rt w st => exact fun v m' H' e' => h v m' H' (e.trans e')
  | bk ρ st => exact fun σ m' H' e' => h σ m' H' (e.trans e')
  | ct ρ st => exact fun σ m' H' e' => h σ m' H' (e.trans e')
  | err c ρ st => exact fun σ m' H' x s' e' => h σ m' H' x s' (e.trans e')
  | bad => exact h
theorem PostS.of_thn {α : Type} {X : Cx} {m : Mp} {H : Hp} {ρ : Rho} {σ : St} {r : Re α} {f : α → Hs → Rs} {D : Ends} (R : RelEnv X.K m H ρ σ) (h : PostS X m H (r.thn ρ f) D) : PostG X σ m H r (fun a st => PostS X m H (f a st) D) := by
  cases r with
  | ok a st => exact h
  | err c st => exact fun m' H' x s' e' S r => h σ m' H' x s' e' S (R.mono e') r
  | bad => exact h
def SE (X : Cx) (e : Expr) : TE := fun σ H Q => ∀ (pins : List (Addr × Obj)) (s : Shared), Inv X pins σ H s → wpAny (model X.prog X.w) X.A (eval e X.env) (EP X pins σ Q) X.xe s
def ST (X : Cx) (e : Expr) : TT := fun σ H Q => ∀ (pins : List (Addr × Obj)) (s : Shared), Inv X pins σ H s → wpAny (model X.prog X.w) X.A (isTrue e X.env (eval e X.env)) (TP X pins σ Q) X.xe s
def SA (X : Cx) (es : List Expr) : TA := fun σ H Q => ∀ (pos : Pos) (pins : List (Addr × Obj)) (s : Shared), Inv X pins σ H s → wpAny (model X.prog X.w) X.A (spliced (backTo pos (starEach es X.env))) (AP X pins σ Q) X.xe s
def SS (X : Cx) (st : Stmt) : TS := fun D σ H => ∀ (pins : List (Addr × Obj)) (s : Shared), Inv X pins σ H s → wpAny (model X.prog X.w) X.A (exec st X.env) (SP X pins D) X.xe s
def SSs (X : Cx) (st : List Stmt) : TS := fun D σ H => ∀ (pins : List (Addr × Obj)) (s : Shared), Inv X pins σ H s → wpAny (model X.prog X.w) X.A (execs st X.env) (SP X pins D) X.xe s
section
variable {X : Cx}
theorem pe_SE {e : Expr} : PE X e (SE X e) := fun pins s _ _ _ I h => h pins s I
theorem pt_ST {e : Expr} : PT X e (ST X e) := fun pins s _ _ _ I h => h pins s I
theorem pa_SA {es : List Expr} : PA X es (SA X es) := fun pos pins s _ _ _ I h => h pos pins s I
theorem ps_SS {st : Stmt} : PS X st (SS X st) := fun pins s _ _ _ I h => h pins s I
theorem pss_SSs {st : List Stmt} : PSs X st (SSs X st) := fun pins s _ _ _ I h => h pins s I
end
def JE (X : Cx) (e : Expr) (g : GE) : Prop := ∀ (ρ : Rho) (st : Hs) (σ : St) (H : Hp) (m : Mp) (Q : VK), Sim X.K m st H → RelEnv X.K m H ρ σ → PostE X σ m H (g ρ st) Q → SE X e σ H Q
def JT (X : Cx) (e : Expr) (g : GT) : Prop := ∀ (ρ : Rho) (st : Hs) (σ : St) (H : Hp) (m : Mp) (Q : Bool → Hp → Prop), Sim X.K m st H → RelEnv X.K m H ρ σ → PostT X σ m H (g ρ st) Q → ST X e σ H Q
def JA (X : Cx) (es : List Expr) (g : GA) : Prop := ∀ (ρ : Rho) (st : Hs) (σ : St) (H : Hp) (m : Mp) (Q : List V → Hp → Prop), Sim X.K m st H → RelEnv X.K m H ρ σ → PostA X σ m H (g ρ st) Q → SA X es σ H Q
def JS (X : Cx) (s : Stmt) (g : GS) : Prop := ∀ (ρ : Rho) (st : Hs) (σ : St) (H : Hp) (m : Mp) (D : Ends), Sim X.K m st H → RelEnv X.K m H ρ σ → PostS X m H (g ρ st) D → SS X s D σ H
def JSs (X : Cx) (s : List Stmt) (g : GS) : Prop := ∀ (ρ : Rho) (st : Hs) (σ : St) (H : Hp) (m : Mp) (D : Ends), Sim X.K m st H → RelEnv X.K m H ρ σ → PostS X m H (g ρ st) D → SSs X s D σ H
section
variable {X : Cx}
theorem JE.of {e : Expr} {g : GE} {t : TE} (h : PE X e t) (k : ∀ (ρ : Rho) (st : Hs) (σ : St) (H : Hp) (m : Mp) (Q : VK), Sim X.K m st H → RelEnv X.K m H ρ σ → PostE X σ m H (g ρ st) Q → t σ H Q) : JE X e g :=
  fun ρ st σ H m Q S R p pins s I => h pins s σ H Q I (k ρ st σ H m Q S R p)
theorem JT.of {e : Expr} {g : GT} {t : TT} (h : PT X e t) (k : ∀ (ρ : Rho) (st : Hs) (σ : St) (H : Hp) (m : Mp) (Q : Bool → Hp → Prop), Sim X.K m st H → RelEnv X.K m H ρ σ → PostT X σ m H (g ρ st) Q → t σ H Q) : JT X e g :=
  fun ρ st σ H m Q S R p pins s I => h pins s σ H Q I (k ρ st σ H m Q S R p)
theorem JA.of {es : List Expr} {g : GA} {t : TA} (h : PA X es t) (k : ∀ (ρ : Rho) (st : Hs) (σ : St) (H : Hp) (m : Mp) (Q : List V → Hp → Prop), Sim X.K m st H → RelEnv X.K m H ρ σ → PostA X σ m H (g ρ st) Q → t σ H Q) : JA X es g :=
  fun ρ st σ H m Q S R p pos pins s I => h pos pins s σ H Q I (k ρ st σ H m Q S R p)
theorem JS.of {e : Stmt} {g : GS} {t : TS} (h : PS X e t) (k : ∀ (ρ : Rho) (st : Hs) (σ : St) (H : Hp) (m : Mp) (D : Ends), Sim X.K m st H → RelEnv X.K m H ρ σ → PostS X m H (g ρ st) D → t D σ H) : JS X e g :=
  fun ρ st σ H m D S R p pins s I => h pins s σ H D I (k ρ st σ H m D S R p)
theorem JSs.of {e : List Stmt} {g : GS} {t : TS} (h : PSs X e t) (k : ∀ (ρ : Rho) (st : Hs) (σ : St) (H : Hp) (m : Mp) (D : Ends), Sim X.K m st H → RelEnv X.K m H ρ σ → PostS X m H (g ρ st) D → t D σ H) : JSs X e g :=
  fun ρ st σ H m D S R p pins s I => h pins s σ H D I (k ρ st σ H m D S R p)
theorem JE.go {e : Expr} {g : GE} {ρ : Rho} {st : Hs} {σ : St} {H : Hp} {m : Mp} {T : VK} {ok : Wv → Hs → Prop} (h : JE X e g) (S : Sim X.K m st H) (R : RelEnv X.K m H ρ σ) (p : PostG X σ m H (g ρ st) ok)
    (k : ∀ (w : Wv) (st1 : Hs) (v : V) (m1 : Mp) (H1 : Hp), ok w st1 → Ext X.K m H m1 H1 → Sim X.K m1 st1 H1 → RelW X.K m1 H1 w v → T v H1) : SE X e σ H T :=
  h ρ st σ H m T S R (p.imp Ext.refl fun w st1 q v m1 H1 e1 s1 r1 => k w st1 v m1 H1 q e1 s1 r1)
theorem JT.go {e : Expr} {g : GT} {ρ : Rho} {st : Hs} {σ : St} {H : Hp} {m : Mp} {T : Bool → Hp → Prop} {ok : Bool → Hs → Prop} (h : JT X e g) (S : Sim X.K m st H) (R : RelEnv X.K m H ρ σ) (p : PostG X σ m H (g ρ st) ok)
    (k : ∀ (b : Bool) (st1 : Hs) (m1 : Mp) (H1 : Hp), ok b st1 → Ext X.K m H m1 H1 → Sim X.K m1 st1 H1 → T b H1) : ST X e σ H T :=
  h ρ st σ H m T S R (p.imp Ext.refl fun b st1 q m1 H1 e1 s1 => k b st1 m1 H1 q e1 s1)
theorem JA.go {es : List Expr} {g : GA} {ρ : Rho} {st : Hs} {σ : St} {H : Hp} {m : Mp} {T : List V → Hp → Prop} {ok : List Wv → Hs → Prop} (h : JA X es g) (S : Sim X.K m st H) (R : RelEnv X.K m H ρ σ) (p : PostG X σ m H (g ρ st) ok)
    (k : ∀ (ws : List Wv) (st1 : Hs) (vs : List V) (m1 : Mp) (H1 : Hp), ok ws st1 → Ext X.K m H m1 H1 → Sim X.K m1 st1 H1 → RelWs X.K m1 H1 ws vs → T vs H1) : SA X es σ H T :=
  h ρ st σ H m T S R (p.imp Ext.refl fun w st1 q v m1 H1 e1 s1 r1 => k w st1 v m1 H1 q e1 s1 r1)
end
end J
namespace J
open PySem PySem.Spec PyProof.Rows L2
def lim : Nat := 1000000
theorem lim_le {n : Nat} (h : n ≤ lim) : n ≤ sizeLine := Nat.le_trans h (by unfold lim; rw [sizeLine_eq]; decide)
theorem lim_lt {n : Nat} (h : n < lim) : n < sizeLine := Nat.lt_of_lt_of_le h (by unfold lim; rw [sizeLine_eq]; decide)
def gVar (i : Nat) : GE := fun ρ st => match ρ[i]? with
  | some (some w) => .ok w st
  | _ => .bad
def gC (w : Wv) : GE := fun _ st => .ok w st
section
variable {X : Cx}
theorem je_var (i : Nat) {x : Str} {pos : Pos} (hN : X.N[i]? = some x := by rfl) (hv : Vis X.env.scope x := by first | exact Or.inl rfl | exact Or.inr (Or.inl rfl) | exact Or.inr (Or.inr rfl)) (hd : (x == ("__debug__" : Str)) = false := by decide)
    (hcd : (x == ("__classdict__" : Str)) = false := by decide) : JE X (.Name x pos) (gVar i) := JE.of (pe_var hN hv hd hcd) fun ρ st σ H m Q S R p => by
  unfold gVar at p
  cases e : ρ[i]? with
  | none => rw [e] at p; exact False.elim p
  | some o =>
    cases o with
    | none => rw [e] at p; exact False.elim p
    | some w =>
      rw [e] at p
      obtain ⟨v, h1, h2⟩ := R.get i w e
      exact ⟨v, h1, p v m H Ext.refl S h2⟩
theorem je_int {i : Int} {j pos} : JE X (.Constant (.int i) j pos) (gC (.int i)) := JE.of pe_int fun ρ st σ H m Q S R p => p (.int i) m H Ext.refl S (by unfold RelW; rfl)
theorem je_bl {b : Bool} {j pos} : JE X (.Constant (.bool b) j pos) (gC (.bl b)) := JE.of pe_bl fun ρ st σ H m Q S R p => p (.bl b) m H Ext.refl S (by unfold RelW; rfl)
theorem je_non {j pos} : JE X (.Constant .none j pos) (gC .non) := JE.of pe_non fun ρ st σ H m Q S R p => p .non m H Ext.refl S (by unfold RelW; rfl)
theorem je_str {x : PySem.Str} {j pos} (hx : PyData.strOk x = true := by decide +kernel) : JE X (.Constant (.str x) j pos) (gC (.str x)) := JE.of pe_str fun ρ st σ H m Q S R p => p (.str x) m H Ext.refl S (by unfold RelW; exact ⟨rfl, hx⟩)
theorem je_globI {x : Str} {i : Int} {t : Tok} {pos : Pos} (hg : Gl X x) (hm : X.mg x = some (.int i t)) (hd : (x == ("__debug__" : Str)) = false := by decide) : JE X (.Name x pos) (gC (.int i)) :=
  JE.of (pe_glob (v := .int i) hg hm ⟨t, rfl⟩ hd) fun ρ st σ H m Q S R p => p (.int i) m H Ext.refl S (by unfold RelW; rfl)
theorem je_globS {x y : Str} {t : Tok} {pos : Pos} (hg : Gl X x) (hm : X.mg x = some (.str y t)) (hy : PyData.strOk y = true := by decide +kernel) (hd : (x == ("__debug__" : Str)) = false := by decide) : JE X (.Name x pos) (gC (.str y)) :=
  JE.of (pe_glob (v := .str y) hg hm ⟨t, rfl⟩ hd) fun ρ st σ H m Q S R p => p (.str y) m H Ext.refl S (by unfold RelW; exact ⟨rfl, hy⟩)
theorem je_ty {x : Str} {T : String} {pos : Pos} (hg : Gl X x) (hm : X.mg x = none) (hv : bootBuiltins x = some (.type T)) (hn : x ≠ "__name__" := by decide) (hd : (x == ("__debug__" : Str)) = false := by decide) : JE X (.Name x pos) (gC (.ty T)) :=
  JE.of (pe_bltn (v := .ty T) hg hm hv rfl hn hd) fun ρ st σ H m Q S R p => p (.ty T) m H Ext.refl S (by unfold RelW; rfl)
abbrev Op2 := Wv → Wv → Hs → Re Wv
def gBin (op : Op2) (ga gb : GE) : GE := fun ρ st => (ga ρ st).bind fun x st1 => (gb ρ st1).bind fun y st2 => (op x y st2).nox
def ReadW (X : Cx) (op : Op2) (r : R2) : Prop := ∀ (x y : Wv) (a b : V) (st : Hs) (H : Hp) (m : Mp) (Q : VK), Sim X.K m st H → RelW X.K m H x a → RelW X.K m H y b → PostO X.K m H (op x y st) Q → r a b H Q
def OpW (X : Cx) (f : Value → Value → Sem Value) (op : Op2) : Prop := ∃ r, OpR X f r ∧ ReadW X op r
theorem read2 {a b : Expr} {ga gb : GE} {op : Op2} {r : R2} (h2 : ReadW X op r) (ha : JE X a ga) (hb : JE X b gb) {ρ : Rho} {st : Hs} {σ : St} {H : Hp} {m : Mp} {Q : VK} (S : Sim X.K m st H) (R : RelEnv X.K m H ρ σ) (p : PostE X σ m H (gBin op ga gb ρ st) Q) :
    tOp r (SE X a) (SE X b) σ H Q := by
  refine ha.go S R (PostG.bind p) fun x st1 v m1 H1 p1 e1 S1 rx => ?_
  refine hb.go S1 (R.mono e1) ((PostG.bind p1).imp e1 fun _ _ q => q) fun y st2 u m2 H2 p2 e2 S2 ry => ?_
  exact h2 x y v u st2 H2 m2 Q S2 (RelW.mono e2 _ _ rx) ry (PostO.shift (PostG.nox p2) (e1.trans e2))
theorem je_bin {a b : Expr} {ga gb : GE} {o : Operator} {op : Op2} {pos : Pos} (ho : OpW X (binaryOp o) op) (ha : JE X a ga) (hb : JE X b gb) : JE X (.BinOp a o b pos) (gBin op ga gb) := by
  obtain ⟨r, h1, h2⟩ := ho
  exact JE.of (pe_op h1 pe_SE pe_SE) fun ρ st σ H m Q S R p => read2 h2 ha hb S R p
theorem je_cmp {a b : Expr} {ga gb : GE} {o : CmpOp} {op : Op2} {pos : Pos} (ho : OpW X (compareOp o) op) (ha : JE X a ga) (hb : JE X b gb) (hm : behindInMarks o b = false) : JE X (.Compare a [o] [b] pos) (gBin op ga gb) := by
  obtain ⟨r, h1, h2⟩ := ho
  exact JE.of (pe_cmpR h1 pe_SE pe_SE hm) fun ρ st σ H m Q S R p => read2 h2 ha hb S R p
def tst (w : Wv) (st : Hs) : Re Bool := match w with
  | .bl b => .ok b st
  | _ => .bad
def gTst (g : GE) : GT := fun ρ st => (g ρ st).bind tst
theorem post_tst {σ : St} {m : Mp} {H : Hp} {r : Re Wv} {Q : Bool → Hp → Prop} (p : PostT X σ m H (r.bind tst) Q) : PostE X σ m H r (fun x H' => ∃ k, x = .bl k ∧ Q k H') := by
  cases r with
  | ok w st =>
    cases w with
    | bl b =>
      intro v m' H' e S rw'
      unfold RelW at rw'
      exact ⟨b, rw', p m' H' e S⟩
    | _ => exact False.elim p
  | err c st => exact p
  | bad => exact p
theorem jt_cmp {a b : Expr} {ga gb : GE} {o : CmpOp} {op : Op2} {pos : Pos} (ho : OpW X (compareOp o) op) (ha : JE X a ga) (hb : JE X b gb) (hm : behindInMarks o b = false) : JT X (.Compare a [o] [b] pos) (gTst (gBin op ga gb)) := by
  obtain ⟨r, h1, h2⟩ := ho
  exact JT.of (pt_cmpR h1 pe_SE pe_SE hm) fun ρ st σ H m Q S R p => read2 h2 ha hb S R (post_tst p)
def gChain (op op' : Op2) (ga gb gc : GE) : GE := fun ρ st => (ga ρ st).bind fun x st1 => (gb ρ st1).bind fun y st2 => (op x y st2).nox.bind fun z st3 => match z with
  | .bl true => (gc ρ st3).bind fun u st4 => (op' y u st4).nox
  | .bl false => .ok (.bl false) st3
  | _ => .bad
theorem readC {a b c : Expr} {ga gb gc : GE} {op op' : Op2} {r r' : R2} (h2 : ReadW X op r) (h2' : ReadW X op' r') (ha : JE X a ga) (hb : JE X b gb) (hc : JE X c gc) {ρ : Rho} {st : Hs} {σ : St} {H : Hp} {m : Mp} {Q : VK}
    (S : Sim X.K m st H) (R : RelEnv X.K m H ρ σ) (p : PostE X σ m H (gChain op op' ga gb gc ρ st) Q) : tChain r r' (SE X a) (SE X b) (SE X c) σ H Q := by
  refine ha.go S R (PostG.bind p) fun x st1 v m1 H1 p1 e1 S1 rx => ?_
  refine hb.go S1 (R.mono e1) ((PostG.bind p1).imp e1 fun _ _ q => q) fun y st2 u m2 H2 p2 e2 S2 ry => ?_
  refine h2 x y v u st2 H2 m2 _ S2 (RelW.mono e2 _ _ rx) ry (PostN.imp (PostG.nox (PostG.bind p2)) fun z st3 p3 => ?_)
  intro z' m3 H3 e3 S3 rz
  cases z with
  | bl k =>
    unfold RelW at rz
    refine ⟨k, rz, ?_⟩
    cases k with
    | true =>
      rw [if_pos rfl]
      refine hc.go S3 (R.mono (e1.trans (e2.trans e3))) ((PostG.bind p3).imp (e1.trans (e2.trans e3)) fun _ _ q => q) fun q st4 u' m4 H4 p4 e4 S4 rq => ?_
      exact h2' y q u u' st4 H4 m4 Q S4 (RelW.mono (e3.trans e4) _ _ ry) rq (PostO.shift (PostG.nox p4) (e1.trans (e2.trans (e3.trans e4))))
    | false =>
      rw [if_neg Bool.false_ne_true]
      exact p3 (.bl false) m3 H3 (e1.trans (e2.trans e3)) S3 (by unfold RelW; rfl)
  | _ => exact False.elim p3
theorem je_chain {a b c : Expr} {ga gb gc : GE} {o o' : CmpOp} {op op' : Op2} {pos : Pos} (ho : OpW X (compareOp o) op) (ho' : OpW X (compareOp o') op') (ha : JE X a ga) (hb : JE X b gb) (hc : JE X c gc)
    (hm : lastMarks [o, o'] [b, c] = false := by with_unfolding_all rfl) : JE X (.Compare a [o, o'] [b, c] pos) (gChain op op' ga gb gc) := by
  obtain ⟨r, h1, h2⟩ := ho
  obtain ⟨r', h1', h2'⟩ := ho'
  exact JE.of (pe_chain h1 h1' pe_SE pe_SE pe_SE hm) fun ρ st σ H m Q S R p => readC h2 h2' ha hb hc S R p
theorem jt_chain {a b c : Expr} {ga gb gc : GE} {o o' : CmpOp} {op op' : Op2} {pos : Pos} (ho : OpW X (compareOp o) op) (ho' : OpW X (compareOp o') op') (ha : JE X a ga) (hb : JE X b gb) (hc : JE X c gc)
    (hm : lastMarks [o, o'] [b, c] = false := by with_unfolding_all rfl) : JT X (.Compare a [o, o'] [b, c] pos) (gTst (gChain op op' ga gb gc)) := by
  obtain ⟨r, h1, h2⟩ := ho
  obtain ⟨r', h1', h2'⟩ := ho'
  exact JT.of (pt_chain h1 h1' pe_SE pe_SE pe_SE hm) fun ρ st σ H m Q S R p => readC h2 h2' ha hb hc S R (post_tst p)
def gUn (op : Wv → Hs → Re Wv) (ga : GE) : GE := fun ρ st => (ga ρ st).bind op
def opNeg : Wv → Hs → Re Wv
  | .int i, st => .ok (.int (-i)) st
  | _, _ => .bad
theorem je_neg {a : Expr} {ga : GE} {pos : Pos} (ha : JE X a ga) : JE X (.UnaryOp .USub a pos) (gUn opNeg ga) := by
  refine JE.of (pe_un un_neg pe_SE) fun ρ st σ H m Q S R p => ?_
  refine ha.go S R (PostG.bind p) fun x st1 v m1 H1 p1 e1 S1 rx => ?_
  cases x with
  | int i =>
    unfold RelW at rx
    exact ⟨i, rx, p1 _ m1 H1 e1 S1 (by unfold RelW; rfl)⟩
  | _ => exact False.elim p1
def SW (X : Cx) (e : Expr) : TT := fun σ H Q => ∀ (wh : Sem Value) (pins : List (Addr × Obj)) (s : Shared), Inv X pins σ H s → wpAny (model X.prog X.w) X.A (isTrue e X.env wh) (TP X pins σ Q) X.xe s
theorem pw_SW {e : Expr} : PW X e (SW X e) := fun wh pins s _ _ _ I h => h wh pins s I
def JW (X : Cx) (e : Expr) (g : GT) : Prop := ∀ (ρ : Rho) (st : Hs) (σ : St) (H : Hp) (m : Mp) (Q : Bool → Hp → Prop), Sim X.K m st H → RelEnv X.K m H ρ σ → PostT X σ m H (g ρ st) Q → SW X e σ H Q
theorem JW.of {e : Expr} {g : GT} {t : TT} (h : PW X e t) (k : ∀ (ρ : Rho) (st : Hs) (σ : St) (H : Hp) (m : Mp) (Q : Bool → Hp → Prop), Sim X.K m st H → RelEnv X.K m H ρ σ → PostT X σ m H (g ρ st) Q → t σ H Q) : JW X e g :=
  fun ρ st σ H m Q S R p wh pins s I => h wh pins s σ H Q I (k ρ st σ H m Q S R p)
theorem JW.jt {e : Expr} {g : GT} (h : JW X e g) : JT X e g := fun ρ st σ H m Q S R p pins s I => h ρ st σ H m Q S R p _ pins s I
def gAnd (ga gb : GT) : GT := fun ρ st => (ga ρ st).bind fun b st1 => if b = true then gb ρ st1 else .ok false st1
def gOr (ga gb : GT) : GT := fun ρ st => (ga ρ st).bind fun b st1 => if b = true then .ok true st1 else gb ρ st1
def gNot (ga : GT) : GT := fun ρ st => (ga ρ st).bind fun b st1 => .ok (!b) st1
theorem jw_and1 {a : Expr} {ga : GT} {pos : Pos} (ha : JT X a ga) : JW X (.BoolOp .And [a] pos) ga := JW.of (pw_and1 pt_ST) fun ρ st σ H m Q S R p => ha ρ st σ H m Q S R p
theorem jw_or1 {a : Expr} {ga : GT} {pos : Pos} (ha : JT X a ga) : JW X (.BoolOp .Or [a] pos) ga := JW.of (pw_or1 pt_ST) fun ρ st σ H m Q S R p => ha ρ st σ H m Q S R p
theorem jw_and {a b : Expr} {rest : List Expr} {ga gb : GT} {pos : Pos} (ha : JT X a ga) (hb : JW X (.BoolOp .And (b :: rest) pos) gb) : JW X (.BoolOp .And (a :: b :: rest) pos) (gAnd ga gb) := by
  refine JW.of (pw_and pt_ST pw_SW) fun ρ st σ H m Q S R p => ?_
  refine ha.go S R (PostG.bind p) fun c st1 m1 H1 p1 e1 S1 => ?_
  cases c with
  | true => rw [if_pos rfl] at p1 ⊢; exact hb ρ st1 σ H1 m1 Q S1 (R.mono e1) (PostT.shift p1 e1)
  | false => rw [if_neg Bool.false_ne_true] at p1 ⊢; exact p1 m1 H1 e1 S1
theorem jw_or {a b : Expr} {rest : List Expr} {ga gb : GT} {pos : Pos} (ha : JT X a ga) (hb : JW X (.BoolOp .Or (b :: rest) pos) gb) : JW X (.BoolOp .Or (a :: b :: rest) pos) (gOr ga gb) := by
  refine JW.of (pw_or pt_ST pw_SW) fun ρ st σ H m Q S R p => ?_
  refine ha.go S R (PostG.bind p) fun c st1 m1 H1 p1 e1 S1 => ?_
  cases c with
  | true => rw [if_pos rfl] at p1 ⊢; exact p1 m1 H1 e1 S1
  | false => rw [if_neg Bool.false_ne_true] at p1 ⊢; exact hb ρ st1 σ H1 m1 Q S1 (R.mono e1) (PostT.shift p1 e1)
theorem jt_not {a : Expr} {ga : GT} {pos : Pos} (ha : JT X a ga) : JT X (.UnaryOp .Not a pos) (gNot ga) := by
  refine JT.of (pt_not pt_ST) fun ρ st σ H m Q S R p => ?_
  exact ha.go S R (PostG.bind p) fun c st1 m1 H1 p1 e1 S1 => p1 m1 H1 e1 S1
def gAndV (ga gb : GE) : GE := fun ρ st => (ga ρ st).bind fun w st1 => match w with
  | .bl true => gb ρ st1
  | .bl false => .ok (.bl false) st1
  | _ => .bad
def gOrV (ga gb : GE) : GE := fun ρ st => (ga ρ st).bind fun w st1 => match w with
  | .bl true => .ok (.bl true) st1
  | .bl false => gb ρ st1
  | _ => .bad
def gNotV (ga : GE) : GE := fun ρ st => (ga ρ st).bind fun w st1 => match w with
  | .bl b => .ok (.bl (!b)) st1
  | _ => .bad
theorem je_one {op} {a : Expr} {ga : GE} {pos : Pos} (ha : JE X a ga) : JE X (.BoolOp op [a] pos) ga := JE.of (pe_one pe_SE) fun ρ st σ H m Q S R p => ha ρ st σ H m Q S R p
theorem je_and {a b : Expr} {rest : List Expr} {ga gb : GE} {pos : Pos} (ha : JE X a ga) (hb : JE X (.BoolOp .And (b :: rest) pos) gb) : JE X (.BoolOp .And (a :: b :: rest) pos) (gAndV ga gb) := by
  refine JE.of (pe_and pe_SE pe_SE) fun ρ st σ H m Q S R p => ?_
  refine ha.go S R (PostG.bind p) fun x st1 v m1 H1 p1 e1 S1 rx => ?_
  cases x with
  | bl c =>
    unfold RelW at rx
    refine ⟨c, rx, ?_⟩
    cases c with
    | true => rw [if_pos rfl]; exact hb ρ st1 σ H1 m1 Q S1 (R.mono e1) (PostE.shift p1 e1)
    | false => rw [if_neg Bool.false_ne_true]; exact p1 _ m1 H1 e1 S1 (by unfold RelW; rfl)
  | _ => exact False.elim p1
theorem je_or {a b : Expr} {rest : List Expr} {ga gb : GE} {pos : Pos} (ha : JE X a ga) (hb : JE X (.BoolOp .Or (b :: rest) pos) gb) : JE X (.BoolOp .Or (a :: b :: rest) pos) (gOrV ga gb) := by
  refine JE.of (pe_or pe_SE pe_SE) fun ρ st σ H m Q S R p => ?_
  refine ha.go S R (PostG.bind p) fun x st1 v m1 H1 p1 e1 S1 rx => ?_
  cases x with
  | bl c =>
    unfold RelW at rx
    refine ⟨c, rx, ?_⟩
    cases c with
    | true => rw [if_pos rfl]; exact p1 _ m1 H1 e1 S1 (by unfold RelW; rfl)
    | false => rw [if_neg Bool.false_ne_true]; exact hb ρ st1 σ H1 m1 Q S1 (R.mono e1) (PostE.shift p1 e1)
  | _ => exact False.elim p1
theorem je_not {a : Expr} {ga : GE} {pos : Pos} (ha : JE X a ga) : JE X (.UnaryOp .Not a pos) (gNotV ga) := by
  refine JE.of (pe_not pe_SE) fun ρ st σ H m Q S R p => ?_
  refine ha.go S R (PostG.bind p) fun x st1 v m1 H1 p1 e1 S1 rx => ?_
  cases x with
  | bl c =>
    unfold RelW at rx
    exact ⟨c, rx, p1 _ m1 H1 e1 S1 (by unfold RelW; rfl)⟩
  | _ => exact False.elim p1
def gIfE (gt : GT) (ga gb : GE) : GE := fun ρ st => (gt ρ st).bind fun b st1 => if b = true then ga ρ st1 else gb ρ st1
theorem je_if {c a b : Expr} {gt : GT} {ga gb : GE} {pos : Pos} (hc : JT X c gt) (ha : JE X a ga) (hb : JE X b gb) : JE X (.IfExp c a b pos) (gIfE gt ga gb) := by
  refine JE.of (pe_ifExp pt_ST pe_SE pe_SE) fun ρ st σ H m Q S R p => ?_
  refine hc.go S R (PostG.bind p) fun k st1 m1 H1 p1 e1 S1 => ?_
  cases k with
  | true => rw [if_pos rfl] at p1 ⊢; exact ha ρ st1 σ H1 m1 Q S1 (R.mono e1) (PostE.shift p1 e1)
  | false => rw [if_neg Bool.false_ne_true] at p1 ⊢; exact hb ρ st1 σ H1 m1 Q S1 (R.mono e1) (PostE.shift p1 e1)
def gNil : GA := fun _ st => .ok [] st
def gCons (ga : GE) (gr : GA) : GA := fun ρ st => (ga ρ st).bind fun x st1 => (gr ρ st1).bind fun xs st2 => .ok (x :: xs) st2
theorem ja_nil : JA X [] gNil := JA.of pa_nil fun ρ st σ H m Q S R p => p [] m H Ext.refl S RelWs.nil
theorem ja_cons {e : Expr} {es : List Expr} {ga : GE} {gr : GA} (ha : JE X e ga) (hr : JA X es gr) (hs : starEach (e :: es) X.env = (false, eval e X.env) :: starEach es X.env := by rfl) : JA X (e :: es) (gCons ga gr) := by
  refine JA.of (pa_cons pe_SE pa_SA hs) fun ρ st σ H m Q S R p => ?_
  refine ha.go S R (PostG.bind p) fun x st1 v m1 H1 p1 e1 S1 rx => ?_
  refine hr.go S1 (R.mono e1) ((PostG.bind p1).imp e1 fun _ _ q => q) fun xs st2 vs m2 H2 p2 e2 S2 rs => ?_
  exact p2 (v :: vs) m2 H2 (e1.trans e2) S2 (RelWs.cons (RelW.mono e2 _ _ rx) rs)
def gTup (g : GA) : GE := fun ρ st => (g ρ st).bind fun ws st1 => if ws.length ≤ lim then .ok (.tup ws) st1 else .bad
def gLst (g : GA) : GE := fun ρ st => (g ρ st).bind fun ws st1 => if ws.length ≤ lim then .ok (.ref st1.length) (st1 ++ [.lst ws]) else .bad
theorem je_tup {es : List Expr} {g : GA} {x1 pos} (h : JA X es g) : JE X (.Tuple es x1 pos) (gTup g) := by
  refine JE.of (pe_tup pa_SA) fun ρ st σ H m Q S R p => ?_
  refine h.go S R (PostG.bind p) fun ws st1 vs m1 H1 p1 e1 S1 rs => ?_
  by_cases hl : ws.length ≤ lim
  · rw [if_pos hl] at p1
    refine ⟨by rw [← rs.length]; exact lim_le hl, fun q hq => ?_⟩
    have e2 : Ext X.K m1 H1 m1 (upd H1 q (.tup vs)) := Ext.upd (.inl hq)
    exact p1 (.ref q) m1 _ (e1.trans e2) (S1.fresh hq) (by unfold RelW; exact ⟨q, vs, rfl, upd_same, RelWs.mono e2 _ _ rs⟩)
  · rw [if_neg hl] at p1; exact False.elim p1
theorem Sim.newest {K : PySem.W.Frag} {m : Mp} {st : Hs} {H : Hp} (S : Sim K m st H) (q : Addr) (H' : Hp) : RelW K (m ++ [q]) H' (.ref st.length) (.ref q) := by
  unfold RelW
  refine ⟨q, rfl, ?_⟩
  rw [← S.len, List.getElem?_append_right (Nat.le_refl _), Nat.sub_self]
  rfl
theorem new_list {m m1 : Mp} {H H1 : Hp} {st1 : Hs} {ws : List Wv} {vs : List V} {Q : VK} (p1 : okE X.K m H Q (.ref st1.length) (st1 ++ [.lst ws])) (e1 : Ext X.K m H m1 H1) (S1 : Sim X.K m1 st1 H1) (rs : RelWs X.K m1 H1 ws vs) (q : Addr) (hq : H1 q = none) :
    Q (.ref q) (upd H1 q (.lst vs)) :=
  p1 (.ref q) (m1 ++ [q]) _ (e1.trans (Ext.more.trans (Ext.upd (.inl hq)))) (S1.alloc hq rs) (S1.newest q _)
theorem je_lst {es : List Expr} {g : GA} {pos} (h : JA X es g) : JE X (.List es pos) (gLst g) := by
  refine JE.of (pe_lst pa_SA) fun ρ st σ H m Q S R p => ?_
  refine h.go S R (PostG.bind p) fun ws st1 vs m1 H1 p1 e1 S1 rs => ?_
  by_cases hl : ws.length ≤ lim
  · rw [if_pos hl] at p1
    exact ⟨by rw [← rs.length]; exact lim_le hl, fun q hq => new_list p1 e1 S1 rs q hq⟩
  · rw [if_neg hl] at p1; exact False.elim p1
end
end J
namespace J
open PySem PySem.Spec PyProof.Rows L2
section
variable {X : Cx}
theorem OpR.or {f : Value → Value → Sem Value} {r r' : R2} (h : OpR X f r) (h' : OpR X f r') : OpR X f (fun x y H Q => r x y H Q ∨ r' x y H Q) := by
  intro pins s σ H x y v u Q I rx ry q
  rcases q with q | q
  · exact h pins s σ H x y v u Q I rx ry q
  · exact h' pins s σ H x y v u Q I rx ry q
theorem op_fdivG : OpR X (binaryOp .FloorDiv) (rI (fun _ j => j ≠ 0 ∧ j.natAbs.log2 < 9000) fun i j => .int (i.fdiv j)) := opI fun i j _ _ _ _ _ hc q => floordiv_int hc.1 q (.inl (PyProof.noPylong_of_log2 hc.2))
theorem op_modG : OpR X (binaryOp .Mod) (rI (fun _ j => j ≠ 0) fun i j => .int (i.fmod j)) := opI fun i j _ _ _ _ _ hc q => mod_int' hc q
theorem op_mulG : OpR X (binaryOp .Mult) (rI (fun i j => IntMulOk i j) fun i j => .int (i * j)) := opI fun _ _ _ _ _ _ _ hc q => mul_int q hc
instance mulDec {a b : Int} : Decidable (IntMulOk a b) := by unfold IntMulOk; infer_instance
def oSub : Op2
  | .int i, .int j, st => .ok (.int (i - j)) st
  | _, _, _ => .bad
def oFdiv : Op2
  | .int i, .int j, st => if j ≠ 0 ∧ j.natAbs.log2 < 9000 then .ok (.int (i.fdiv j)) st else .bad
  | _, _, _ => .bad
def oMod : Op2
  | .int i, .int j, st => if j ≠ 0 then .ok (.int (i.fmod j)) st else .bad
  | _, _, _ => .bad
def oPow : Op2
  | .int i, .int j, st => if 0 ≤ j ∧ j ≤ 1000000 ∧ i.natAbs < 2 ^ 64 then .ok (.int (i ^ j.toNat)) st else .bad
  | _, _, _ => .bad
def oLt0 : Op2
  | .int i, .int j, st => .ok (.bl (decide (i < j))) st
  | .str i, .str j, st => .ok (.bl (decide (i.cps.toList < j.cps.toList))) st
  | _, _, _ => .bad
def oLe0 : Op2
  | .int i, .int j, st => .ok (.bl (decide (i ≤ j))) st
  | _, _, _ => .bad
def oGt : Op2
  | .int i, .int j, st => .ok (.bl (decide (j < i))) st
  | _, _, _ => .bad
def oGe : Op2
  | .int i, .int j, st => .ok (.bl (decide (j ≤ i))) st
  | _, _, _ => .bad
theorem relInt {m : Mp} {H : Hp} {i : Int} {a : V} (h : RelW X.K m H (.int i) a) : a = .int i := by unfold RelW at h; exact h
theorem relStr {m : Mp} {H : Hp} {x : PySem.Str} {a : V} (h : RelW X.K m H (.str x) a) : a = .str x ∧ PyData.strOk x = true := by unfold RelW at h; exact h
theorem mkInt {m : Mp} {H : Hp} {i : Int} : RelW X.K m H (.int i) (.int i) := by unfold RelW; rfl
theorem mkBl {m : Mp} {H : Hp} {i : Bool} : RelW X.K m H (.bl i) (.bl i) := by unfold RelW; rfl
theorem mkNon {m : Mp} {H : Hp} : RelW X.K m H .non .non := by unfold RelW; rfl
theorem mkStr {m : Mp} {H : Hp} {x : PySem.Str} (h : PyData.strOk x = true) : RelW X.K m H (.str x) (.str x) := by unfold RelW; exact ⟨rfl, h⟩
theorem ow_sub : OpW X (binaryOp .Sub) oSub := ⟨_, op_sub, fun x y a b st H m Q S rx ry p => by
  cases x with
  | int i =>
    cases y with
    | int j => exact ⟨i, j, relInt rx, relInt ry, p _ m H Ext.refl S mkInt⟩
    | _ => exact False.elim p
  | _ => cases y <;> exact False.elim p⟩
theorem ow_fdiv : OpW X (binaryOp .FloorDiv) oFdiv := ⟨_, op_fdivG, fun x y a b st H m Q S rx ry p => by
  cases x with
  | int i =>
    cases y with
    | int j =>
      dsimp only [oFdiv] at p
      by_cases c : j ≠ 0 ∧ j.natAbs.log2 < 9000
      · rw [if_pos c] at p; exact ⟨i, j, relInt rx, relInt ry, c, p _ m H Ext.refl S mkInt⟩
      · rw [if_neg c] at p; exact False.elim p
    | _ => exact False.elim p
  | _ => cases y <;> exact False.elim p⟩
theorem ow_mod : OpW X (binaryOp .Mod) oMod := ⟨_, op_modG, fun x y a b st H m Q S rx ry p => by
  cases x with
  | int i =>
    cases y with
    | int j =>
      dsimp only [oMod] at p
      by_cases c : j ≠ 0
      · rw [if_pos c] at p; exact ⟨i, j, relInt rx, relInt ry, c, p _ m H Ext.refl S mkInt⟩
      · rw [if_neg c] at p; exact False.elim p
    | _ => exact False.elim p
  | _ => cases y <;> exact False.elim p⟩
theorem ow_pow : OpW X (binaryOp .Pow) oPow := ⟨_, op_pow, fun x y a b st H m Q S rx ry p => by
  cases x with
  | int i =>
    cases y with
    | int j =>
      dsimp only [oPow] at p
      by_cases c : 0 ≤ j ∧ j ≤ 1000000 ∧ i.natAbs < 2 ^ 64
      · rw [if_pos c] at p; exact ⟨i, j, relInt rx, relInt ry, c, p _ m H Ext.refl S mkInt⟩
      · rw [if_neg c] at p; exact False.elim p
    | _ => exact False.elim p
  | _ => cases y <;> exact False.elim p⟩
theorem ow_lt : OpW X (compareOp .Lt) oLt0 := ⟨_, OpR.or op_lt op_lt_str, fun x y a b st H m Q S rx ry p => by
  cases x with
  | int i =>
    cases y with
    | int j => exact .inl ⟨i, j, relInt rx, relInt ry, p _ m H Ext.refl S mkBl⟩
    | _ => exact False.elim p
  | str i =>
    cases y with
    | str j => exact .inr ⟨i, j, (relStr rx).1, (relStr ry).1, p _ m H Ext.refl S mkBl⟩
    | _ => exact False.elim p
  | _ => cases y <;> exact False.elim p⟩
theorem ow_le : OpW X (compareOp .LtE) oLe0 := ⟨_, op_le, fun x y a b st H m Q S rx ry p => by
  cases x with
  | int i =>
    cases y with
    | int j => exact ⟨i, j, relInt rx, relInt ry, p _ m H Ext.refl S mkBl⟩
    | _ => exact False.elim p
  | _ => cases y <;> exact False.elim p⟩
theorem ow_gt : OpW X (compareOp .Gt) oGt := ⟨_, op_gt, fun x y a b st H m Q S rx ry p => by
  cases x with
  | int i =>
    cases y with
    | int j => exact ⟨i, j, relInt rx, relInt ry, p _ m H Ext.refl S mkBl⟩
    | _ => exact False.elim p
  | _ => cases y <;> exact False.elim p⟩
theorem ow_ge : OpW X (compareOp .GtE) oGe := ⟨_, op_ge, fun x y a b st H m Q S rx ry p => by
  cases x with
  | int i =>
    cases y with
    | int j => exact ⟨i, j, relInt rx, relInt ry, p _ m H Ext.refl S mkBl⟩
    | _ => exact False.elim p
  | _ => cases y <;> exact False.elim p⟩
def oIs : Op2
  | x, .non, st => .ok (.bl (match x with | .non => true | _ => false)) st
  | _, _, _ => .bad
def oIsNot : Op2
  | x, .non, st => .ok (.bl (match x with | .non => false | _ => true)) st
  | _, _, _ => .bad
theorem isNon {m : Mp} {H : Hp} {x : Wv} {a : V} (h : RelW X.K m H x a) : decide (a = V.non) = (match x with | .non => true | _ => false) := by
  cases x with
  | non => unfold RelW at h; subst h; rfl
  | bl b => unfold RelW at h; subst h; rfl
  | int b => unfold RelW at h; subst h; rfl
  | str b => unfold RelW at h; obtain ⟨h, _⟩ := h; subst h; rfl
  | tup b => unfold RelW at h; obtain ⟨q, xs, h, _⟩ := h; subst h; rfl
  | ktp b => unfold RelW at h; obtain ⟨q, xs, h, _⟩ := h; subst h; rfl
  | ref b => unfold RelW at h; obtain ⟨q, h, _⟩ := h; subst h; rfl
  | ty b => unfold RelW at h; subst h; rfl
  | cls b => unfold RelW at h; obtain ⟨q, h, _⟩ := h; subst h; rfl
  | exn b => unfold RelW at h; obtain ⟨q, C, h, _⟩ := h; subst h; rfl
  | fn fp b => unfold RelW at h; obtain ⟨h, _⟩ := h; subst h; rfl
theorem ow_is : OpW X (compareOp .Is) oIs := ⟨_, op_isN, fun x y a b st H m Q S rx ry p => by
  cases y with
  | non =>
    refine ⟨by unfold RelW at ry; exact ry, ?_⟩
    rw [isNon rx]
    cases x <;> exact p _ m H Ext.refl S mkBl
  | _ => cases x <;> exact False.elim p⟩
theorem ow_isnot : OpW X (compareOp .IsNot) oIsNot := ⟨_, op_notN, fun x y a b st H m Q S rx ry p => by
  cases y with
  | non =>
    refine ⟨by unfold RelW at ry; exact ry, ?_⟩
    rw [isNon rx]
    cases x <;> exact p _ m H Ext.refl S mkBl
  | _ => cases x <;> exact False.elim p⟩
theorem strOk_append {a b : PySem.Str} (ha : PyData.strOk a = true) (hb : PyData.strOk b = true) : PyData.strOk (a ++ b) = true := by
  unfold PyData.strOk at *
  show ((a.cps ++ b.cps).all _) = true
  rw [Array.all_append, ha, hb]
  rfl
def rCatL (K : PySem.W.Frag) : R2 := fun x y H Q => ∃ l b xs zs, x = .ref l ∧ y = .ref b ∧ SqL K H l xs ∧ SqL K H b zs ∧ xs.length + zs.length ≤ sizeLine ∧ ∀ p, H p = none → Q (.ref p) (upd H p (.lst (xs ++ zs)))
theorem op_catL : OpR X (binaryOp .Add) (rCatL X.K) := by
  intro pins s σ H x y v u Q I rx ry h
  obtain ⟨l, b, xs, zs, rfl, rfl, hH, hB, hz, q⟩ := h
  cases rx
  cases ry
  obtain ⟨its, r, pl, hs⟩ := I.list hH
  obtain ⟨its2, r2, pl2, hs2⟩ := I.list hB
  have hl := r.length
  have hl2 := r2.length
  obtain ⟨⟨cls, dd, data, sl⟩, ho, hc, n, hd⟩ := id pl.isList
  obtain ⟨⟨cls2, dd2, data2, sl2⟩, ho2, hc2, n2, hd2⟩ := id pl2.isList
  simp only at hc hd hc2 hd2
  subst hc hd hc2 hd2
  have e : its.toArray ++ its2.toArray = (its ++ its2).toArray := by simp
  refine PySem.concat_meets ⟨_, ho, rfl⟩ ⟨_, ho2, rfl⟩ PySem.noFill_list_add PySem.seq_list_add PySem.F.slot_list_add PySem.F.entry_list_add (PySem.F.args_list_add_2 _ _) (list_addW l b its.toArray its2.toArray n n2 dd dd2 sl sl2 (by simp; omega)) ⟨ho, ho2, ?_⟩
  rw [e]
  exact ⟨.ref _, _, I.lnew (t' := s.toks) (r.append r2) (by rw [List.length_append]; omega), rfl, q _ I.fresh⟩
def rCatE (K : PySem.W.Frag) : R2 := fun x y H Q => ∃ a b ys, x = .ref a ∧ y = .ref b ∧ SqT K H a [] ∧ SqT K H b ys ∧ Q (.ref b) H
theorem op_catE : OpR X (binaryOp .Add) (rCatE X.K) := by
  intro pins s σ H x y v u Q I rx ry h
  obtain ⟨a, b, ys, rfl, rfl, ha, hb, q⟩ := h
  cases rx
  cases ry
  obtain ⟨its, r1, p1, _⟩ := I.tuple ha
  obtain ⟨its2, r2, p2, _⟩ := I.tuple hb
  cases r1
  obtain ⟨⟨c1, d1, t1, l1⟩, g1, k1, n1, j1⟩ := id p1
  obtain ⟨⟨c2, d2, t2, l2⟩, g2, k2, n2, j2⟩ := id p2
  simp only at k1 j1 k2 j2
  subst k1 j1 k2 j2
  exact PySem.concat_meets ⟨_, g1, rfl⟩ ⟨_, g2, rfl⟩ PySem.noFill_tuple_add PySem.seq_tuple_add PySem.F.slot_tuple_add PySem.F.entry_tuple_add (PySem.F.args_tuple_add_2 _ _) (tuple_addW0 a b #[] its2.toArray n1 n2 d1 d2 l1 l2 (by simp)) ⟨g1, g2, ⟨.ref b, H, I, rfl, q⟩⟩
def oAdd : Op2
  | .int i, .int j, st => .ok (.int (i + j)) st
  | .str i, .str j, st => if i.length + j.length ≤ lim then .ok (.str (i ++ j)) st else .bad
  | .tup i, .tup j, st => if i.length + j.length ≤ lim then .ok (.tup (i ++ j)) st else .bad
  | .ref l, .ref k, st => match lstOf st l, lstOf st k with
    | some i, some j => if i.length + j.length ≤ lim then .ok (.ref st.length) (st ++ [.lst (i ++ j)]) else .bad
    | _, _ => .bad
  | _, _, _ => .bad
instance {α : Type} {xs : List α} : Decidable (xs ≠ []) := match xs with
  | [] => isFalse (fun h => h rfl)
  | _ :: _ => isTrue (fun h => by cases h)
theorem ow_add : OpW X (binaryOp .Add) oAdd := ⟨_, OpR.or op_add (OpR.or op_add_str (OpR.or op_catT (OpR.or op_catL op_catE))), fun x y a b st H m Q S rx ry p => by
  cases x with
  | int i =>
    cases y with
    | int j => exact .inl ⟨i, j, relInt rx, relInt ry, p _ m H Ext.refl S mkInt⟩
    | _ => exact False.elim p
  | str i =>
    cases y with
    | str j =>
      dsimp only [oAdd] at p
      by_cases c : i.length + j.length ≤ lim
      · rw [if_pos c] at p
        exact .inr (.inl ⟨i, j, (relStr rx).1, (relStr ry).1, lim_le c, p _ m H Ext.refl S (mkStr (strOk_append (relStr rx).2 (relStr ry).2))⟩)
      · rw [if_neg c] at p; exact False.elim p
    | _ => exact False.elim p
  | tup i =>
    cases y with
    | tup j =>
      dsimp only [oAdd] at p
      by_cases c : i.length + j.length ≤ lim
      · rw [if_pos c] at p
        by_cases c0 : i = []
        · subst c0
          unfold RelW at rx ry
          obtain ⟨a1, xs, rfl, h1, h2⟩ := rx
          obtain ⟨a2, ys, rfl, h3, h4⟩ := ry
          have l1 : xs = [] := List.eq_nil_of_length_eq_zero h2.length.symm
          subst l1
          exact .inr (.inr (.inr (.inr ⟨a1, a2, ys, rfl, rfl, SqT.of h1, SqT.of h3, p (.ref a2) m H Ext.refl S (by rw [List.nil_append]; unfold RelW; exact ⟨a2, ys, rfl, h3, h4⟩)⟩)))
        unfold RelW at rx ry
        obtain ⟨a1, xs, rfl, h1, h2⟩ := rx
        obtain ⟨a2, ys, rfl, h3, h4⟩ := ry
        have l1 := h2.length
        have l2 := h4.length
        have n1 : xs ≠ [] := fun z => by rw [z] at l1; exact c0 (List.eq_nil_of_length_eq_zero l1)
        refine .inr (.inr (.inl ⟨a1, a2, xs, ys, rfl, rfl, SqT.of h1, SqT.of h3, n1, by rw [← l1, ← l2]; exact lim_le c, fun z => ?_, fun _ q hq => ?_⟩))
        · rw [z] at l2
          rw [List.eq_nil_of_length_eq_zero l2, List.append_nil] at p
          exact p (.ref a1) m H Ext.refl S (by unfold RelW; exact ⟨a1, xs, rfl, h1, h2⟩)
        have e2 : Ext X.K m H m (upd H q (.tup (xs ++ ys))) := Ext.upd (.inl hq)
        exact p (.ref q) m _ e2 (S.fresh hq) (by unfold RelW; exact ⟨q, xs ++ ys, rfl, upd_same, RelWs.mono e2 _ _ (h2.append h4)⟩)
      · rw [if_neg c] at p; exact False.elim p
    | _ => exact False.elim p
  | ref l =>
    cases y with
    | ref k =>
      dsimp only [oAdd] at p
      unfold RelW at rx ry
      obtain ⟨a1, rfl, h1⟩ := rx
      obtain ⟨a2, rfl, h2⟩ := ry
      cases e1 : lstOf st l with
      | none => rw [e1] at p; exact False.elim p
      | some i =>
        cases e2 : lstOf st k with
        | none => rw [e1, e2] at p; exact False.elim p
        | some j =>
          rw [e1, e2] at p
          by_cases c : i.length + j.length ≤ lim
          · simp only [if_pos c] at p
            obtain ⟨xs, q1, q2⟩ := S.read h1 e1
            obtain ⟨ys, q3, q4⟩ := S.read h2 e2
            exact .inr (.inr (.inr (.inl ⟨a1, a2, xs, ys, rfl, rfl, q1, q3, by rw [← q2.length, ← q4.length]; exact lim_le c, fun q hq => new_list p Ext.refl S (q2.append q4) q hq⟩)))
          · simp only [if_neg c] at p; exact False.elim p
    | _ => exact False.elim p
  | _ => cases y <;> exact False.elim p⟩
def repS (n : Nat) (x : PySem.Str) : PySem.Str := ⟨(List.replicate n x.cps).foldl (· ++ ·) #[]⟩
end
end J
namespace J
open PySem PySem.Spec PySem.SeqAt PyProof.Rows L2
def mapO {α β : Type} (f : α → Option β) : List α → Option (List β)
  | [] => some []
  | w :: ws => match f w, mapO f ws with
    | some d, some ds => some (d :: ds)
    | _, _ => none
def datum (st : Hs) : Nat → Wv → Option PyData
  | 0, w => match w with
    | .non => some .none
    | .bl b => some (.bool b)
    | .int i => some (.int i)
    | .str x => some (.str x)
    | _ => none
  | n + 1, w => match w with
    | .non => some .none
    | .bl b => some (.bool b)
    | .int i => some (.int i)
    | .str x => some (.str x)
    | .tup ws => (mapO (datum st n) ws).map .tuple
    | .ktp ws => (mapO (datum st n) ws).map .tuple
    | .ref l => match lstOf st l with
      | some ws => (mapO (datum st n) ws).map .list
      | none => none
    | .ty _ => none
    | .cls _ => none
    | .exn _ => none
    | .fn _ _ => none
section
variable {X : Cx} {pins : List (Addr × Obj)} {σ : St} {H : Hp} {s : Shared} {m : Mp} {st : Hs}
def DatOk (h : Heap) (n : Nat) (u : Value) (d : PyData) : Prop := ∃ as, Reads h u d as ∧ d.canLay0 = true ∧ d.depth ≤ n
theorem datums_ok {n : Nat} (ih : ∀ (w : Wv) (a : V) (u : Value) (d : PyData), RelW X.K m H w a → RelV a u → datum st n w = some d → DatOk s.heap n u d) :
    ∀ (ws : List Wv) (xs : List V) (us : List Value) (ds : List PyData), RelWs X.K m H ws xs → Vals xs us → mapO (datum st n) ws = some ds → ∃ as, ReadsAll s.heap us ds as ∧ PyData.canLayAll0 ds = true ∧ PyData.depthAll ds ≤ n
  | [], xs, us, ds, h, r, e => by
    unfold RelWs at h
    subst h
    cases r
    cases e
    exact ⟨[], .nil, rfl, Nat.zero_le _⟩
  | w :: ws, xs, us, ds, h, r, e => by
    unfold RelWs at h
    obtain ⟨x, xr, rfl, h1, h2⟩ := h
    cases r with
    | cons r1 r2 =>
      unfold mapO at e
      cases e1 : datum st n w with
      | none => rw [e1] at e; cases e
      | some d =>
        cases e2 : mapO (datum st n) ws with
        | none => rw [e1, e2] at e; cases e
        | some dr =>
          rw [e1, e2] at e
          cases e
          obtain ⟨as, q1, q2, q3⟩ := ih w x _ d h1 r1 e1
          obtain ⟨bs, p1, p2, p3⟩ := datums_ok ih ws xr _ dr h2 r2 e2
          refine ⟨as ++ bs, .cons q1 p1, ?_, ?_⟩
          · show (PyData.canLay0 d && PyData.canLayAll0 dr) = true
            rw [q2, p2]; rfl
          · show max d.depth (PyData.depthAll dr) ≤ n
            omega
theorem datum_ok (I : Inv X pins σ H s) (S : Sim X.K m st H) : ∀ (n : Nat) (w : Wv) (a : V) (u : Value) (d : PyData), RelW X.K m H w a → RelV a u → datum st n w = some d → DatOk s.heap n u d := by
  intro n
  induction n with
  | zero =>
    intro w a u d h r e
    cases w with
    | non => unfold RelW at h; subst h; cases r; cases e; exact ⟨[], .none, rfl, Nat.le_refl _⟩
    | bl b => unfold RelW at h; subst h; cases r; cases e; exact ⟨[], .bool b, rfl, Nat.le_refl _⟩
    | int i => unfold RelW at h; subst h; obtain ⟨t, rfl⟩ := r; cases e; exact ⟨[], .int i t, rfl, Nat.le_refl _⟩
    | str x => unfold RelW at h; obtain ⟨rfl, hx⟩ := h; obtain ⟨t, rfl⟩ := r; cases e; exact ⟨[], .str x t, hx, Nat.le_refl _⟩
    | tup ws => cases e
    | ktp ws => cases e
    | ref l => cases e
    | ty t => cases e
    | cls t => cases e
    | exn t => cases e
    | fn fp t => cases e
  | succ n ih =>
    intro w a u d h r e
    cases w with
    | non => unfold RelW at h; subst h; cases r; cases e; exact ⟨[], .none, rfl, Nat.zero_le _⟩
    | bl b => unfold RelW at h; subst h; cases r; cases e; exact ⟨[], .bool b, rfl, Nat.zero_le _⟩
    | int i => unfold RelW at h; subst h; obtain ⟨t, rfl⟩ := r; cases e; exact ⟨[], .int i t, rfl, Nat.zero_le _⟩
    | str x => unfold RelW at h; obtain ⟨rfl, hx⟩ := h; obtain ⟨t, rfl⟩ := r; cases e; exact ⟨[], .str x t, hx, Nat.zero_le _⟩
    | ty t => cases e
    | cls t => cases e
    | exn t => cases e
    | fn fp t => cases e
    | tup ws =>
      unfold RelW at h
      obtain ⟨p, xs, rfl, h1, h2⟩ := h
      cases r
      have e' : (mapO (datum st n) ws).map PyData.tuple = some d := e
      cases e2 : mapO (datum st n) ws with
      | none => rw [e2] at e'; cases e'
      | some ds =>
        rw [e2] at e'
        cases e'
        obtain ⟨its, rv, ht, hz⟩ := I.tuple (SqT.of h1)
        obtain ⟨as, q1, q2, q3⟩ := datums_ok ih ws xs its ds h2 rv e2
        obtain ⟨o, ho, hc, k, hd⟩ := ht
        exact ⟨as, .tuple ho hc hd (by simpa using q1), q2, Nat.succ_le_succ q3⟩
    | ktp ws =>
      unfold RelW at h
      obtain ⟨p, xs, rfl, h1, h2⟩ := h
      cases r
      have e' : (mapO (datum st n) ws).map PyData.tuple = some d := e
      cases e2 : mapO (datum st n) ws with
      | none => rw [e2] at e'; cases e'
      | some ds =>
        rw [e2] at e'
        cases e'
        obtain ⟨its, rv, ht, hz⟩ := I.tuple (.inr h1)
        obtain ⟨as, q1, q2, q3⟩ := datums_ok ih ws xs its ds h2 rv e2
        obtain ⟨o, ho, hc, k, hd⟩ := ht
        exact ⟨as, .tuple ho hc hd (by simpa using q1), q2, Nat.succ_le_succ q3⟩
    | ref l =>
      unfold RelW at h
      obtain ⟨p, rfl, h1⟩ := h
      cases r
      have e' : (match lstOf st l with | some ws => (mapO (datum st n) ws).map PyData.list | none => none) = some d := e
      cases e1 : lstOf st l with
      | none => rw [e1] at e'; cases e'
      | some ws =>
        rw [e1] at e'
        have e'' : (mapO (datum st n) ws).map PyData.list = some d := e'
        cases e2 : mapO (datum st n) ws with
        | none => rw [e2] at e''; cases e''
        | some ds =>
          rw [e2] at e''
          cases e''
          obtain ⟨xs, hq, h2⟩ := S.read h1 e1
          obtain ⟨its, rv, ht, hz⟩ := I.list hq
          obtain ⟨as, q1, q2, q3⟩ := datums_ok ih ws xs its ds h2 rv e2
          obtain ⟨o, ho, hc, k, hd⟩ := ht.isList
          exact ⟨_, .list ho hc hd (by simpa using q1), q2, Nat.succ_le_succ q3⟩
end
def oEq : Op2 := fun x y st => match datum st 20 x, datum st 20 y with
  | some a, some b => .ok (.bl (PyData.eqv a b)) st
  | _, _ => .bad
def oNe : Op2 := fun x y st => match datum st 20 x, datum st 20 y with
  | some a, some b => .ok (.bl (!PyData.eqv a b)) st
  | _, _ => .bad
section
variable {X : Cx}
def rDat (K : PySem.W.Frag) (neg : Bool) : R2 := fun a b H Q => ∃ m st x y da db, Sim K m st H ∧ RelW K m H x a ∧ RelW K m H y b ∧ datum st 20 x = some da ∧ datum st 20 y = some db ∧ Q (.bl (if neg then !PyData.eqv da db else PyData.eqv da db)) H
theorem shaped_of {n : Nat} {d : PyData} (hn : n ≤ 64) (h : d.canLay0 = true) (k : d.depth ≤ n) : shaped d = true := by
  unfold shaped
  rw [h, decide_eq_true (Nat.le_trans k hn)]
  rfl
theorem op_eqD (hu : X.A.units + 64 < cLine) : OpR X (compareOp .Eq) (rDat X.K false) := by
  intro pins s σ H a b v u Q I rx ry h
  obtain ⟨m, st, x, y, da, db, S, h1, h2, e1, e2, q⟩ := h
  obtain ⟨as, q1, q2, q3⟩ := datum_ok I S 20 x a v da h1 rx e1
  obtain ⟨bs, p1, p2, p3⟩ := datum_ok I S 20 y b u db h2 ry e2
  exact eq_dataH q1 p1 (shaped_of (by decide) q2 q3) (shaped_of (by decide) p2 p3) hu ⟨.bl _, H, I, rfl, q⟩
theorem op_neD (hu : X.A.units + 64 < cLine) : OpR X (compareOp .NotEq) (rDat X.K true) := by
  intro pins s σ H a b v u Q I rx ry h
  obtain ⟨m, st, x, y, da, db, S, h1, h2, e1, e2, q⟩ := h
  obtain ⟨as, q1, q2, q3⟩ := datum_ok I S 20 x a v da h1 rx e1
  obtain ⟨bs, p1, p2, p3⟩ := datum_ok I S 20 y b u db h2 ry e2
  exact ne_dataH q1 p1 (shaped_of (by decide) q2 q3) (shaped_of (by decide) p2 p3) hu ⟨.bl _, H, I, rfl, q⟩
theorem ow_eq (hu : X.A.units + 64 < cLine) : OpW X (compareOp .Eq) oEq := ⟨_, op_eqD hu, fun x y a b st H m Q S rx ry p => by
  unfold oEq at p
  cases e1 : datum st 20 x with
  | none => rw [e1] at p; exact False.elim p
  | some da =>
    cases e2 : datum st 20 y with
    | none => rw [e1, e2] at p; exact False.elim p
    | some db =>
      rw [e1, e2] at p
      exact ⟨m, st, x, y, da, db, S, rx, ry, e1, e2, p _ m H Ext.refl S mkBl⟩⟩
theorem ow_ne (hu : X.A.units + 64 < cLine) : OpW X (compareOp .NotEq) oNe := ⟨_, op_neD hu, fun x y a b st H m Q S rx ry p => by
  unfold oNe at p
  cases e1 : datum st 20 x with
  | none => rw [e1] at p; exact False.elim p
  | some da =>
    cases e2 : datum st 20 y with
    | none => rw [e1, e2] at p; exact False.elim p
    | some db =>
      rw [e1, e2] at p
      exact ⟨m, st, x, y, da, db, S, rx, ry, e1, e2, p _ m H Ext.refl S mkBl⟩⟩
def flatW : Wv → Bool
  | .non => true
  | .bl _ => true
  | .int _ => true
  | .str _ => true
  | _ => false
def eqF : Wv → Wv → Bool
  | .non, .non => true
  | .bl a, .bl b => a == b
  | .bl a, .int b => (if a then 1 else 0) == b
  | .int a, .bl b => a == (if b then 1 else 0)
  | .int a, .int b => a == b
  | .str a, .str b => a == b
  | _, _ => false
def seqOf (st : Hs) : Wv → Option (List Wv)
  | .tup ws => some ws
  | .ktp ws => some ws
  | .ref l => lstOf st l
  | _ => none
def oIn : Op2 := fun x y st => match seqOf st y with
  | some ws => if flatW x = true ∧ ws.all flatW = true then .ok (.bl (ws.any fun z => eqF z x)) st else .bad
  | none => .bad
def oNotIn : Op2 := fun x y st => match seqOf st y with
  | some ws => if flatW x = true ∧ ws.all flatW = true then .ok (.bl (!(ws.any fun z => eqF z x))) st else .bad
  | none => .bad
theorem flat_rel {m : Mp} {H : Hp} {x : Wv} {a : V} (h : RelW X.K m H x a) (f : flatW x = true) : flatV a = true := by
  cases x with
  | non => unfold RelW at h; subst h; rfl
  | bl b => unfold RelW at h; subst h; rfl
  | int b => unfold RelW at h; subst h; rfl
  | str b => unfold RelW at h; obtain ⟨h, _⟩ := h; subst h; rfl
  | _ => cases f
theorem eqF_rel {m : Mp} {H : Hp} {x y : Wv} {a b : V} (h : RelW X.K m H x a) (k : RelW X.K m H y b) (f : flatW x = true) (g : flatW y = true) : eqV a b = eqF x y := by
  cases x with
  | non =>
    unfold RelW at h; subst h
    cases y with
    | str j => unfold RelW at k; obtain ⟨k, _⟩ := k; subst k; rfl
    | tup j => cases g
    | ktp j => cases g
    | ref j => cases g
    | ty j => cases g
    | cls j => cases g
    | exn j => cases g
    | fn fp j => cases g
    | _ => unfold RelW at k; subst k; rfl
  | bl i =>
    unfold RelW at h; subst h
    cases y with
    | str j => unfold RelW at k; obtain ⟨k, _⟩ := k; subst k; rfl
    | tup j => cases g
    | ktp j => cases g
    | ref j => cases g
    | ty j => cases g
    | cls j => cases g
    | exn j => cases g
    | fn fp j => cases g
    | _ => unfold RelW at k; subst k; rfl
  | int i =>
    unfold RelW at h; subst h
    cases y with
    | str j => unfold RelW at k; obtain ⟨k, _⟩ := k; subst k; rfl
    | tup j => cases g
    | ktp j => cases g
    | ref j => cases g
    | ty j => cases g
    | cls j => cases g
    | exn j => cases g
    | fn fp j => cases g
    | _ => unfold RelW at k; subst k; rfl
  | str i =>
    unfold RelW at h; obtain ⟨h, _⟩ := h; subst h
    cases y with
    | str j => unfold RelW at k; obtain ⟨k, _⟩ := k; subst k; rfl
    | tup j => cases g
    | ktp j => cases g
    | ref j => cases g
    | ty j => cases g
    | cls j => cases g
    | exn j => cases g
    | fn fp j => cases g
    | _ => unfold RelW at k; subst k; rfl
  | _ => cases f
theorem flats_rel {m : Mp} {H : Hp} {x : Wv} {a : V} (h : RelW X.K m H x a) (f : flatW x = true) : ∀ {ws : List Wv} {xs : List V}, RelWs X.K m H ws xs → ws.all flatW = true → xs.all flatV = true ∧ inV a xs = ws.any fun z => eqF z x
  | [], xs, r, _ => by unfold RelWs at r; subst r; exact ⟨rfl, rfl⟩
  | w :: ws, xs, r, g => by
    unfold RelWs at r
    obtain ⟨y, yr, rfl, r1, r2⟩ := r
    rw [List.all_cons, Bool.and_eq_true] at g
    obtain ⟨q1, q2⟩ := flats_rel h f r2 g.2
    constructor
    · rw [List.all_cons, flat_rel r1 g.1, q1]; rfl
    · unfold inV at q2 ⊢
      rw [List.any_cons, List.any_cons, eqF_rel r1 h g.1 f, q2]
theorem seq_rel {m : Mp} {H : Hp} {st : Hs} {y : Wv} {b : V} {ws : List Wv} (S : Sim X.K m st H) (h : RelW X.K m H y b) (e : seqOf st y = some ws) : ∃ p xs, b = .ref p ∧ (SqL X.K H p xs ∨ SqT X.K H p xs) ∧ RelWs X.K m H ws xs := by
  cases y with
  | tup zs =>
    cases e
    unfold RelW at h
    obtain ⟨p, xs, e1, e2, e3⟩ := h
    exact ⟨p, xs, e1, .inr (SqT.of e2), e3⟩
  | ktp zs =>
    cases e
    unfold RelW at h
    obtain ⟨p, xs, e1, e2, e3⟩ := h
    exact ⟨p, xs, e1, .inr (.inr e2), e3⟩
  | ref l =>
    unfold RelW at h
    obtain ⟨p, e1, e2⟩ := h
    obtain ⟨xs, q1, q2⟩ := S.read e2 e
    exact ⟨p, xs, e1, .inl q1, q2⟩
  | _ => cases e
theorem ow_in : OpW X (compareOp .In) oIn := ⟨_, op_in_seq, fun x y a b st H m Q S rx ry p => by
  unfold oIn at p
  cases e : seqOf st y with
  | none => rw [e] at p; exact False.elim p
  | some ws =>
    rw [e] at p
    by_cases c : flatW x = true ∧ ws.all flatW = true
    · simp only [if_pos c] at p
      obtain ⟨q, xs, e1, e2, e3⟩ := seq_rel S ry e
      obtain ⟨f1, f2⟩ := flats_rel rx c.1 e3 c.2
      refine ⟨q, xs, e1, e2, flat_rel rx c.1, f1, ?_⟩
      rw [f2]
      exact p _ m H Ext.refl S mkBl
    · simp only [if_neg c] at p; exact False.elim p⟩
theorem ow_notIn : OpW X (compareOp .NotIn) oNotIn := ⟨_, op_notIn_seq, fun x y a b st H m Q S rx ry p => by
  unfold oNotIn at p
  cases e : seqOf st y with
  | none => rw [e] at p; exact False.elim p
  | some ws =>
    rw [e] at p
    by_cases c : flatW x = true ∧ ws.all flatW = true
    · simp only [if_pos c] at p
      obtain ⟨q, xs, e1, e2, e3⟩ := seq_rel S ry e
      obtain ⟨f1, f2⟩ := flats_rel rx c.1 e3 c.2
      refine ⟨q, xs, e1, e2, flat_rel rx c.1, f1, ?_⟩
      rw [f2]
      exact p _ m H Ext.refl S mkBl
    · simp only [if_neg c] at p; exact False.elim p⟩
def oIx : Op2
  | .str z, .int i, st => if z.length ≤ lim then (match atI z.cps.toList i with | some c => .ok (.str ⟨#[c]⟩) st | none => .bad) else .bad
  | x, .int i, st => match seqOf st x with
    | some ws => (match atI ws i with | some w => .ok w st | none => .bad)
    | none => .bad
  | _, _, _ => .bad
theorem atI_rel {m : Mp} {H : Hp} {ws : List Wv} {xs : List V} {i : Int} {w : Wv} (r : RelWs X.K m H ws xs) (h : atI ws i = some w) : ∃ x, atI xs i = some x ∧ RelW X.K m H w x := by
  unfold atI at h ⊢
  rw [← r.length]
  cases e : ixN ws.length i with
  | none => rw [e] at h; cases h
  | some j => rw [e] at h; exact r.get h
theorem atI_mem {α : Type} {xs : List α} {i : Int} {v : α} (h : atI xs i = some v) : v ∈ xs := by
  obtain ⟨j, _, h2, _⟩ := atI_get h
  exact List.mem_of_getElem? h2
theorem strOk_one {z : PySem.Str} {c : Nat} (h : PyData.strOk z = true) (hc : c ∈ z.cps.toList) : PyData.strOk ⟨#[c]⟩ = true := by
  unfold PyData.strOk at h ⊢
  rw [Array.all_eq_true_iff_forall_mem] at h
  have q := h c (by simpa using hc)
  simpa using q
theorem je_ix {a b : Expr} {ga gb : GE} {pos : Pos} (ha : JE X a ga) (hb : JE X b gb) (hs : PlainIx b := by exact fun _ _ => rfl) : JE X (.Subscript a b pos) (gBin oIx ga gb) :=
  JE.of (pe_ix ix_seq pe_SE pe_SE hs) fun ρ st σ H m Q S R p => read2 (op := oIx) (fun x y a b st H m Q S rx ry p => by
    have seqs : ∀ (i : Int), y = .int i → (match seqOf st x with | some ws => (match atI ws i with | some w => Re.ok w st | none => .bad) | none => .bad) = oIx x y st → rIx X.K a b H Q := fun i hy hp => by
      subst hy
      rw [← hp] at p
      cases e : seqOf st x with
      | none => rw [e] at p; exact False.elim p
      | some ws =>
        rw [e] at p
        dsimp only at p
        cases e1 : atI ws i with
        | none => rw [e1] at p; exact False.elim p
        | some w =>
          rw [e1] at p
          obtain ⟨q, xs, e2, e3, e4⟩ := seq_rel S rx e
          obtain ⟨v, f1, f2⟩ := atI_rel e4 e1
          rcases e3 with e3 | e3
          · exact .inl ⟨q, xs, i, v, e2, relInt ry, e3, f1, p v m H Ext.refl S f2⟩
          · exact .inr (.inl ⟨q, xs, i, v, e2, relInt ry, e3, f1, p v m H Ext.refl S f2⟩)
    cases y with
    | int i =>
      cases x with
      | str z =>
        dsimp only [oIx] at p
        by_cases c : z.length ≤ lim
        · simp only [if_pos c] at p
          cases e1 : atI z.cps.toList i with
          | none => rw [e1] at p; exact False.elim p
          | some ch =>
            rw [e1] at p
            exact .inr (.inr ⟨z, i, ch, (relStr rx).1, relInt ry, lim_le c, e1, p _ m H Ext.refl S (mkStr (strOk_one (relStr rx).2 (atI_mem e1)))⟩)
        · simp only [if_neg c] at p; exact False.elim p
      | _ => exact seqs i rfl rfl
    | _ => cases x <;> exact False.elim p) ha hb S R p
abbrev GO := Rho → Hs → Re (Option Int)
def SO (X : Cx) (e : Option Expr) : TO := fun σ H Q => ∀ (pins : List (Addr × Obj)) (s : Shared), Inv X pins σ H s → wpAny (model X.prog X.w) X.A (evalPart e X.env) (fun u s' => ∃ o H', Inv X pins σ H' s' ∧ IsPart u o ∧ Q o H') X.xe s
theorem po_SO {e : Option Expr} : PO X e (SO X e) := fun pins s _ _ _ I h => h pins s I
def okO (K : PySem.W.Frag) (m : Mp) (H : Hp) (Q : Option Int → Hp → Prop) (o : Option Int) (st : Hs) : Prop := ∀ (m' : Mp) (H' : Hp), Ext K m H m' H' → Sim K m' st H' → Q o H'
def JO (X : Cx) (e : Option Expr) (g : GO) : Prop := ∀ (ρ : Rho) (st : Hs) (σ : St) (H : Hp) (m : Mp) (Q : Option Int → Hp → Prop), Sim X.K m st H → RelEnv X.K m H ρ σ → PostG X σ m H (g ρ st) (okO X.K m H Q) → SO X e σ H Q
def gNoPart : GO := fun _ st => .ok none st
def gPart (g : GE) : GO := fun ρ st => (g ρ st).bind fun w st1 => match w with
  | .int i => .ok (some i) st1
  | _ => .bad
theorem jo_none : JO X none gNoPart := fun ρ st σ H m Q S R p pins s I => po_none pins s σ H Q I (p m H Ext.refl S)
theorem jo_some {e : Expr} {g : GE} (h : JE X e g) : JO X (some e) (gPart g) := fun ρ st σ H m Q S R p pins s I =>
  po_some pe_SE pins s σ H Q I (h.go S R (PostG.bind p) fun w st1 v m1 H1 p1 e1 S1 r1 => by
    cases w with
    | int i => exact ⟨i, relInt r1, p1 m1 H1 e1 S1⟩
    | _ => exact False.elim p1)
theorem JO.go {e : Option Expr} {g : GO} {ρ : Rho} {st : Hs} {σ : St} {H : Hp} {m : Mp} {T : Option Int → Hp → Prop} {ok : Option Int → Hs → Prop} (h : JO X e g) (S : Sim X.K m st H) (R : RelEnv X.K m H ρ σ) (p : PostG X σ m H (g ρ st) ok)
    (k : ∀ (b : Option Int) (st1 : Hs) (m1 : Mp) (H1 : Hp), ok b st1 → Ext X.K m H m1 H1 → Sim X.K m1 st1 H1 → T b H1) : SO X e σ H T :=
  h ρ st σ H m T S R (p.imp Ext.refl fun b st1 q m1 H1 e1 s1 => k b st1 m1 H1 q e1 s1)
def cutW (xs : List Wv) (lo hi : Option Int) : List Wv := (xs.drop (HT.sIx xs.length 0 lo)).take (HT.sIx xs.length xs.length hi - HT.sIx xs.length 0 lo)
def oSl (x : Wv) (lo hi : Option Int) (st : Hs) : Re Wv := match x with
  | .tup ws => if HT.sIx ws.length 0 lo = 0 ∧ HT.sIx ws.length ws.length hi = ws.length then .bad else .ok (.tup (cutW ws lo hi)) st
  | .ref l => match lstOf st l with
    | some ws => .ok (.ref st.length) (st ++ [.lst (cutW ws lo hi)])
    | none => .bad
  | _ => .bad
theorem cut_rel {m : Mp} {H : Hp} {ws : List Wv} {xs : List V} {lo hi : Option Int} (r : RelWs X.K m H ws xs) : RelWs X.K m H (cutW ws lo hi) (cutV xs lo hi) := by
  unfold cutW cutV
  rw [← r.length]
  exact (r.drop _).take _
def gSlice (ga : GE) (gl gh : GO) : GE := fun ρ st => (ga ρ st).bind fun x st1 => (gl ρ st1).bind fun lo st2 => (gh ρ st2).bind fun hi st3 => oSl x lo hi st3
theorem je_slice {a : Expr} {lo hi : Option Expr} {ga : GE} {gl gh : GO} {pos p2 : Pos} (ha : JE X a ga) (hl : JO X lo gl) (hh : JO X hi gh) : JE X (.Subscript a (.Slice lo hi none p2) pos) (gSlice ga gl gh) := by
  refine JE.of (pe_slice (sl_tup.or sl_list) pe_SE po_SO po_SO) fun ρ st σ H m Q S R p => ?_
  refine ha.go S R (PostG.bind p) fun x st1 v m1 H1 p1 e1 S1 rx => ?_
  refine hl.go S1 (R.mono e1) ((PostG.bind p1).imp e1 fun _ _ q => q) fun l st2 m2 H2 p2 e2 S2 => ?_
  refine hh.go S2 (R.mono (e1.trans e2)) ((PostG.bind p2).imp (e1.trans e2) fun _ _ q => q) fun h st3 m3 H3 p3 e3 S3 => ?_
  have e13 := e1.trans (e2.trans e3)
  have rx3 := RelW.mono (e2.trans e3) _ _ rx
  cases x with
  | tup ws =>
    have p3' : PostE X σ m H (if HT.sIx ws.length 0 l = 0 ∧ HT.sIx ws.length ws.length h = ws.length then .bad else .ok (.tup (cutW ws l h)) st3) Q := p3
    by_cases c : HT.sIx ws.length 0 l = 0 ∧ HT.sIx ws.length ws.length h = ws.length
    · rw [if_pos c] at p3'; exact False.elim p3'
    · rw [if_neg c] at p3'
      unfold RelW at rx3
      obtain ⟨q, xs, rfl, f1, f2⟩ := rx3
      refine .inl ⟨q, xs, rfl, SqT.of f1, by rw [← f2.length]; exact c, fun r hr => ?_⟩
      have e4 : Ext X.K m3 H3 m3 (upd H3 r (.tup (cutV xs l h))) := Ext.upd (.inl hr)
      exact p3' (.ref r) m3 _ (e13.trans e4) (S3.fresh hr) (by unfold RelW; exact ⟨r, _, rfl, upd_same, RelWs.mono e4 _ _ (cut_rel f2)⟩)
  | ref k =>
    have p3' : PostE X σ m H (match lstOf st3 k with | some ws => .ok (.ref st3.length) (st3 ++ [.lst (cutW ws l h)]) | none => .bad) Q := p3
    unfold RelW at rx3
    obtain ⟨q, rfl, f1⟩ := rx3
    cases e : lstOf st3 k with
    | none => rw [e] at p3'; exact False.elim p3'
    | some ws =>
      rw [e] at p3'
      obtain ⟨xs, g1, g2⟩ := S3.read f1 e
      exact .inr ⟨q, xs, rfl, g1, fun r hr => new_list p3' e13 S3 (cut_rel g2) r hr⟩
  | _ => exact False.elim p3
end
end J
namespace J
open PySem PySem.Spec PyProof.Rows L2
section
variable {X : Cx}
def CallW (X : Cx) (f : Value) (op : List Wv → Hs → Re Wv) : Prop := ∃ r, CallR X f r ∧ ∀ (ws : List Wv) (vs : List V) (st : Hs) (H : Hp) (m : Mp) (Q : VK), Sim X.K m st H → RelWs X.K m H ws vs → PostO X.K m H (op ws st) Q → r vs H Q
def gCallB (op : List Wv → Hs → Re Wv) (g : GA) : GE := fun ρ st => (g ρ st).bind fun ws st1 => (op ws st1).nox
theorem je_callB {x : Str} {id : String} {p pos : Pos} {e : Expr} {es : List Expr} {g : GA} {op : List Wv → Hs → Re Wv} (hc : CallW X (.builtin id) op) (hg : Gl X x) (hm : X.mg x = none) (hv : bootBuiltins x = some (.builtin id)) (ha : JA X (e :: es) g)
    (hn : x ≠ "__name__" := by decide) (hdb : (x == ("__debug__" : Str)) = false := by decide) (he : starEach (e :: es) X.env = (false, eval e X.env) :: starEach es X.env := by rfl) (hpl : (backTo pos (starEach es X.env)).any (·.1) = false := by rfl) :
    JE X (.Call (.Name x p) (e :: es) [] pos) (gCallB op g) := by
  obtain ⟨r, h1, h2⟩ := hc
  refine JE.of (pe_callB h1 hg hm hv pa_SA hn hdb he hpl) fun ρ st σ H m Q S R p => ?_
  exact ha.go S R (PostG.bind p) fun ws st1 vs m1 H1 p1 e1 S1 rs => h2 ws vs st1 H1 m1 Q S1 rs (PostO.shift (PostG.nox p1) e1)
theorem je_callTy {x : Str} {T : String} {p pos : Pos} {e : Expr} {es : List Expr} {g : GA} {op : List Wv → Hs → Re Wv} (hc : CallW X (.type T) op) (hg : Gl X x) (hm : X.mg x = none) (hv : bootBuiltins x = some (.type T)) (ha : JA X (e :: es) g)
    (hn : x ≠ "__name__" := by decide) (hdb : (x == ("__debug__" : Str)) = false := by decide) (he : starEach (e :: es) X.env = (false, eval e X.env) :: starEach es X.env := by rfl) (hpl : (backTo pos (starEach es X.env)).any (·.1) = false := by rfl) :
    JE X (.Call (.Name x p) (e :: es) [] pos) (gCallB op g) := by
  obtain ⟨r, h1, h2⟩ := hc
  refine JE.of (pe_callTy h1 hg hm hv pa_SA hn hdb he hpl) fun ρ st σ H m Q S R p => ?_
  exact ha.go S R (PostG.bind p) fun ws st1 vs m1 H1 p1 e1 S1 rs => h2 ws vs st1 H1 m1 Q S1 rs (PostO.shift (PostG.nox p1) e1)
theorem rel1 {m : Mp} {H : Hp} {w : Wv} {vs : List V} (r : RelWs X.K m H [w] vs) : ∃ v, vs = [v] ∧ RelW X.K m H w v := by
  unfold RelWs at r
  obtain ⟨v, t, rfl, h1, h2⟩ := r
  unfold RelWs at h2
  subst h2
  exact ⟨v, rfl, h1⟩
theorem rel2 {m : Mp} {H : Hp} {w w' : Wv} {vs : List V} (r : RelWs X.K m H [w, w'] vs) : ∃ v v', vs = [v, v'] ∧ RelW X.K m H w v ∧ RelW X.K m H w' v' := by
  unfold RelWs at r
  obtain ⟨v, t, rfl, h1, h2⟩ := r
  obtain ⟨v', rfl, h3⟩ := rel1 h2
  exact ⟨v, v', rfl, h1, h3⟩
def oLen : List Wv → Hs → Re Wv
  | [.str z], st => if z.length ≤ lim then .ok (.int z.length) st else .bad
  | [x], st => match seqOf st x with
    | some ws => .ok (.int ws.length) st
    | none => .bad
  | _, _ => .bad
theorem cw_len : CallW X (.builtin "len") oLen := ⟨_, call_len_seq.or call_len_str, fun ws vs st H m Q S r p => by
  match ws, r, p with
  | [], r, p => exact False.elim p
  | x :: y :: t, r, p => cases x <;> exact False.elim p
  | [x], r, p =>
    obtain ⟨v, rfl, rx⟩ := rel1 r
    have seqs : (match seqOf st x with | some ws => Re.ok (Wv.int ws.length) st | none => .bad) = oLen [x] st → (∃ p ys, [v] = [V.ref p] ∧ (SqL X.K H p ys ∨ SqT X.K H p ys) ∧ Q (.int ys.length) H) := fun hp => by
      rw [← hp] at p
      cases e : seqOf st x with
      | none => rw [e] at p; exact False.elim p
      | some ws =>
        rw [e] at p
        obtain ⟨q, xs, rfl, e2, e3⟩ := seq_rel S rx e
        refine ⟨q, xs, rfl, e2, ?_⟩
        rw [← e3.length]
        exact p _ m H Ext.refl S mkInt
    cases x with
    | str z =>
      have p' : PostO X.K m H (if z.length ≤ lim then .ok (.int z.length) st else .bad) Q := p
      by_cases c : z.length ≤ lim
      · rw [if_pos c] at p'
        obtain ⟨rfl, _⟩ := relStr rx
        exact .inr ⟨z, rfl, lim_le c, p' _ m H Ext.refl S mkInt⟩
      · rw [if_neg c] at p'; exact False.elim p'
    | _ => exact .inl (seqs rfl)⟩
def oAbs : List Wv → Hs → Re Wv
  | [.int i], st => .ok (.int (if i < 0 then -i else i)) st
  | _, _ => .bad
def isW (st : Hs) (T : String) : Wv → Option Bool
  | .non => some false
  | .bl _ => some (T == "bool" || T == "int")
  | .int _ => some (T == "int")
  | .str _ => some (T == "str")
  | .tup _ => some (T == "tuple")
  | .ktp _ => none
  | .ref l => (lstOf st l).map fun _ => T == "list"
  | .ty _ => none
  | .cls _ => none
  | .exn _ => none
  | .fn _ _ => none
def okTy (T : String) : Bool := T == "int" || T == "str" || T == "bool" || T == "tuple" || T == "list"
def oIsI : List Wv → Hs → Re Wv
  | [x, .ty T], st => if okTy T = true then (match isW st T x with | some b => .ok (.bl b) st | none => .bad) else .bad
  | _, _ => .bad
def rIsI (K : PySem.W.Frag) : List V → Hp → VK → Prop := fun vs H Q => ∃ m st x T v b, vs = [v, .ty T] ∧ Sim K m st H ∧ RelW K m H x v ∧ okTy T = true ∧ isW st T x = some b ∧ Q (.bl b) H
theorem call_isI : CallR X (.builtin "isinstance") (rIsI X.K) := by
  intro pins s σ H xs us Q I r h
  obtain ⟨m, st, x, T, v, b, rfl, S, rx, hT, hb, q⟩ := h
  obtain ⟨u, u', rfl, r1, r2⟩ := vals2 r
  cases r2
  have fin : ∀ tk, EP X pins σ Q (.bool b) { s with toks := tk } := fun tk => ⟨.bl b, H, I.tok tk, rfl, q⟩
  have fin0 : EP X pins σ Q (.bool b) s := ⟨.bl b, H, I, rfl, q⟩
  unfold okTy at hT
  simp only [Bool.or_eq_true, beq_iff_eq] at hT
  cases x with
  | non =>
    unfold RelW at rx; subst rx; cases r1
    cases hb
    rcases hT with (((rfl | rfl) | rfl) | rfl) | rfl <;>
      exact call_isinstance (isinstance_false_none (by decide) (by kernel_rfl) (by rw [isSubtype_type]; kernel_rfl)) (fin _)
  | bl c =>
    unfold RelW at rx; subst rx; cases r1
    rcases hT with (((rfl | rfl) | rfl) | rfl) | rfl <;> cases hb <;> first
      | exact call_isinstance_yes (Tx := "bool") rfl (by kernel_rfl) (by rw [isSubtype_type]; kernel_rfl) fin0
      | exact call_isinstance (isinstance_false_bool (by decide) (by kernel_rfl) (by rw [isSubtype_type]; kernel_rfl)) (fin _)
  | int c =>
    unfold RelW at rx; subst rx; obtain ⟨t, rfl⟩ := r1
    rcases hT with (((rfl | rfl) | rfl) | rfl) | rfl <;> cases hb <;> first
      | exact call_isinstance_yes (Tx := "int") (typeIs_int s c t) (by kernel_rfl) (by rw [isSubtype_type]; kernel_rfl) fin0
      | exact call_isinstance (isinstance_false_int (by decide) (by kernel_rfl) (by rw [isSubtype_type]; kernel_rfl)) (fin _)
  | str c =>
    obtain ⟨rfl, _⟩ := relStr rx; obtain ⟨t, rfl⟩ := r1
    rcases hT with (((rfl | rfl) | rfl) | rfl) | rfl <;> cases hb <;> first
      | exact call_isinstance_yes (Tx := "str") (typeIs_str s c t) (by kernel_rfl) (by rw [isSubtype_type]; kernel_rfl) fin0
      | exact call_isinstance (isinstance_false_str (by decide) (by kernel_rfl) (by rw [isSubtype_type]; kernel_rfl)) (fin _)
  | ktp ws => cases hb
  | tup ws =>
    unfold RelW at rx; obtain ⟨a, xs, rfl, h1, h2⟩ := rx; cases r1
    obtain ⟨its, rv, ht, hz⟩ := I.tuple (SqT.of h1)
    have hty := ht.typeIs
    obtain ⟨o, ho, hc, k, hd⟩ := ht
    rcases hT with (((rfl | rfl) | rfl) | rfl) | rfl <;> cases hb <;> first
      | exact call_isinstance_yes (Tx := "tuple") hty (by kernel_rfl) (by rw [isSubtype_type]; kernel_rfl) fin0
      | exact call_isinstance (isinstance_false_tuple (by decide) (by kernel_rfl) (by rw [isSubtype_type]; kernel_rfl)) ⟨⟨o, ho, hc⟩, fin _⟩
  | ref l =>
    unfold RelW at rx; obtain ⟨a, rfl, h1⟩ := rx; cases r1
    have hb' : (lstOf st l).map (fun _ => T == "list") = some b := hb
    cases e : lstOf st l with
    | none => rw [e] at hb'; cases hb'
    | some ws =>
      rw [e] at hb'
      obtain ⟨xs, hq, h2⟩ := S.read h1 e
      obtain ⟨its, rv, ht, hz⟩ := I.list hq
      have hty := ht.isList.typeIs
      obtain ⟨o, ho, hc, k, hd⟩ := ht.isList
      rcases hT with (((rfl | rfl) | rfl) | rfl) | rfl <;> cases hb' <;> first
        | exact call_isinstance_yes (Tx := "list") hty (by kernel_rfl) (by rw [isSubtype_type]; kernel_rfl) fin0
        | exact call_isinstance (isinstance_false_list (by decide) (by kernel_rfl) (by rw [isSubtype_type]; kernel_rfl)) ⟨⟨o, ho, hc⟩, fin _⟩
  | ty t => cases hb
  | cls t => cases hb
  | exn t => cases hb
  | fn fp t => cases hb
theorem cw_isI : CallW X (.builtin "isinstance") oIsI := ⟨_, call_isI, fun ws vs st H m Q S r p => by
  match ws, r, p with
  | [], r, p => exact False.elim p
  | [x], r, p => cases x <;> exact False.elim p
  | x :: y :: z :: t, r, p => cases y <;> exact False.elim p
  | [x, y], r, p =>
    obtain ⟨v, v', rfl, rx, ry⟩ := rel2 r
    cases y with
    | ty T =>
      unfold RelW at ry
      subst ry
      have p' : PostO X.K m H (if okTy T = true then (match isW st T x with | some b => .ok (.bl b) st | none => .bad) else .bad) Q := p
      by_cases c : okTy T = true
      · rw [if_pos c] at p'
        cases e : isW st T x with
        | none => rw [e] at p'; exact False.elim p'
        | some b => rw [e] at p'; exact ⟨m, st, x, T, v, b, rfl, S, rx, c, e, p' _ m H Ext.refl S mkBl⟩
      · rw [if_neg c] at p'; exact False.elim p'
    | _ => exact False.elim p⟩
def gNext : GS := fun ρ st => .nx ρ st
def gSeq (g h : GS) : GS := fun ρ st => match g ρ st with
  | .nx ρ' st' => h ρ' st'
  | r => r
theorem jss_nil : JSs X [] gNext := JSs.of pss_nil fun ρ st σ H m D S R p => p σ m H Ext.refl S R
theorem jss_cons {s : Stmt} {rest : List Stmt} {g h : GS} (h1 : JS X s g) (h2 : JSs X rest h) : JSs X (s :: rest) (gSeq g h) :=
  JSs.of (pss_cons ps_SS pss_SSs) fun ρ st σ H m D S R p => h1 ρ st σ H m _ S R (by
    unfold gSeq at p
    cases e : g ρ st with
    | nx ρ' st' => rw [e] at p; exact fun σ' m' H' e' S' R' => h2 ρ' st' σ' H' m' D S' R' (PostS.shift p e')
    | rt w st' => rw [e] at p; exact p
    | bk ρ' st' => rw [e] at p; exact p
    | ct ρ' st' => rw [e] at p; exact p
    | err c ρ' st' => rw [e] at p; exact p
    | bad => rw [e] at p; exact p)
theorem jss_one {s : Stmt} {g : GS} (h1 : JS X s g) : JSs X [s] g := JSs.of (pss_one ps_SS) fun ρ st σ H m D S R p => h1 ρ st σ H m D S R p
def gRet (g : GE) : GS := fun ρ st => (g ρ st).thn ρ fun w st' => .rt w st'
theorem js_ret {e : Expr} {g : GE} {pos : Pos} (h : JE X e g) : JS X (.Return (some e) pos) (gRet g) :=
  JS.of (ps_ret pe_SE) fun ρ st σ H m D S R p => h.go S R (PostS.of_thn R p) fun w st1 v m1 H1 q e1 S1 r1 => q v m1 H1 e1 S1 r1
theorem js_pass {pos : Pos} : JS X (.Pass pos) gNext := JS.of ps_pass fun ρ st σ H m D S R p => p σ m H Ext.refl S R
def gExpr (g : GE) : GS := fun ρ st => (g ρ st).thn ρ fun _ st' => .nx ρ st'
theorem js_expr {e : Expr} {g : GE} {pos : Pos} (h : JE X e g) (hs : swapsWith e none pos.line X.env = pure false := by rfl) : JS X (.Expr e pos) (gExpr g) :=
  JS.of (ps_expr pe_SE hs) fun ρ st σ H m D S R p => h.go S R (PostS.of_thn R p) fun w st1 v m1 H1 q e1 S1 r1 => q σ m1 H1 e1 S1 (R.mono e1)
def gIf (gt : GT) (ga gb : GS) : GS := fun ρ st => (gt ρ st).thn ρ fun b st' => if b = true then ga ρ st' else gb ρ st'
theorem js_if {c : Expr} {a b : List Stmt} {gt : GT} {ga gb : GS} {pos : Pos} (hc : JT X c gt) (ha : JSs X a ga) (hb : JSs X b gb) : JS X (.If c a b pos) (gIf gt ga gb) :=
  JS.of (ps_if pt_ST pss_SSs pss_SSs) fun ρ st σ H m D S R p => hc.go S R (PostS.of_thn R p) fun k st1 m1 H1 q e1 S1 => by
    cases k with
    | true => rw [if_pos rfl] at q ⊢; exact ha ρ st1 σ H1 m1 D S1 (R.mono e1) (PostS.shift q e1)
    | false => rw [if_neg Bool.false_ne_true] at q ⊢; exact hb ρ st1 σ H1 m1 D S1 (R.mono e1) (PostS.shift q e1)
def gSet (i : Nat) (g : GE) : GS := fun ρ st => (g ρ st).thn ρ fun w st' => .nx (ρ.set i (some w)) st'
theorem js_set (i : Nat) {x : Str} {e : Expr} {g : GE} {pos pos' : Pos} (hN : X.N.Nodup) (h : JE X e g) (hi : X.N[i]? = some x := by rfl) (hx : Loc X.env.scope x := by first | exact Or.inl rfl | exact Or.inr rfl) (hs : swapsWith e (some (.Name x pos')) pos.line X.env = pure false := by rfl)
    (hf : X.fn x = true ∨ X.env.scope.names.lookup x = some .local := by first | exact .inl rfl | exact .inr rfl | assumption) : JS X (.Assign [.Name x pos'] e pos) (gSet i g) :=
  JS.of (ps_set hN hi hx pe_SE hs hf) fun ρ st σ H m D S R p => h.go S R (PostS.of_thn R p) fun w st1 v m1 H1 q e1 S1 r1 => q _ m1 H1 e1 S1 ((R.mono e1).set i r1)
def gNever : GS := fun _ _ => .bad
theorem js_never {s : Stmt} : JS X s gNever := JS.of ps_never fun ρ st σ H m D S R p => p
theorem jss_never {s : List Stmt} : JSs X s gNever := JSs.of pss_never fun ρ st σ H m D S R p => p
def oSet (o i v : Wv) (ρ : Rho) (st : Hs) : Rs := match o, i with
  | .ref l, .int k => match st[l]? with
    | some (.lst ws) => (match ixN ws.length k with | some j => .nx ρ (st.set l (.lst (ws.set j v))) | none => .bad)
    | _ => .bad
  | _, _ => .bad
def gSetI (ge go gi : GE) : GS := fun ρ st => (ge ρ st).thn ρ fun v st1 => (go ρ st1).thn ρ fun o st2 => (gi ρ st2).thn ρ fun i st3 => oSet o i v ρ st3
theorem js_setI {o i e : Expr} {go gi ge : GE} {pos pos' : Pos} (he : JE X e ge) (ho : JE X o go) (hi : JE X i gi) (hs : swapsWithSole [.Subscript o i pos'] e pos.line X.env = pure false := by rfl) (hw : swappedStores [.Subscript o i pos'] e X.env = pure none := by rfl)
    (h1 : (assignEach [.Subscript o i pos'] X.env).map (·.2) = [assign (.Subscript o i pos') X.env] := by rfl)
    (ha : ∀ v, assign (.Subscript o i pos') X.env v = (do
      let ov ← holding [v] (eval o X.env)
      let iv ← holding [v, ov] (eval i X.env)
      standAt pos'
      holding [v, ov, iv] (setItem ov iv v)
      release [v, ov, iv] []) := by intro _; rfl) : JS X (.Assign [.Subscript o i pos'] e pos) (gSetI ge go gi) := by
  refine JS.of (ps_asg pe_SE (pg_sub pe_SE pe_SE set_list ha) hs hw h1) fun ρ st σ H m D S R p => ?_
  refine he.go S R (PostS.of_thn R p) fun v st1 vv m1 H1 p1 e1 S1 rv => ?_
  refine ho.go S1 (R.mono e1) ((PostS.of_thn (m := m) (H := H) R p1).imp e1 fun _ _ q => q) fun o' st2 ov m2 H2 p2 e2 S2 ro => ?_
  refine hi.go S2 (R.mono (e1.trans e2)) ((PostS.of_thn (m := m) (H := H) R p2).imp (e1.trans e2) fun _ _ q => q) fun i' st3 iv m3 H3 p3 e3 S3 ri => ?_
  have e13 := e1.trans (e2.trans e3)
  cases o' with
  | ref l =>
    cases i' with
    | int k =>
      have p3' : PostS X m H (match st3[l]? with | some (.lst ws) => (match ixN ws.length k with | some j => .nx ρ (st3.set l (.lst (ws.set j v))) | none => .bad) | _ => .bad) D := p3
      have ro3 := RelW.mono e3 _ _ ro
      unfold RelW at ro3
      obtain ⟨a, rfl, f1⟩ := ro3
      cases e : st3[l]? with
      | none => rw [e] at p3'; exact False.elim p3'
      | some ob =>
        cases ob with
        | dct kvs => rw [e] at p3'; exact False.elim p3'
        | dcT kvs => rw [e] at p3'; exact False.elim p3'
        | scr ns => rw [e] at p3'; exact False.elim p3'
        | lst ws =>
          rw [e] at p3'
          cases ej : ixN ws.length k with
          | none => simp only [ej] at p3'; exact False.elim p3'
          | some j =>
            simp only [ej] at p3'
            obtain ⟨xs, g1, g2⟩ := S3.lstAt f1 e
            refine ⟨a, xs, k, j, rfl, relInt ri, g1, by rw [← g2.length]; exact ej, ?_⟩
            have rv3 := RelW.mono (e2.trans e3) _ _ rv
            have e4 : Ext X.K m3 H3 m3 (upd H3 a (.lst (xs.set j vv))) := Ext.upd (.inr ⟨xs, g1⟩)
            exact p3' σ m3 _ (e13.trans e4) (S3.write f1 e (g2.set j rv3)) (R.mono (e13.trans e4))
    | _ => exact False.elim p3
  | _ => cases i' <;> exact False.elim p3
open Classical in
noncomputable def forL (i : Nat) (gb : GS) (l : Nat) (all : List Wv) : List Wv → Rho → Hs → Rs
  | [], ρ, st => .nx ρ st
  | w :: r, ρ, st => match gb (ρ.set i (some w)) st with
    | .nx ρ' st' => if lstOf st' l = some all then forL i gb l all r ρ' st' else .bad
    | .ct ρ' st' => if lstOf st' l = some all then forL i gb l all r ρ' st' else .bad
    | .bk ρ' st' => .nx ρ' st'
    | .rt w st' => .rt w st'
    | .err c ρ' st' => .err c ρ' st'
    | .bad => .bad
end
end J
namespace J
open PySem PySem.Spec PyProof.Rows L2
def CXJ (P : Program) (w : World) : CXT := fun outer H s E e s' => ∃ H' C, Flown P w outer H s H' (.ref C) e s' ∧ E (.ref C) none H'
section
variable {X : Cx} {pins : List (Addr × Obj)} {σ : St} {Hc H' : Hp} {sc s' : Shared} {cls e : Value} {E : Value → Shared → Prop} {Q : Unit → Shared → Prop}
theorem old_ne (I : Inv X pins σ Hc sc) {b : Addr} {o : Obj} (q : X.s₀.heap.get? b = some o) : b ≠ X.env.locals := fun z => by
  have h1 := Heap.lt_size q
  have h2 := I.ok.above
  rw [z] at h1
  exact absurd (Nat.lt_of_lt_of_le h1 h2) (Nat.lt_irrefl _)
theorem old_out (I : Inv X pins σ Hc sc) (hst : X.stack = X.env :: X.outer) (hf : X.env.frame = some X.env.locals) {b : Addr} {o : Obj} (q : X.s₀.heap.get? b = some o) (hb : b ∉ frs X.outer) : b ∉ frs X.stack := fun z => by
  rw [hst] at z
  unfold frs at z
  rw [List.filterMap_cons, hf] at z
  rcases List.mem_cons.mp z with z | z
  · exact old_ne I q z
  · exact hb z
theorem in_stack (hst : X.stack = X.env :: X.outer) (hf : X.env.frame = some X.env.locals) {b : Addr} (hb : b ∈ frs X.outer) : b ∈ frs X.stack := by
  rw [hst]
  unfold frs
  rw [List.filterMap_cons, hf]
  exact List.mem_cons_of_mem _ hb
theorem note_any {M : Model} {A : Around} {E : Value → Shared → Prop} {s : Shared} {base : Heap} {env : Env} {outer : List Env} {L e : Addr} {cls a0 nt : Value} {Q : Unit → Shared → Prop} (hfr : A.frames = some (env :: outer)) (hf : env.frame = some L)
    (x : base.StaysIn s.heap ∧ base.get? e = none ∧ s.heap.FunFrames base (env :: outer) ∧ TrX s.heap base e cls a0 nt) (k : ∀ h', HeldX base (env :: outer) e cls a0 L h' → s.heap.UpToSlots h' → Q () { s with heap := h' }) :
    wpAny M A (noteFrame (.ref e) env) Q E s := by
  obtain ⟨x1, x2, x3, x4⟩ := x
  by_cases z : nt = rawInt L
  · subst z
    exact againX hf x4 (k s.heap ⟨x1, x2, x3, x4⟩ (Heap.UpToSlots.refl _))
  · obtain ⟨ox, us, T, ot, ws, g1, ⟨g2, g3⟩, g4, g5, g6, g7, g8, g9, g10⟩ := x4
    subst g2
    have apart : ∀ b, b ≠ T → (s.heap.update T (Obj.mapFields (·.setIfInBounds 3 Value.none))).get? b = s.heap.get? b := fun b hb => Heap.get?_update_other _ _ (Ne.symm hb)
    have plain : ∀ b o, s.heap.get? b = some o → (∀ vs, o.data ≠ .fields vs) → b ≠ T := fun b o hb hd q => by
      subst q
      rw [g8] at hb
      cases hb
      exact hd ws g9
    unfold noteFrame
    simp only [hf]
    refine wpAny_bind (wpAny_field g1 g4 g5 ?_)
    rw [if_pos (show (Value.ref T != Value.none) = true from by simp)]
    refine wpAny_bind (wpAny_field g8 g9 g10 ?_)
    rw [if_neg (show ¬ ((nt == rawInt L) = true) from by simpa using z)]
    refine wpAny_bind (wpAny_setField g8 g9 (Array.getElem?_eq_some_iff.mp g10).1 ?_)
    refine entryX (a0 := a0) hfr (x3.of_keeps fun b o hb hd => ⟨o, (apart b (plain b o hb hd)).trans hb, rfl⟩) hf ((apart e (Ne.symm g7)).trans g1) (fun b o hb => (apart b fun q => by rw [q, g6] at hb; cases hb).trans (x1 b o hb)) x2 g4 (Array.getElem?_eq_some_iff.mp g5).1 g3 fun h' y y4 => ?_
    exact k h' y fun b o hb hd => y4 b o ((apart b (plain b o hb hd)).trans hb) hd
theorem note_made {M : Model} {A : Around} {E : Value → Shared → Prop} {s : Shared} {base h : Heap} {env : Env} {outer : List Env} {L a : Addr} {cls : Value} {args : List Value} {Q : Unit → Shared → Prop} (hfr : A.frames = some (env :: outer)) (hf : env.frame = some L)
    (st : base.StaysIn h) (fs : h.FunFrames base (env :: outer)) (mk : Heap.MadeExcOf h s.heap a cls args) (k : ∀ h' a0, HeldX base (env :: outer) a cls a0 L h' → s.heap.UpToSlots h' → Q () { s with heap := h' }) :
    wpAny M A (noteFrame (.ref a) env) Q E s := by
  obtain ⟨t, e1, e2, e3⟩ := mk.there
  have fresh : ∀ b, h.get? b = none → base.get? b = none := fun b hb => by
    cases q : base.get? b with
    | none => rfl
    | some o' => have z := st b o' q; rw [hb] at z; cases z
  have fs' := fs.of_keeps (h' := s.heap) fun b o hb _ => ⟨o, mk.keeps b o hb, rfl⟩
  unfold noteFrame
  simp only [hf]
  refine wpAny_bind (wpAny_field e1 rfl (x := .none) rfl ?_)
  rw [if_neg (by decide)]
  exact entryX hfr fs' hf e1 (fun b o hb => mk.keeps b o (st b o hb)) (fresh a mk.new) rfl (by simp) (a0 := .ref t) rfl fun h' l1 l4 => k h' (.ref t) l1 l4
theorem un_out {ch : List Addr} (hx : X.ex = []) (hst : X.stack = X.env :: X.outer) (hf : X.env.frame = some X.env.locals) (I : Inv X pins σ Hc sc) {B h2 : Heap} (hch : ∀ b ∈ ch, FpOk X pins Hc b) (un : Un (frs X.stack) ch Hc H' sc.heap s'.heap) (up : s'.heap.UpToSlots h2) (stay : B.StaysIn h2)
    (cov : ∀ b o, sc.heap.get? b = some o → b ∉ frs X.stack → b ∉ ch → ∃ o', B.get? b = some o' ∧ (Hc b = none → o' = o)) :
    Un (frs X.outer) [] X.H₀ H' X.s₀.heap h2 ∧ (∀ b o, X.s₀.heap.get? b = some o → b ∉ frs X.outer → ∃ o', B.get? b = some o' ∧ (X.H₀ b = none → o' = o)) := by
  have nx : ∀ b : Addr, b ∉ X.ex := fun b => by rw [hx]; simp
  have nc : ∀ b o, X.s₀.heap.get? b = some o → b ∉ ch := fun b o q z => by
    rcases (hch b z).2.2.2.1 with y | y
    · exact nx b y
    · exact absurd (Nat.lt_of_lt_of_le (Heap.lt_size q) y) (Nat.lt_irrefl _)
  have cov2 : ∀ b o, X.s₀.heap.get? b = some o → b ∉ frs X.outer → ∃ o', B.get? b = some o' ∧ (X.H₀ b = none → o' = o) := fun b o q hb => by
    obtain ⟨o1, q1⟩ := I.base.there b o q (nx b)
    obtain ⟨o2, q2, q3⟩ := cov b o1 q1 (old_out I hst hf q hb) (nc b o q)
    refine ⟨o2, q2, fun n => ?_⟩
    have q4 := I.base.keep b o q n hb (nx b)
    rw [q4] at q1
    cases q1
    exact q3 (I.base.free b o q n (nx b))
  have sl : ∀ b o, X.s₀.heap.get? b = some o → X.H₀ b = none → b ∈ frs X.outer → ∃ sl, h2.get? b = some { o with slots := sl } := fun b o q n hb => by
    obtain ⟨s1, q1⟩ := I.base.slot b o q n hb (nx b)
    obtain ⟨s2, q2⟩ := un.slot b _ q1 (I.base.free b o q n (nx b)) (in_stack hst hf hb) (nc b o q)
    obtain ⟨_, o3, q3, q4⟩ := I.ok.funs.mem hb
    rw [q] at q3
    cases q3
    obtain ⟨s3, q5⟩ := up b _ q2 q4
    exact ⟨s3, q5⟩
  refine ⟨⟨fun b o q n hb _ => ?_, fun b o q n hb _ => sl b o q n hb, fun b o q n _ => ?_, fun b o q _ => ?_, fun b xs h => un.tups b xs (I.base.tups b xs h), fun b o u h => un.frzs b o u (I.base.frzs b o u h), fun b ps h => ?_⟩, cov2⟩
  · obtain ⟨o2, q2, q3⟩ := cov2 b o q hb
    rw [q3 n] at q2
    exact stay b o q2
  · obtain ⟨o1, q1⟩ := I.base.there b o q (nx b)
    exact un.free b o1 q1 (I.base.free b o q n (nx b)) (nc b o q)
  · by_cases hb : b ∈ frs X.outer
    · obtain ⟨s3, q3⟩ := sl b o q (I.ok.frf b hb) hb
      exact ⟨_, q3⟩
    · obtain ⟨o2, q2, _⟩ := cov2 b o q hb
      exact ⟨o2, stay b o2 q2⟩
  · obtain ⟨m1, t1⟩ := I.base.tbls b ps h
    obtain ⟨m2, t2⟩ := un.tbls b _ t1
    exact ⟨m1 ++ m2, by rw [← Array.append_assoc]; exact t2⟩
theorem leave_flown (hx : X.ex = []) (hst : X.stack = X.env :: X.outer) (hf : X.env.frame = some X.env.locals) (I : Inv X pins σ Hc sc) (F : FlownA X pins Hc sc H' cls e s')
    (k : ∀ s2, Flown X.prog X.w X.outer X.H₀ X.s₀ H' cls e s2 → Q () s2) : wpAny (model X.prog X.w) X.A (leaving X.env e) Q E s' := by
  obtain ⟨a, a0, nt, B, ch, rfl, os, bare, hch, un, hok, fl, cov⟩ := F
  have hfr : X.A.frames = some (X.env :: X.outer) := by rw [I.ok.frames, hst]
  rw [hst] at fl
  unfold leaving
  refine wpAny_bind (note_any hfr hf fl fun h1 hd1 up1 => ?_)
  refine landX hd1 fun h2 fl2 up2 => k _ ?_
  obtain ⟨k1, k2, ⟨_, _, k3⟩, k4⟩ := fl2
  obtain ⟨u2, c2⟩ := un_out hx hst hf I hch un (up1.trans up2) k1 cov
  exact ⟨a, a0, B, rfl, os.trans I.os, bare, u2, hok, ⟨k1, k2, k3, k4⟩, c2⟩
theorem hok_hide {P : Program} {w : World} {H : Hp} {h : Heap} {l : List Addr} (ok : HOk P w H h) (fr : ∀ b ∈ l, H b = none) : HOk P w H (PySem.W.hideAll h l) := fun a o q =>
  (ok a o q).stay (fun b u hb r => PySem.W.hideAll_get _ r fun z => by
    have n := fr b z
    rcases hb with hb | hb
    · rw [hb, q] at n; cases n
    · rw [hb] at n; cases n) (fun _ r => r) fun _ _ r => r
theorem leave_made {a C : Addr} {args : List Value} (hx : X.ex = []) (hst : X.stack = X.env :: X.outer) (hf : X.env.frame = some X.env.locals) (I : Inv X pins σ Hc sc) (ho : s'.os = sc.os) (hgn : s'.gens = sc.gens)
    (M : Heap.MadeExcOf sc.heap s'.heap a (.ref C) args) (k : ∀ s2, Flown X.prog X.w X.outer X.H₀ X.s₀ Hc (.ref C) (.ref a) s2 → Q () s2) : wpAny (model X.prog X.w) X.A (leaving X.env (.ref a)) Q E s' := by
  have hfr : X.A.frames = some (X.env :: X.outer) := by rw [I.ok.frames, hst]
  have fs : sc.heap.FunFrames (PySem.W.hideAll sc.heap (frs X.stack)) (X.env :: X.outer) := by
    rw [← hst]
    exact PySem.W.funFrames_hide I.stack fun env he b hb => List.mem_filterMap.mpr ⟨env, he, hb⟩
  unfold leaving
  refine wpAny_bind (note_made (base := PySem.W.hideAll sc.heap (frs X.stack)) hfr hf (fun b o q => PySem.W.of_hideAll _ q) fs M fun h1 t hd1 up1 => ?_)
  refine landX hd1 fun h2 fl2 up2 => k _ ?_
  have up := up1.trans up2
  replace fl2 : FlyX (PySem.W.hideAll sc.heap (frs X.stack)) X.outer a (.ref C) t h2 := let ⟨k1, k2, ⟨_, _, k3⟩, k4⟩ := fl2; ⟨k1, k2, k3, k4⟩
  obtain ⟨u2, c2⟩ := un_out (H' := Hc) (s' := s') (ch := []) hx hst hf I (fun b z => by cases z) (Un.kept M.keeps) up fl2.1 fun b o q hb _ => ⟨o, PySem.W.hideAll_get _ q hb, fun _ => rfl⟩
  exact ⟨a, t, _, rfl, ho.trans I.os, by rw [show ({ s' with heap := h2 } : Shared).gens = sc.gens from hgn]; exact I.bare, u2, hok_hide I.hok I.stkFree, fl2, c2⟩
end
def PostF (K : PySem.W.Frag) (m : Mp) (H : Hp) (r : Re Wv) (Q : VK) (E : XK) : Prop := match r with
  | .ok w st => okE K m H Q w st
  | .err c st => ∀ (m' : Mp) (H' : Hp) (C : Addr), Ext K m H m' H' → Sim K m' st H' → ClsAt K c C → E (.ref C) none H'
  | .bad => False
def spW (K : PySem.W.Frag) (n : Nat) (F : List Wv → Hs → Re Wv) : Sp := fun vs H Q E => ∃ m st ws, Sim K m st H ∧ RelWs K m H ws vs ∧ ws.length = n ∧ PostF K m H (F ws st) Q E
def gCall (n : Nat) (F : List Wv → Hs → Re Wv) (g : GA) : GE := fun ρ st => (g ρ st).bind fun ws st1 => if ws.length = n then F ws st1 else .bad
section
variable {X : Cx}
theorem je_call {k n : Nat} {f : Addr} {fd : FuncData} {ps : List Str} {F : List Wv → Hs → Re Wv} {x : Str} {p pos : Pos} {e : Expr} {es : List Expr} {g : GA}
    (G : FnOk X.prog X.w X.K X.mg X.base (CXJ X.prog X.w) k f fd ps (spW X.K n F)) (hr : Room k X.A) (hm : X.mg x = some (.ref f)) (hk : PySem.W.keepIn X.K (.ref f) = true) (hb : Binds X.K fd ps []) (ha : JA X (e :: es) g) (hg : Gl X x := by rfl)
    (hdb : (x == ("__debug__" : Str)) = false := by decide) (he : starEach (e :: es) X.env = (false, eval e X.env) :: starEach es X.env := by rfl) (hpl : (backTo pos (starEach es X.env)).any (·.1) = false := by rfl) :
    JE X (.Call (.Name x p) (e :: es) [] pos) (gCall n F g) := by
  intro ρ st σ H m Q S R p pins s I
  have args := ha.go (T := fun vs H1 => ∃ ws st1 m1, PostE X σ m H (if ws.length = n then F ws st1 else .bad) Q ∧ Ext X.K m H m1 H1 ∧ Sim X.K m1 st1 H1 ∧ RelWs X.K m1 H1 ws vs) S R (PostG.bind p)
    fun ws st1 vs m1 H1 p1 e1 S1 rs => ⟨ws, st1, m1, p1, e1, S1, rs⟩
  refine wpAny_Call_Name_kw (ld_glob I hg hm ?_ hdb)
  refine PySem.W.callWith_K (h₀ := X.base) I.ok.mod.kin hk (thn (args pos pins s I) fun us s1 ⟨vs, H1, I1, r, ws, st1, m1, p1, e1, S1, rs⟩ => ⟨I1.kIn, ?_⟩) he hpl
  by_cases c : ws.length = n
  · rw [if_pos c] at p1
    let E : XK := fun cl _ H2 => ∃ c' st2 m2 C, cl = .ref C ∧ ClsAt X.K c' C ∧ F ws st1 = .err c' st2 ∧ Ext X.K m1 H1 m2 H2 ∧ Sim X.K m2 st2 H2
    have sp : spW X.K n F vs H1 Q E := by
      refine ⟨m1, st1, ws, S1, rs, c, ?_⟩
      cases er : F ws st1 with
      | ok w st2 => rw [er] at p1; exact PostE.shift (r := .ok w st2) p1 e1
      | err c' st2 => exact fun m2 H2 C e2 S2 hC => ⟨c', st2, m2, C, rfl, hC, er, e2, S2⟩
      | bad => rw [er] at p1; exact False.elim p1
    have hl : us.length = ps.length := by rw [← r.length]; exact G.len _ _ _ _ sp
    have bd := hb s1 us I1.kIn (by rw [List.append_nil]; exact hl)
    rw [List.append_nil] at bd
    refine wpAny_call (codeAny_mono (G.run X.A X.stack s1 H1 ⟨us, []⟩ us vs Q E hr I1.env0 bd r sp) fun rr s2 hq => ?_)
    cases rr with
    | error x =>
      obtain ⟨H2, C, fl, c', st2, m2, C', ec, hC, er, e2, S2⟩ := hq
      cases ec
      rw [er] at p1
      exact p1 m2 H2 x s2 (e1.trans e2) S2 ⟨C, pins, H1, s1, hC, I1, .inl fl.any⟩
    | ok fw =>
      cases fw with
      | ret u => exact I1.after hq
      | next => exact False.elim hq
      | brk => exact False.elim hq
      | cont => exact False.elim hq
  · rw [if_neg c] at p1; exact False.elim p1
end
def fnF (n : Nat) (g : GS) : List Wv → Hs → Re Wv := fun ws st => match g (ws.map some ++ List.replicate (n - ws.length) none) st with
  | .nx _ st' => .ok .non st'
  | .rt w st' => .ok w st'
  | .err c _ st' => .err c st'
  | _ => .bad
theorem startRel {K : PySem.W.Frag} {m : Mp} {H : Hp} {N : List Str} {ws : List Wv} {vs : List V} (r : RelWs K m H ws vs) (h : ws.length ≤ N.length) : RelEnv K m H (ws.map some ++ List.replicate (N.length - ws.length) none) (L2.start N vs) := by
  have hl := r.length
  refine ⟨by unfold L2.start; simp [hl], fun i w e => ?_⟩
  by_cases hi : i < ws.length
  · rw [List.getElem?_append_left (by simpa using hi), List.getElem?_map] at e
    cases q : ws[i]? with
    | none => rw [q] at e; cases e
    | some w' =>
      rw [q] at e
      cases e
      obtain ⟨x, h1, h2⟩ := r.get q
      refine ⟨x, ?_, h2⟩
      unfold L2.start
      rw [List.getElem?_append_left (by simp; omega), List.getElem?_map, h1]
      rfl
  · rw [List.getElem?_append_right (by simpa using hi), List.getElem?_replicate] at e
    split at e <;> cases e
section
variable {P : Program} {w : World} {K : PySem.W.Frag} {mg : Str → Option Value} {base : Heap}
theorem raised_out {N : List Str} {qual : Str} {scope : Scope} {f : Addr} {cdv : Value} {A : Around} {outer : List Env} {s s' : Shared} {H H' : Hp} {E : XK} {σ : St} {c : PySem.Str} {e : Value}
    (r : Raised (cxOf (CXJ P w) P w K mg base N qual scope f cdv A outer s H E) σ H' c e s') (h : ∀ C, ClsAt K c C → E (.ref C) none H') : (cxOf (CXJ P w) P w K mg base N qual scope f cdv A outer s H E).xe e s' := by
  obtain ⟨C, pins, Hc, sc, hC, I, r⟩ := r
  rcases r with fl | ⟨rfl, a, args, rfl, ho, hg, M⟩
  · exact leave_flown (X := cxOf (CXJ P w) P w K mg base N qual scope f cdv A outer s H E) rfl rfl rfl I fl fun s2 fl2 => ⟨H', C, fl2, h C hC⟩
  · exact leave_made (X := cxOf (CXJ P w) P w K mg base N qual scope f cdv A outer s H E) rfl rfl rfl I ho hg M fun s2 fl2 => ⟨H', C, fl2, h C hC⟩
def CodeOf (K : PySem.W.Frag) (f : Addr) (cdv : Value) : Prop := ∃ o, K.lookup f = some o ∧ ∃ fd, o.data = .func fd ∧ fd.code = cdv
theorem fn_ok {x qual : Str} {st : Stmt} {f : Addr} {fd : FuncData} {N ps : List Str} {k : Nat} {g : GS} (F : Fun K x qual st f fd) (S : FnScope N ps (defScope st))
    (body : ∀ (cdv : Value), CodeOf K f cdv → ∀ (A : Around) (outer : List Env) (s : Shared) (H : Hp) (E : XK), Room k (A.deeper (envOfC qual (defScope st) s.heap.objs.size f cdv)) → JSs (cxOf (CXJ P w) P w K mg base N qual (defScope st) f cdv A outer s H E) (defBody st) g) :
    FnOk P w K mg base (CXJ P w) (k + 1) f fd ps (spW K ps.length (fnF N.length g)) := by
  have hpl : ps.length ≤ N.length := by have := congrArg List.length S.pre; rw [List.length_take] at this; omega
  obtain ⟨oc, od, kV, doc, pm, an, cdv, ct, osl, rfl, lk, hcd⟩ := F.ex
  refine fn_of lk hcd S (fun vs H Q E h => ?_) fun A outer s H vs Q E hr h => ?_
  · obtain ⟨m, st', ws, _, r, hl, _⟩ := h
    rw [← r.length]; exact hl
  · obtain ⟨m, st', ws, S', r, hl, p⟩ := h
    refine ⟨_, pss_SSs, ?_⟩
    refine body cdv ⟨_, lk, _, rfl, rfl⟩ A outer s H E hr _ st' _ H m _ S' (startRel r (by omega)) ?_
    unfold fnF at p
    cases e : g (ws.map some ++ List.replicate (N.length - ws.length) none) st' with
    | nx ρ st2 => rw [e] at p; exact fun σ m' H' e' S2 R2 => p _ m' H' e' S2 (by unfold RelW; rfl)
    | rt w' st2 => rw [e] at p; exact p
    | bk ρ st2 => rw [e] at p; exact False.elim p
    | ct ρ st2 => rw [e] at p; exact False.elim p
    | err c ρ st2 => rw [e] at p; exact fun σ m' H' x s' e' S2 R2 rz => raised_out rz fun C hC => p m' H' C e' S2 hC
    | bad => rw [e] at p; exact False.elim p
end
def OnlyT (H : Hp) : Prop := ∀ b, H b = none ∨ (∃ o xs, H b = some (.frz o (.lst xs))) ∨ H b = some (.tbl #[])
theorem OnlyT.of {H : Hp} (h : Only H) : OnlyT H := fun b => by
  rcases h b with q | q
  · exact .inl q
  · exact .inr (.inl q)
theorem law_sp {K : PySem.W.Frag} {F : List Wv → Hs → Re Wv} (h : ∀ ns : List Int, ns.length ≤ 63 → ∃ st, F [.ref 0] [.scr ns] = .ok (.bl true) st) (H : Hp) (a : Addr) (ns : List Int) (hl : ns.length ≤ 63) (hO : OnlyT H) (hS : SqL K H a (ns.map V.int)) (hT : TbOk K H) :
    spW K 1 F [.ref a] H (fun v _ => v = .bl true) fun _ _ _ => False := by
  obtain ⟨st, e⟩ := h ns hl
  refine ⟨[a], [.scr ns], [.ref 0], ⟨rfl, fun l b o h1 h2 => ?_, fun l l' b ws ws' _ _ h2 _ k _ => ?_, hT⟩, RelWs.cons (by unfold RelW; exact ⟨a, rfl, rfl⟩) RelWs.nil, rfl, ?_⟩
  · cases l with
    | zero =>
      simp at h1 h2
      subst h1 h2
      show ScrOk K H a ns
      rcases hS with (q | ⟨o', q⟩) | q
      · rcases hO a with z | ⟨o', xs, z⟩ | z
        · rw [z] at q; cases q
        · rw [z] at q; cases q
        · rw [z] at q; cases q
      · exact .inl ⟨o', q⟩
      · exact .inr q
    | succ l => simp at h1
  · cases l with
    | zero => simp at h2; subst h2; simp [Ob.mu] at k
    | succ l => simp at h2
  · rw [e]
    intro v m' H' _ _ r
    unfold RelW at r
    exact r
end J
namespace J
open PySem PySem.Spec PyProof.Rows L2
def truW (w : Wv) (st : Hs) : Re Bool := match w with
  | .non => .ok false st
  | .bl b => .ok b st
  | .int i => .ok (i != 0) st
  | .str y => if y.length ≤ lim then .ok ((y.length : Int) != 0) st else .bad
  | .tup ws => .ok (!ws.isEmpty) st
  | .ktp _ => .bad
  | .ref l => match lstOf st l with
    | some ws => .ok (!ws.isEmpty) st
    | none => .bad
  | .ty _ => .bad
  | .cls _ => .bad
  | .exn _ => .bad
  | .fn _ _ => .bad
def gTru (g : GE) : GT := fun ρ st => (g ρ st).bind truW
section
variable {X : Cx}
theorem isE {m : Mp} {H : Hp} {ws : List Wv} {xs : List V} (r : RelWs X.K m H ws xs) : (!ws.isEmpty) = !xs.isEmpty := by
  have h := r.length
  cases ws <;> cases xs <;> simp_all
theorem jt_tru {e : Expr} {g : GE} (h : JE X e g) (he : ∀ whole, isTrue e X.env whole = (do let v ← whole; standAt e.pos; holding [v] (truthy v))) : JT X e (gTru g) :=
  JT.of (pt_truth pe_SE he) fun ρ st σ H m Q S R p => h.go S R (PostG.bind p) fun w st1 v m1 H1 p1 e1 S1 r1 => by
    cases w with
    | non => unfold RelW at r1; subst r1; exact ⟨false, rfl, p1 m1 H1 e1 S1⟩
    | bl b => unfold RelW at r1; subst r1; exact ⟨b, rfl, p1 m1 H1 e1 S1⟩
    | int i => unfold RelW at r1; subst r1; exact ⟨_, rfl, p1 m1 H1 e1 S1⟩
    | str y =>
      obtain ⟨rfl, _⟩ := relStr r1
      have p2 : PostT X σ m H (if y.length ≤ lim then .ok ((y.length : Int) != 0) st1 else .bad) Q := p1
      by_cases c : y.length ≤ lim
      · rw [if_pos c] at p2; exact ⟨_, ⟨lim_le c, rfl⟩, p2 m1 H1 e1 S1⟩
      · rw [if_neg c] at p2; exact False.elim p2
    | ktp ws => exact False.elim p1
    | tup ws =>
      unfold RelW at r1
      obtain ⟨a, xs, rfl, h1, h2⟩ := r1
      refine ⟨!xs.isEmpty, .inr (.inl ⟨xs, SqT.of h1, rfl⟩), ?_⟩
      rw [← isE h2]
      exact p1 m1 H1 e1 S1
    | ref l =>
      unfold RelW at r1
      obtain ⟨a, rfl, h1⟩ := r1
      have p2 : PostT X σ m H (match lstOf st1 l with | some ws => .ok (!ws.isEmpty) st1 | none => .bad) Q := p1
      cases el : lstOf st1 l with
      | none => rw [el] at p2; exact False.elim p2
      | some ws =>
        rw [el] at p2
        obtain ⟨xs, hq, h2⟩ := S1.read h1 el
        refine ⟨!xs.isEmpty, .inl ⟨xs, hq, rfl⟩, ?_⟩
        rw [← isE h2]
        exact p2 m1 H1 e1 S1
    | ty T => exact False.elim p1
    | cls T => exact False.elim p1
    | exn T => exact False.elim p1
    | fn fp T => exact False.elim p1
theorem all_fold {p : Nat → Bool} {x : Array Nat} (hx : x.all p = true) : ∀ (n : Nat) (a : Array Nat), a.all p = true → ((List.replicate n x).foldl (· ++ ·) a).all p = true
  | 0, a, h => h
  | n + 1, a, h => by
    rw [List.replicate_succ, List.foldl_cons]
    refine all_fold hx n _ ?_
    rw [Array.all_append, h, hx]
    rfl
theorem strOk_rep {x : PySem.Str} {n : Nat} (h : PyData.strOk x = true) : PyData.strOk (repS n x) = true := by
  unfold PyData.strOk at h ⊢
  unfold repS
  exact all_fold h n #[] (by simp)
theorem size_fold {x : Array Nat} : ∀ (n : Nat) (a : Array Nat), ((List.replicate n x).foldl (· ++ ·) a).size = a.size + x.size * n
  | 0, a => by simp
  | n + 1, a => by
    rw [List.replicate_succ, List.foldl_cons, size_fold n, Array.size_append, Nat.mul_succ]
    omega
theorem len_repS {x : PySem.Str} {n : Nat} : (repS n x).length = x.length * n := by
  show ((List.replicate n x.cps).foldl (· ++ ·) #[]).size = x.cps.size * n
  rw [size_fold]
  simp
def CMulS (x : PySem.Str) (n : Int) : Prop := 1 < n ∧ n ≤ 100000 ∧ x.length ≠ 0 ∧ x.length * n.toNat ≤ lim
instance {x n} : Decidable (CMulS x n) := by unfold CMulS; infer_instance
theorem op_mulS : OpR X (binaryOp .Mult) (fun x y H Q => ∃ z n, x = .str z ∧ y = .int n ∧ CMulS z n ∧ Q (.str (repS n.toNat z)) H) := by
  intro pins s σ H x y v u Q I rx ry h
  obtain ⟨z, n, rfl, rfl, ⟨h1, h2, h3, h4⟩, q⟩ := h
  obtain ⟨t, rfl⟩ := rx
  obtain ⟨t', rfl⟩ := ry
  have n1 : ¬ n < 1 := by omega
  have hlen : z.length ≤ lim := by
    refine Nat.le_trans ?_ h4
    exact Nat.le_mul_of_pos_right _ (by omega)
  have hne : (n == 1 || z.length == 0) = false := by
    have e1 : (n == 1) = false := by rw [beq_eq_false_iff_ne]; omega
    have e2 : (z.length == 0) = false := by rw [beq_eq_false_iff_ne]; exact h3
    rw [e1, e2]; rfl
  have hl : PySem.Builtin.Str.tooLong (z.length * n.toNat) = false := by
    unfold PySem.Builtin.Str.tooLong
    have q := lim_le h4
    first
      | exact decide_eq_false (by omega)
      | simp only [decide_eq_false_iff_not]; omega
  refine PySem.P.mul_str (by
      have e1 : ¬ n < -(2 ^ 63 : Int) := by omega
      have e2 : ¬ n ≥ 2 ^ 63 := by omega
      rw [decide_eq_false e1, decide_eq_false e2]; rfl) (fun _ _ => ?_) (fun _ _ => hl) ?_
  · have e : ((2 : Int) ^ 63 - 1) / 100000 ≤ (2 ^ 63 - 1) / n := by
      refine Int.le_ediv_of_mul_le (by omega) ?_
      have : ((2 : Int) ^ 63 - 1) / 100000 * n ≤ ((2 : Int) ^ 63 - 1) / 100000 * 100000 := Int.mul_le_mul_of_nonneg_left h2 (by decide)
      exact Int.le_trans this (by decide)
    have e' : (1000000 : Int) ≤ (2 ^ 63 - 1) / 100000 := by decide
    unfold lim at hlen
    omega
  · rw [if_neg n1, if_neg (by rw [hne]; exact Bool.false_ne_true)]
    exact ⟨by show (repS n.toNat z).length ≤ _; rw [len_repS]; exact lim_le h4, .str (repS n.toNat z), H, I.tok _, ⟨_, rfl⟩, q⟩
def oMulS : Op2
  | .int i, .int j, st => if IntMulOk i j then .ok (.int (i * j)) st else .bad
  | .str z, .int n, st => if CMulS z n then .ok (.str (repS n.toNat z)) st else .bad
  | _, _, _ => .bad
theorem ow_mulS : OpW X (binaryOp .Mult) oMulS := ⟨_, OpR.or op_mulG op_mulS, fun x y a b st H m Q S rx ry p => by
  cases x with
  | int i =>
    cases y with
    | int j =>
      cases relInt rx; cases relInt ry
      have p' : PostO X.K m H (if IntMulOk i j then .ok (.int (i * j)) st else .bad) Q := p
      by_cases c : IntMulOk i j
      · rw [if_pos c] at p'; exact .inl ⟨i, j, rfl, rfl, c, p' _ m H Ext.refl S mkInt⟩
      · rw [if_neg c] at p'; exact False.elim p'
    | _ => exact False.elim p
  | str z =>
    cases y with
    | int n =>
      obtain ⟨rfl, hz⟩ := relStr rx
      cases relInt ry
      have p' : PostO X.K m H (if CMulS z n then .ok (.str (repS n.toNat z)) st else .bad) Q := p
      by_cases c : CMulS z n
      · rw [if_pos c] at p'; exact .inr ⟨z, n, rfl, rfl, c, p' _ m H Ext.refl S (mkStr (strOk_rep hz))⟩
      · rw [if_neg c] at p'; exact False.elim p'
    | _ => exact False.elim p
  | _ => exact False.elim p⟩
def gBad : GE := fun _ _ => .bad
def gBadT : GT := fun _ _ => .bad
theorem je_bad {e : Expr} : JE X e gBad := fun ρ st σ H m Q S R p => False.elim p
theorem jt_bad {e : Expr} : JT X e gBadT := fun ρ st σ H m Q S R p => False.elim p
end
def Has (P : Program) (w : World) (K : PySem.W.Frag) (mg : Str → Option Value) (base : Heap) (k : Nat) (x : Str) (n : Nat) (F : List Wv → Hs → Re Wv) : Prop :=
  ∃ f fd ps, FnOk P w K mg base (CXJ P w) k f fd ps (spW K n F) ∧ mg x = some (.ref f) ∧ PySem.W.keepIn K (.ref f) = true ∧ Binds K fd ps []
theorem Has.mono {P : Program} {w : World} {K : PySem.W.Frag} {mg : Str → Option Value} {base : Heap} {j k : Nat} {x : Str} {n : Nat} {F : List Wv → Hs → Re Wv} (h : Has P w K mg base j x n F) (l : j ≤ k) : Has P w K mg base k x n F := by
  obtain ⟨f, fd, ps, G, r⟩ := h
  exact ⟨f, fd, ps, G.mono l, r⟩
def DefAt (K : PySem.W.Frag) (x : Str) (st : Stmt) : Prop := ∃ f fd, PySem.W.nsIn K mainGlobals x = some (some (.ref f)) ∧ Fun K x x st f fd
theorem def_at {K : PySem.W.Frag} {x : Str} {st : Stmt} {f : Addr} {oc : Value} {od an : Option Addr} {osl : Array (Option Value)} {kV doc pm cdv ct : Value} (a : PySem.W.nsIn K mainGlobals x = some (some (.ref f)))
    (l : K.lookup f = some ⟨oc, od, .func (PySem.W.fnOf x x (defArgs st) (defBody st) (defScope st) .none kV doc pm an cdv ct), osl⟩) (c : PySem.W.codeIn K cdv x = true) (k : PySem.W.keepIn K (.ref f) = true) : DefAt K x st := ⟨f, _, a, fun_mk l c k⟩
theorem boot_isI : bootBuiltins "isinstance" = some (.builtin "isinstance") := by decide +kernel
theorem boot_lenJ : bootBuiltins "len" = some (.builtin "len") := by decide +kernel
theorem boot_tyI : bootBuiltins "int" = some (.type "int") := by decide +kernel
theorem boot_tyS : bootBuiltins "str" = some (.type "str") := by decide +kernel
theorem boot_tyB : bootBuiltins "bool" = some (.type "bool") := by decide +kernel
theorem boot_tyT : bootBuiltins "tuple" = some (.type "tuple") := by decide +kernel
theorem boot_tyL : bootBuiltins "list" = some (.type "list") := by decide +kernel
end J
namespace J
open PySem PySem.Spec PyProof.Rows L2
def forT (i : Nat) (gb : GS) : List Wv → Rho → Hs → Rs
  | [], ρ, st => .nx ρ st
  | w :: r, ρ, st => match gb (ρ.set i (some w)) st with
    | .nx ρ' st' => forT i gb r ρ' st'
    | .ct ρ' st' => forT i gb r ρ' st'
    | .bk ρ' st' => .nx ρ' st'
    | .rt w st' => .rt w st'
    | .err c ρ' st' => .err c ρ' st'
    | .bad => .bad
section
variable {X : Cx}
theorem for_core (i : Nat) {body : List Stmt} {gb : GS} (hb : JSs X body gb) {J' : It} {ws : List Wv} {m1 : Mp} {H1 : Hp} {st1 : Hs} {ρ : Rho} {σ : St} {D : Ends} (S1 : Sim X.K m1 st1 H1) (R : RelEnv X.K m1 H1 ρ σ) (p1 : PostS X m1 H1 (forT i gb ws ρ st1) D)
    (hgo : ∀ (k : Nat) (H : Hp) (m' : Mp), Ext X.K m1 H1 m' H → k < ws.length → J'.go k H) (hstop : ∀ (k : Nat) (H : Hp) (m' : Mp), Ext X.K m1 H1 m' H → k = ws.length → J'.stop k H)
    (hy : ∀ (k : Nat) (hk : k < ws.length) (H : Hp) (x : V) (H' : Hp) (m' : Mp), Ext X.K m1 H1 m' H → J'.yld k H x H' → H' = H ∧ RelW X.K m' H ws[k] x) :
    ∃ W : Nat → Nat → St → Hp → Prop, (∃ m, W 0 m σ H1) ∧ ∀ k n σ H, W k n σ H →
      (J'.stop k H ∧ D.nx σ H) ∨ (J'.go k H ∧ ∃ N : St → Hp → Prop, (∀ σ' H', N σ' H' → ∃ m', m' < n ∧ W (k + 1) m' σ' H') ∧ ∀ x H', J'.yld k H x H' → gName i x σ H' fun σ2 H2 => SSs X body { D with nx := N, ct := N, bk := D.nx } σ2 H2) := by
  let Pv : Nat → St → Hp → Prop := fun k σ H => ∃ ρ st m', Ext X.K m1 H1 m' H ∧ Sim X.K m' st H ∧ RelEnv X.K m' H ρ σ ∧ PostS X m' H (forT i gb (ws.drop k) ρ st) D
  refine ⟨fun k n σ H => n = ws.length - k ∧ k ≤ ws.length ∧ Pv k σ H, ⟨ws.length, by simp, Nat.zero_le _, ρ, st1, m1, Ext.refl, S1, R, p1⟩, ?_⟩
  rintro k n σ2 H2 ⟨rfl, hk, ρ2, st2, m2, e2, S2, R2, p2⟩
  by_cases hlt : k < ws.length
  · refine .inr ⟨hgo k H2 m2 e2 hlt, Pv (k + 1), fun σ' H' p' => ⟨ws.length - (k + 1), by omega, rfl, hlt, p'⟩, fun x H' y => ?_⟩
    obtain ⟨ee, rx'⟩ := hy k hlt H2 x H' m2 e2 y
    subst ee
    have ed : ws.drop k = ws[k] :: ws.drop (k + 1) := List.drop_eq_getElem_cons hlt
    rw [ed] at p2
    refine hb _ st2 _ _ m2 _ S2 (R2.set i rx') ?_
    unfold forT at p2
    cases eg : gb (ρ2.set i (some ws[k])) st2 with
    | nx ρ3 st3 => rw [eg] at p2; exact fun σ3 m3 H3 e3 S3 R3 => ⟨ρ3, st3, m3, e2.trans e3, S3, R3, PostS.shift p2 e3⟩
    | ct ρ3 st3 => rw [eg] at p2; exact fun σ3 m3 H3 e3 S3 R3 => ⟨ρ3, st3, m3, e2.trans e3, S3, R3, PostS.shift p2 e3⟩
    | bk ρ3 st3 => rw [eg] at p2; exact p2
    | rt w3 st3 => rw [eg] at p2; exact p2
    | err c3 ρ3 st3 => rw [eg] at p2; exact p2
    | bad => rw [eg] at p2; exact p2
  · have e : k = ws.length := by omega
    subst e
    rw [List.drop_length] at p2
    exact .inl ⟨hstop _ H2 m2 e2 rfl, p2 σ2 m2 H2 Ext.refl S2 R2⟩
def iSeq (K : PySem.W.Frag) (tl : TE) : TI := fun σ H R => tl σ H fun x H1 => ∃ a, x = .ref a ∧ (((∃ xs, SqL K H1 a xs) ∧ R (Itl K a) H1) ∨ ((∃ xs, SqT K H1 a xs) ∧ R (Itt K a) H1))
theorem pi_seq {tg l : Expr} {tl : TE} (hl : PE X l tl) : PI X tg l (iSeq X.K tl) := by
  intro pins s σ H R I h
  refine thn (hl pins s σ H _ I h) fun v s1 ⟨x, H1, I1, r1, q1⟩ => ?_
  obtain ⟨a, e, q1⟩ := q1
  subst e
  cases r1
  have frs : ∀ b ∈ [s1.heap.objs.size], FpOk X pins H1 b := fun b hb => by
    have e : b = s1.heap.objs.size := by simpa using hb
    subst e
    exact I1.fpOk (Nat.le_refl _) (I1.hok.fresh (Nat.le_refl _))
  rcases q1 with ⟨⟨xs, hq⟩, q⟩ | ⟨⟨xs, hq⟩, q⟩
  · obtain ⟨its, rv, p, hz⟩ := I1.list hq
    refine wpAny_pyIter_list p.isList ?_
    exact ⟨s1.heap.objs.size, [s1.heap.objs.size], _, _, H1, rfl, I1.kept (t' := s1.toks) fun b o e => Heap.get?_push_of_some _ e, turn_list a _, ⟨_, Heap.get?_push_size _ rfl, rfl, rfl⟩, frs, q⟩
  · obtain ⟨its, rv, p, hz⟩ := I1.tuple hq
    refine wpAny_pyIter_tuple (show s1.heap.IsTuple a its.toArray from p) ?_
    exact ⟨s1.heap.objs.size, [s1.heap.objs.size], _, _, H1, rfl, I1.kept (t' := s1.toks) fun b o e => Heap.get?_push_of_some _ e, turn_tuple a _, ⟨_, Heap.get?_push_size _ rfl, rfl, rfl⟩, frs, q⟩
noncomputable def gFor (i : Nat) (gi : GE) (gb : GS) : GS := fun ρ st => (gi ρ st).thn ρ fun w st1 => match w with
  | .ref l => (match lstOf st1 l with | some ws => forL i gb l ws ws ρ st1 | none => .bad)
  | .tup ws => forT i gb ws ρ st1
  | .ktp ws => forT i gb ws ρ st1
  | _ => .bad
theorem js_for (i : Nat) {x : Str} {iter : Expr} {body : List Stmt} {gi : GE} {gb : GS} {pos pos' : Pos} (hN : X.N.Nodup) (hp : PassesOwn (model X.prog X.w) X.A X.env X.xe) (hc : X.calm = true) (hi : JE X iter gi) (hb : JSs X body gb)
    (hx : X.N[i]? = some x) (hlo : Loc X.env.scope x) (hlf : X.fn x = true ∨ X.env.scope.names.lookup x = some .local)
    (hs : ∀ x, foldedSetIterable iter X.env x = pure x) : JS X (.For (.Name x pos') iter body [] pos) (gFor i gi gb) := by
  refine JS.of (ps_for hp hc (pi_seq pe_SE) (pg_name hN hx hlo hlf) pss_SSs hs) fun ρ st σ H m D S R p => ?_
  refine hi.go S R (PostS.of_thn R p) fun w st1 v m1 H1 p1 e1 S1 rw' => ?_
  cases w with
  | ref l =>
    have p1' : PostS X m H (match lstOf st1 l with | some ws => forL i gb l ws ws ρ st1 | none => .bad) D := p1
    unfold RelW at rw'
    obtain ⟨a, rfl, hla⟩ := rw'
    cases el : lstOf st1 l with
    | none => rw [el] at p1'; exact False.elim p1'
    | some ws =>
      rw [el] at p1'
      obtain ⟨xs0, q0, _⟩ := S1.read hla el
      refine ⟨a, rfl, .inl ⟨⟨xs0, q0⟩, ?_⟩⟩
      let Pv : Nat → St → Hp → Prop := fun k σ H => ∃ ρ st m', Ext X.K m1 H1 m' H ∧ Sim X.K m' st H ∧ RelEnv X.K m' H ρ σ ∧ lstOf st l = some ws ∧ PostS X m' H (forL i gb l ws (ws.drop k) ρ st) D
      refine ⟨fun k n σ H => n = ws.length - k ∧ k ≤ ws.length ∧ Pv k σ H, ⟨ws.length, by simp, Nat.zero_le _, ρ, st1, m1, Ext.refl, S1, R.mono e1, el, PostS.shift p1' e1⟩, ?_⟩
      rintro k n σ2 H2 ⟨rfl, hk, ρ2, st2, m2, e2, S2, R2, l2, p2⟩
      obtain ⟨xs, hq, rws⟩ := S2.read (e2.pre _ _ hla) l2
      have hlen := rws.length
      by_cases hlt : k < ws.length
      · have hx' : k < xs.length := by omega
        refine .inr ⟨⟨xs, xs[k], hq, by simp [hx']⟩, Pv (k + 1), fun σ' H' p' => ⟨ws.length - (k + 1), by omega, rfl, hlt, p'⟩, fun x H' y => ?_⟩
        obtain ⟨ee, y⟩ := y
        subst ee
        have ey := y xs hq
        have ed : ws.drop k = ws[k] :: ws.drop (k + 1) := List.drop_eq_getElem_cons hlt
        obtain ⟨x', ex', rx'⟩ := rws.get (i := k) (w := ws[k]) (List.getElem?_eq_getElem hlt)
        rw [ey] at ex'
        cases ex'
        rw [ed] at p2
        refine hb _ st2 _ _ m2 _ S2 (R2.set i rx') ?_
        unfold forL at p2
        cases eg : gb (ρ2.set i (some ws[k])) st2 with
        | nx ρ3 st3 =>
          rw [eg] at p2
          by_cases c : lstOf st3 l = some ws
          · simp only [if_pos c] at p2
            exact fun σ3 m3 H3 e3 S3 R3 => ⟨ρ3, st3, m3, e2.trans e3, S3, R3, c, PostS.shift p2 e3⟩
          · simp only [if_neg c] at p2; exact False.elim p2
        | ct ρ3 st3 =>
          rw [eg] at p2
          by_cases c : lstOf st3 l = some ws
          · simp only [if_pos c] at p2
            exact fun σ3 m3 H3 e3 S3 R3 => ⟨ρ3, st3, m3, e2.trans e3, S3, R3, c, PostS.shift p2 e3⟩
          · simp only [if_neg c] at p2; exact False.elim p2
        | bk ρ3 st3 => rw [eg] at p2; exact p2
        | rt w3 st3 => rw [eg] at p2; exact p2
        | err c3 ρ3 st3 => rw [eg] at p2; exact p2
        | bad => rw [eg] at p2; exact p2
      · have e : k = ws.length := by omega
        subst e
        rw [List.drop_length] at p2
        exact .inl ⟨⟨xs, hq, by omega⟩, p2 σ2 m2 H2 Ext.refl S2 R2⟩
  | tup ws =>
    unfold RelW at rw'
    obtain ⟨a, xs, rfl, hq, rws⟩ := rw'
    have hlen := rws.length
    refine ⟨a, rfl, .inr ⟨⟨xs, SqT.of hq⟩, ?_⟩⟩
    refine for_core i hb (ws := ws) S1 (R.mono e1) (PostS.shift p1 e1) (fun k H m' e hk => ?_) (fun k H m' e hk => ?_) fun k hk H x H' m' e y => ?_
    · have hx' : k < xs.length := by omega
      exact ⟨xs, xs[k], SqT.of (e.tup _ _ hq), by simp [hx']⟩
    · exact ⟨xs, SqT.of (e.tup _ _ hq), by omega⟩
    · obtain ⟨ee, y⟩ := y
      refine ⟨ee, ?_⟩
      obtain ⟨x', ex', rx'⟩ := (RelWs.mono e _ _ rws).get (i := k) (w := ws[k]) (List.getElem?_eq_getElem hk)
      rw [y xs (SqT.of (e.tup _ _ hq))] at ex'
      cases ex'
      exact rx'
  | ktp ws =>
    unfold RelW at rw'
    obtain ⟨a, xs, rfl, hq, rws⟩ := rw'
    have hlen := rws.length
    refine ⟨a, rfl, .inr ⟨⟨xs, .inr hq⟩, ?_⟩⟩
    refine for_core i hb (ws := ws) S1 (R.mono e1) (PostS.shift p1 e1) (fun k H m' e hk => ?_) (fun k H m' e hk => ?_) fun k hk H x H' m' e y => ?_
    · have hx' : k < xs.length := by omega
      exact ⟨xs, xs[k], .inr hq, by simp [hx']⟩
    · exact ⟨xs, .inr hq, by omega⟩
    · obtain ⟨ee, y⟩ := y
      refine ⟨ee, ?_⟩
      obtain ⟨x', ex', rx'⟩ := (RelWs.mono e _ _ rws).get (i := k) (w := ws[k]) (List.getElem?_eq_getElem hk)
      rw [y xs (.inr hq)] at ex'
      cases ex'
      exact rx'
  | _ => exact False.elim p1
def rngW (lo : Int) (n : Nat) : List Wv := (List.range n).map fun k : Nat => Wv.int (lo + k)
theorem rngW_get? {lo : Int} {n k : Nat} (h : k < n) : (rngW lo n)[k]? = some (.int (lo + k)) := by
  unfold rngW
  rw [List.getElem?_map, List.getElem?_range h]
  rfl
theorem rngW_get {lo : Int} {n k : Nat} (h : k < (rngW lo n).length) : (rngW lo n)[k] = .int (lo + k) := by
  have q := rngW_get? (lo := lo) (n := n) (k := k) (by unfold rngW at h; simpa using h)
  rw [List.getElem?_eq_getElem h] at q
  exact Option.some.inj q
theorem rngW_len {lo : Int} {n : Nat} : (rngW lo n).length = n := by unfold rngW; simp
def CRng (i : Int) : Prop := -(2 ^ 62) ≤ i ∧ i < 2 ^ 62
noncomputable instance {i} : Decidable (CRng i) := Classical.propDecidable _
noncomputable def gForR1 (i : Nat) (ga : GA) (gb : GS) : GS := fun ρ st => (ga ρ st).thn ρ fun ws st1 => match ws with
  | [.int j] => if CRng j then forT i gb (rngW 0 j.toNat) ρ st1 else .bad
  | _ => .bad
noncomputable def gForR2 (i : Nat) (ga : GA) (gb : GS) : GS := fun ρ st => (ga ρ st).thn ρ fun ws st1 => match ws with
  | [.int a, .int j] => if CRng a ∧ CRng j then forT i gb (rngW a (j - a).toNat) ρ st1 else .bad
  | _ => .bad
theorem for_rng (i : Nat) {body : List Stmt} {gb : GS} (hb : JSs X body gb) {lo : Int} {n : Nat} {m1 : Mp} {H1 : Hp} {st1 : Hs} {ρ : Rho} {σ : St} {D : Ends} (S1 : Sim X.K m1 st1 H1) (R : RelEnv X.K m1 H1 ρ σ) (p1 : PostS X m1 H1 (forT i gb (rngW lo n) ρ st1) D) :
    ∃ W : Nat → Nat → St → Hp → Prop, (∃ m, W 0 m σ H1) ∧ ∀ k n' σ H, W k n' σ H →
      ((Itr lo n).stop k H ∧ D.nx σ H) ∨ ((Itr lo n).go k H ∧ ∃ N : St → Hp → Prop, (∀ σ' H', N σ' H' → ∃ m', m' < n' ∧ W (k + 1) m' σ' H') ∧ ∀ x H', (Itr lo n).yld k H x H' → gName i x σ H' fun σ2 H2 => SSs X body { D with nx := N, ct := N, bk := D.nx } σ2 H2) :=
  for_core i hb S1 R p1 (fun k H m' e hk => by rw [rngW_len] at hk; exact hk) (fun k H m' e hk => by rw [rngW_len] at hk; exact Nat.le_of_eq hk.symm) fun k hk H x H' m' e y => by
    obtain ⟨y1, y2⟩ := y
    refine ⟨y1, ?_⟩
    rw [rngW_get, y2]
    exact mkInt
theorem js_forR1 (i : Nat) {x : Str} {a : Expr} {body : List Stmt} {ga : GA} {gb : GS} {pos pos' p q : Pos} (hN : X.N.Nodup) (hp : PassesOwn (model X.prog X.w) X.A X.env X.xe) (hc : X.calm = true) (hg : Gl X "range") (hm : X.mg "range" = none) (ha : JA X [a] ga) (hb : JSs X body gb)
    (hx : X.N[i]? = some x) (hlo : Loc X.env.scope x) (hlf : X.fn x = true ∨ X.env.scope.names.lookup x = some .local) (hst : starEach [a] X.env = [(false, eval a X.env)]) : JS X (.For (.Name x pos') (.Call (.Name "range" p) [a] [] q) body [] pos) (gForR1 i ga gb) := by
  refine JS.of (ps_for hp hc (pi_range1 hg hm pa_SA hst) (pg_name hN hx hlo hlf) pss_SSs (fun _ => rfl)) fun ρ st σ H m D S R p => ?_
  refine ha.go S R (PostS.of_thn R p) fun ws st1 vs m1 H1 p1 e1 S1 rs => ?_
  match ws, rs, p1 with
  | [], rs, p1 => exact False.elim p1
  | x :: y :: t, rs, p1 => cases x <;> exact False.elim p1
  | [x], rs, p1 =>
    obtain ⟨v, rfl, r1⟩ := rel1 rs
    cases x with
    | int j =>
      cases relInt r1
      have p2 : PostS X m H (if CRng j then forT i gb (rngW 0 j.toNat) ρ st1 else .bad) D := p1
      by_cases c : CRng j
      · rw [if_pos c] at p2
        exact ⟨j, rfl, c.1, c.2, for_rng i hb S1 (R.mono e1) (PostS.shift p2 e1)⟩
      · rw [if_neg c] at p2; exact False.elim p2
    | _ => exact False.elim p1
theorem js_forR2 (i : Nat) {x : Str} {a b : Expr} {body : List Stmt} {ga : GA} {gb : GS} {pos pos' p q : Pos} (hN : X.N.Nodup) (hp : PassesOwn (model X.prog X.w) X.A X.env X.xe) (hc : X.calm = true) (hg : Gl X "range") (hm : X.mg "range" = none) (ha : JA X [a, b] ga) (hb : JSs X body gb)
    (hx : X.N[i]? = some x) (hlo : Loc X.env.scope x) (hlf : X.fn x = true ∨ X.env.scope.names.lookup x = some .local) (hst : starEach [a, b] X.env = [(false, eval a X.env), (false, eval b X.env)]) (hst2 : starEach [b] X.env = [(false, eval b X.env)]) : JS X (.For (.Name x pos') (.Call (.Name "range" p) [a, b] [] q) body [] pos) (gForR2 i ga gb) := by
  refine JS.of (ps_for hp hc (pi_range2 hg hm pa_SA hst hst2) (pg_name hN hx hlo hlf) pss_SSs (fun _ => rfl)) fun ρ st σ H m D S R p => ?_
  refine ha.go S R (PostS.of_thn R p) fun ws st1 vs m1 H1 p1 e1 S1 rs => ?_
  match ws, rs, p1 with
  | [], rs, p1 => exact False.elim p1
  | [x], rs, p1 => cases x <;> exact False.elim p1
  | x :: y :: z :: t, rs, p1 => cases x <;> cases y <;> exact False.elim p1
  | [x, y], rs, p1 =>
    obtain ⟨v, v', rfl, r1, r2⟩ := rel2 rs
    cases x with
    | int a =>
      cases y with
      | int j =>
        cases relInt r1; cases relInt r2
        have p2 : PostS X m H (if CRng a ∧ CRng j then forT i gb (rngW a (j - a).toNat) ρ st1 else .bad) D := p1
        by_cases c : CRng a ∧ CRng j
        · rw [if_pos c] at p2
          exact ⟨a, j, rfl, ⟨c.1.1, c.1.2, c.2.1, c.2.2⟩, for_rng i hb S1 (R.mono e1) (PostS.shift p2 e1)⟩
        · rw [if_neg c] at p2; exact False.elim p2
      | _ => exact False.elim p1
    | _ => cases y <;> exact False.elim p1
theorem js_retN {pos : Pos} : JS X (.Return none pos) (gRet (gC .non)) := JS.of ps_retN fun ρ st σ H m D S R p => p .non m H Ext.refl S mkNon
end
end J
namespace J
open PySem PySem.Spec PyProof.Rows L2
abbrev bmV : List Value := [.type "ValueError", .type "Exception", .type "BaseException", .type "object"]
abbrev nwV : String := "ValueError.__new__"
structure ExcC (K : PySem.W.Frag) (c : PySem.Str) (C : Addr) : Prop where
  cls : ClsAt K c C
  exc : PySem.W.excIn K C bmV nwV = true
theorem exc_obj {K : PySem.W.Frag} {h : Heap} {C : Addr} (KX : K.In h) (q : PySem.W.excIn K C bmV nwV = true) :
    ∃ (bm : List Value) (N : Addr) (nm qn : Str) (bs : List Value) (hd : Bool) (sn : List Str) (sub : List Value) (ab : Bool) (col : Option Bool) (dd : Option Addr) (k0 k1 k2 k3 k5 : Option Value) (mN : Str → Option Value),
      h.get? C = some (excClassObj nm qn C N bs bm hd sn sub ab col dd k0 k1 k2 k3 k5 nwV) ∧ h.Ns N mN ∧ mN "__init__" = none ∧ OwnTail h bmV bm ∧ (∀ v r, PySem.W.mroIn K C v = some r → (Value.ref C :: bm).contains v = r) := by
  unfold PySem.W.excIn at q
  split at q
  · rename_i dd cd sl lk
    split at q
    · rename_i C1 bm k0 k1 k2 k3 n1 k5 em es
      simp only [Bool.and_eq_true, beq_iff_eq, Bool.not_eq_true'] at q
      obtain ⟨⟨⟨⟨⟨q1, q2⟩, q3⟩, q4⟩, q5⟩, q6⟩ := q
      subst q1 q2
      obtain ⟨nm, bs, mro, N, qn, hd, sn, sub, ab, col, del⟩ := cd
      dsimp only at em q3 q5 q6
      subst em q3
      have esl : sl = #[k0, k1, k2, k3, some (.builtin nwV), k5] := by
        cases sl with
        | mk l => exact congrArg Array.mk es
      subst esl
      refine ⟨bm, N, nm, qn, bs, hd, sn, sub, ab, col, dd, k0, k1, k2, k3, k5, _, KX _ _ lk, .of_isNs (PySem.W.isNs_of_in KX q5), PySem.W.nsMap_none_of_in KX q5 q6, PySem.W.tail_of_in KX q4, fun v r e => ?_⟩
      unfold PySem.W.mroIn PySem.W.clsIn at e
      rw [lk] at e
      first
        | exact Option.some.inj e
        | (simp at e; exact e)
    · cases q
  · cases q
section
variable {X : Cx}
def gRaise (c : PySem.Str) (ga : GA) : GS := fun ρ st => (ga ρ st).thn ρ fun ws st1 => if ws.length ≤ lim then .err c ρ st1 else .bad
theorem js_raise {c : Str} {C : Addr} {e : Expr} {es : List Expr} {ga : GA} {np cpos pos : Pos} (hc : X.calm = true) (O : ExcC X.K c C) (hg : Gl X c) (hm : X.mg c = some (.ref C)) (ha : JA X (e :: es) ga) (hd : (c == ("__debug__" : Str)) = false)
    (he : starEach (e :: es) X.env = (false, eval e X.env) :: starEach es X.env) (hpl : (backTo cpos (starEach es X.env)).any (·.1) = false) : JS X (.Raise (some (.Call (.Name c np) (e :: es) [] cpos)) none pos) (gRaise c ga) := by
  intro ρ st σ H m D S R p pins s I
  have args := ha.go (T := fun vs H1 => ∃ ws st1 m1, PostS X m H (if ws.length ≤ lim then .err c ρ st1 else .bad) D ∧ Ext X.K m H m1 H1 ∧ Sim X.K m1 st1 H1 ∧ RelWs X.K m1 H1 ws vs) S R (PostS.of_thn R p)
    fun ws st1 vs m1 H1 p1 e1 S1 rs => ⟨ws, st1, m1, p1, e1, S1, rs⟩
  obtain ⟨bm, N, nm, qn, bs, hdd, sn, sub, ab, col, dd, k0, k1, k2, k3, k5, mN, hC, hN, hni, T, _⟩ := exc_obj I.ok.mod.kin O.exc
  refine wpAny_Raise_call_subU (C := C) (nm := nm) (q := qn) (N := N) (bs := bs) (bm := bm) (hdct := hdd) (sn := sn) (sub := sub) (ab := ab) (col := col) (dd := dd) (k0 := k0) (k1 := k1) (k2 := k2) (k3 := k3) (k5 := k5) (bmB := bmV)
    F.excBase_ValueError (by decide) F.excBase_ValueError (mN := mN) (T.hasType F.excBase_ValueError.hasBase) (I.ok.hd hc) ?_ hni (ld_glob I hg hm ⟨rfl, ?_⟩ hd)
  · rw [he]
    show (false || (backTo cpos (starEach es X.env)).any (·.1)) = false
    rw [hpl]
    rfl
  · have go := args cpos pins s I
    rw [he] at go ⊢
    refine Calls.evalArgs_plain (thn go fun us s1 ⟨vs, H1, I1, r, ws, st1, m1, p1, e1, S1, rs⟩ => ?_)
    by_cases cl : ws.length ≤ lim
    · rw [if_pos cl] at p1
      refine ⟨rfl, by rw [← r.length, ← rs.length]; exact lim_le cl, I1.bk _ _ hC, hN.keeps I1.bk, T.keeps I1.bk, fun h2 a M => ?_⟩
      exact p1 σ m1 H1 _ _ e1 S1 (R.mono e1) ⟨C, pins, H1, s1, O.cls, I1, .inr ⟨rfl, a, us, rfl, rfl, rfl, M⟩⟩
    · rw [if_neg cl] at p1; exact False.elim p1
end
end J
namespace J
open PySem PySem.Spec PyProof.Rows L2
structure ExcK (K : PySem.W.Frag) (C : Addr) : Prop where
  exc : PySem.W.excIn K C bmV nwV = true
  ga : PySem.W.findIn K (.ref C) "__getattribute__" = some (some (.builtin "BaseException.__getattribute__"))
  gx : PySem.W.findIn K (.ref C) "__getattr__" = some none
  cl : PySem.W.findIn K (.ref C) "__class__" = some (some (.builtin "object.__class__"))
section
variable {prog : Program} {w : World} {A : Around} {E : Value → Shared → Prop} {h : Heap} {g : Array GenState} {d : Drawn} {t : Nat} {os : OsState} {a C : Addr} {o : Obj} {K : PySem.W.Frag}
theorem xc_get {R : Result → Shared → Prop} (Y : K.In h) (Z : ExcK K C) (ha : h.get? a = some o) (hc : o.cls = .ref C) (k : R (.ok (.ret (.ref C))) ⟨h, g, d, t, os⟩) :
    codeAny (model prog w) A (.call (.builtin "getset_descriptor.__get__") ⟨[.builtin "object.__class__", .ref a, .ref C], []⟩) R ⟨h, g, d, t, os⟩ := by
  obtain ⟨bm, N, nm, qn, bs, hdd, sn, sub, ab, col, dd, k0, k1, k2, k3, k5, mN, hC, hN, hni, T, _⟩ := exc_obj Y Z.exc
  have ty : (⟨h, g, d, t, os⟩ : Shared).TypeIs (.builtin "object.__class__") "getset_descriptor" := F.typeOf_object_class
  have own : (Value.ref C :: bm).contains (.type (".".intercalate ("object.__class__".cutAt '.').dropLast)) = true := by
    rw [F.owner_object_class, List.contains_cons, T.hasType (X := "object") (b := true) (by decide)]; rfl
  refine codeAny_call_builtin F.slot_gs_get.plain F.entry_gs_get (F.slot_gs_get.check _ _ _ _ _ _ _ _ ty (F.args_gs_get _ _ _) ?_)
  repeat (any_goals (first | assumption | (with_reducible refine wpAny_loadPart_at ha ?_; rw [hc]) | (with_reducible refine wpAny_isSubtype_exc hC ?_; rw [own]) | wp_step))
  refine ⟨Code.quiet_builtin _ (by decide +kernel), codeAny_builtin F.entry_object_class ?_⟩
  repeat (any_goals (first | assumption | (with_reducible refine wpAny_loadPart_at ha ?_; rw [hc]) | wp_step))
theorem xc_entry {tk : Tok} {Q : Fin → Shared → Prop} (Y : K.In h) (Z : ExcK K C) (ha : h.get? a = some o) (hc : o.cls = .ref C) (k : Q (.done (.ret (.ref C))) ⟨h, g, d, t, os⟩) :
    wpAny (model prog w) A (Builtin.«object.__getattribute__» ⟨[.ref a, .str "__class__" tk], []⟩) Q E ⟨h, g, d, t, os⟩ := by
  have ty : (⟨h, g, d, t, os⟩ : Shared).TypeIs (.builtin "object.__class__") "getset_descriptor" := F.typeOf_object_class
  have t1 := F.typeOf_object_class
  have t2 := F.slot_gs_get.lookup
  have t3 := F.slot_gs_set.lookup
  have L := PySem.W.looks_findIn (M := model prog w) Y Z.cl
  repeat (any_goals (first | assumption | (with_reducible refine wpAny_loadPart_at ha ?_; rw [hc]) | with_reducible refine L.at ?_ | wp_step))
  refine xc_get Y Z ha hc ?_
  repeat (any_goals (first | assumption | wp_step))
theorem xc_check {M : Model} {nv : Value} {Q : Unit → Shared → Prop} (Y : K.In h) (Z : ExcK K C) (ha : h.get? a = some o) (hc : o.cls = .ref C) (k : Q () ⟨h, g, d, t, os⟩) :
    wpAny M A (checkBuiltinCall "BaseException.__getattribute__" ⟨[.ref a, nv], []⟩) Q E ⟨h, g, d, t, os⟩ := by
  obtain ⟨bm, N, nm, qn, bs, hdd, sn, sub, ab, col, dd, k0, k1, k2, k3, k5, mN, hC, hN, hni, T, _⟩ := exc_obj Y Z.exc
  have u1 : builtinKind "BaseException.__getattribute__" = some .slot := by decide +kernel
  have u2 : splitId "BaseException.__getattribute__" = some ("BaseException", "__getattribute__") := by decide +kernel
  have u3 : (Value.ref C :: bm).contains (.type "BaseException") = true := by rw [List.contains_cons, T.hasType (X := "BaseException") (b := true) (by decide)]; rfl
  have u4 := F.args_bexc_ga (.ref a) nv
  simp only [checkBuiltinCall, u1, u2]
  refine wpAny_bind ?_
  unfold isInstance
  repeat (first | (with_reducible refine wpAny_loadPart_at ha ?_; rw [hc]) | (with_reducible refine wpAny_isSubtype_exc hC ?_; rw [u3]) | wp_step)
  exact k
theorem xc_by {tk : Tok} {Q : Value → Shared → Prop} (Y : K.In h) (Z : ExcK K C) (ha : h.get? a = some o) (hc : o.cls = .ref C) (k : Q (.ref C) ⟨h, g, d, t, os⟩) :
    wpAny (model prog w) A (getAttrBy (.ref a) (.str "__class__" tk) false) Q E ⟨h, g, d, t, os⟩ := by
  have v1 := F.excAttr_ValueError.ga.bind (.ref a)
  have v2 : (Value.builtin "BaseException.__getattribute__" == Value.builtin "object.__getattribute__") = false := by decide +kernel
  have v3 : (onTheHeap (Value.ref C) && Value.builtin "BaseException.__getattribute__" == Value.builtin "object.__getattribute__") = false := by rw [v2]; rfl
  have v4 : (false && onTheHeap (Value.builtin "BaseException.__getattribute__")) = false := rfl
  have L1 := PySem.W.looks_findIn (M := model prog w) Y Z.ga
  have L2 := PySem.W.looks_findIn (M := model prog w) Y Z.gx
  repeat (any_goals (first | assumption | (with_reducible refine wpAny_loadPart_at ha ?_; rw [hc]) | with_reducible refine L1.at ?_ | with_reducible refine L2.at ?_ | wp_step))
  refine codeAny_call_builtin F.excAttr_ValueError.ga.plain F.entry_bexc_ga (xc_check Y Z ha hc (xc_entry Y Z ha hc ?_))
  repeat (any_goals (first | assumption | wp_step))
theorem xc_attr {Q : Option Value → Shared → Prop} (Y : K.In h) (Z : ExcK K C) (ha : h.get? a = some o) (hc : o.cls = .ref C) (k : Q (some (.ref C)) ⟨h, g, d, t + 1, os⟩) :
    wpAny (model prog w) A (getAttr? (.ref a) "__class__") Q E ⟨h, g, d, t, os⟩ := by
  unfold getAttr? getAttrBy?
  repeat (any_goals (first | assumption | with_reducible apply xc_by Y Z ha hc | wp_step))
end
end J
namespace J
open PySem PySem.Spec PyProof.Rows L2
structure Stk (X : Cx) : Prop where
  st : X.stack = X.env :: X.outer
  fr : X.env.frame = some X.env.locals
  ex : X.ex = []
theorem objOk_get {P : Program} {w : World} {H : Hp} {h : Heap} {a : Addr} {o : HO} (x : ObjOk P w H h a o) : ∃ u, h.get? a = some u := by
  cases o with
  | lst xs => obtain ⟨_, _, _, _, e⟩ := x; exact ⟨_, e⟩
  | tup xs => obtain ⟨_, _, _, ⟨ob, e, _⟩, _⟩ := x; exact ⟨_, e⟩
  | dK kvs => obtain ⟨_, _, _, _, ob, _, _, e, _⟩ := x; exact ⟨_, e⟩
  | dT kvs => obtain ⟨_, _, _, _, ob, _, _, e, _⟩ := x; exact ⟨_, e⟩
  | set S n => obtain ⟨ob, _, _, _, e, _⟩ := x; exact ⟨_, e⟩
  | ins C dx fs => obtain ⟨_, _, _, e, _⟩ := x; exact ⟨_, e⟩
  | own y => exact x
  | xd fs => obtain ⟨_, ⟨_, _, _, e, _⟩, _⟩ := x; exact ⟨_, e⟩
  | rng lo hi => obtain ⟨_, _, _, e⟩ := x; exact ⟨_, e⟩
  | frz ob u => obtain ⟨e, _⟩ := x; exact ⟨_, e⟩
  | tbl ps => exact ⟨_, x⟩
  | met f y => exact ⟨_, x⟩
  | ext φ => exact x.2.1
def New0 (X : Cx) (a : Addr) : Prop := X.s₀.heap.get? a = none ∧ (∀ xs, X.H₀ a ≠ some (.tup xs)) ∧ (∀ o u, X.H₀ a ≠ some (.frz o u)) ∧ ∀ ps, X.H₀ a ≠ some (.tbl ps)
def NoCx (o : Obj) : Prop := ∃ vs, o.data = .fields vs ∧ vs[2]? = some Value.none
section
variable {X : Cx} {pins : List (Addr × Obj)} {σ : St} {Hc H' : Hp} {sc s' : Shared} {B h2 : Heap} {a C : Addr} {a0 : Value} {ch : List Addr}
theorem exn_inv (I : Inv X pins σ Hc sc) (os : s'.os = sc.os) (bare : AllBare s'.gens) (hch : ∀ b ∈ ch, FpOk X pins Hc b) (un : Un (frs X.stack) ch Hc H' sc.heap s'.heap) (hok : HOk X.prog X.w H' B) (fl : FlyX B X.stack a (.ref C) a0 h2) (up : s'.heap.UpToSlots h2)
    (cov : ∀ b o, sc.heap.get? b = some o → b ∉ frs X.stack → b ∉ ch → ∃ o', B.get? b = some o' ∧ (Hc b = none → o' = o)) {tk : Nat} :
    (∃ o, NoCx o ∧ Inv X pins σ (upd H' a (.frz o (.ext (ExnAt a C)))) { s' with heap := h2, toks := tk }) ∧ H' a = none ∧ (X.ex = [] → New0 X a) := by
  have stay := fl.1
  obtain ⟨oe, vs, hoe, hcl, hda, hcx⟩ := fl.first
  have isx : ExnAt a C h2 := ⟨oe, hoe, hcl, vs, hda⟩
  have ha : H' a = none := by
    cases q : H' a with
    | none => rfl
    | some u =>
      obtain ⟨z, e⟩ := objOk_get (hok a u q)
      rw [fl.2.1] at e
      cases e
  have nfr : a ∉ frs X.stack := fun z => by
    obtain ⟨_, o1, e1, d1⟩ := fl.2.2.1.mem z
    rw [hoe] at e1
    cases e1
    exact d1 vs hda
  have nch : ∀ b ∈ frs X.stack, b ∉ ch := fun b hb z => by
    rcases List.mem_cons.mp (I.stkSub b hb) with q | q
    · exact (hch b z).2.1 q
    · exact (hch b z).2.2.1 q
  have new : a ∉ ch → ∀ o, sc.heap.get? a ≠ some o := fun hx o e => by
    obtain ⟨o1, e1, _⟩ := cov a o e nfr hx
    rw [fl.2.1] at e1
    cases e1
  have ne : ∀ b u, H' b = some u → b ≠ a := fun b u e => ne_of_none e ha
  have sl : ∀ b o, sc.heap.get? b = some o → Hc b = none → b ∈ frs X.stack → ∃ sl, h2.get? b = some { o with slots := sl } := fun b o e n hb => by
    obtain ⟨s1, e1⟩ := un.slot b o e n hb (nch b hb)
    obtain ⟨_, o1, e2, d1⟩ := I.stack.mem hb
    rw [e] at e2
    cases e2
    obtain ⟨s2, e3⟩ := up b _ e1 d1
    exact ⟨s2, e3⟩
  refine ⟨⟨oe, ⟨vs, hda, hcx⟩, ?_⟩, ha, fun hex => ?_⟩
  rotate_left
  · refine ⟨?_, fun xs q => ?_, fun o u q => ?_, fun ps q => ?_⟩
    rotate_left
    · have z := un.tups _ _ (I.base.tups _ _ q)
      rw [ha] at z; cases z
    · have z := un.frzs _ _ _ (I.base.frzs _ _ _ q)
      rw [ha] at z; cases z
    · obtain ⟨_, z⟩ := I.base.tbls _ _ q
      obtain ⟨_, z⟩ := un.tbls _ _ z
      rw [ha] at z; cases z
    cases q : X.s₀.heap.get? a with
    | none => rfl
    | some o0 =>
      obtain ⟨o1, q1⟩ := I.base.there a o0 q (by rw [hex]; simp)
      refine absurd q1 (new (fun z => ?_) o1)
      rcases (hch a z).2.2.2.1 with y | y
      · rw [hex] at y; cases y
      · exact absurd (Nat.lt_of_lt_of_le (Heap.lt_size q) y) (Nat.lt_irrefl _)
  refine I.call' (s' := { s' with heap := h2, toks := tk }) (ch := ch) os ?_ ?_ bare (fun b z => ⟨(hch b z).2.2.2.1, (hch b z).2.1, (hch b z).2.2.2.2.1, (hch b z).2.2.2.2.2⟩)
  · refine ⟨fun b o e n hb hx => ?_, fun b o e n hb _ => sl b o e n hb, fun b o e n hx => ?_, fun b o e hx => ?_, fun b xs h => ?_, fun b o u h => ?_, fun b ps h => ?_⟩
    · obtain ⟨o1, e1, e2⟩ := cov b o e hb hx
      rw [e2 n] at e1
      exact stay b o e1
    · have ba : b ≠ a := fun z => by subst z; exact new hx o e
      rw [upd_ne ba]
      exact un.free b o e n hx
    · by_cases hb : b ∈ frs X.stack
      · obtain ⟨s2, e2⟩ := sl b o e (I.stkFree b hb) hb
        exact ⟨_, e2⟩
      · obtain ⟨o1, e1, _⟩ := cov b o e hb hx
        exact ⟨o1, stay b o1 e1⟩
    · have q := un.tups b xs h
      rw [upd_ne (ne b _ q)]
      exact q
    · have q := un.frzs b o u h
      rw [upd_ne (ne b _ q)]
      exact q
    · obtain ⟨m1, q⟩ := un.tbls b ps h
      refine ⟨m1, ?_⟩
      rw [upd_ne (ne b _ q)]
      exact q
  · intro b u e
    by_cases hb : b = a
    · subst hb
      rw [upd_same] at e
      cases e
      exact ⟨hoe, isx, ⟨oe, hoe⟩, fun h3 h4 p k => let ⟨o1, q1, q2, q3⟩ := p; ⟨o1, k o1 q1, q2, q3⟩⟩
    · rw [upd_ne hb] at e
      exact (hok b u e).stay (fun c v _ q => stay c v q) (fun c q => by rw [upd_ne (ne c _ q)]; exact q) fun c xs q => by rw [upd_ne (ne c _ q)]; exact q
end
theorem catch_own {M : Model} {A : Around} {E : Value → Shared → Prop} {s : Shared} {K : PySem.W.Frag} {a C D : Addr} {o : Obj} {b : Bool} {Q : Bool → Shared → Prop} (Y : K.In s.heap) (ZC : PySem.W.excIn K C bmV nwV = true) (ZD : PySem.W.excIn K D bmV nwV = true)
    (hm : PySem.W.mroIn K C (.ref D) = some b) (ha : s.heap.get? a = some o) (hc : o.cls = .ref C) (k : Q b s) : wpAny M A (excMatches (.ref a) (.ref D)) Q E s := by
  obtain ⟨h, g, d, t, os⟩ := s
  obtain ⟨bm, N, nm, qn, bs, hdd, sn, sub, ab, col, dd, k0, k1, k2, k3, k5, mN, hC, hN, hni, T, mr⟩ := exc_obj Y ZC
  obtain ⟨bm', N', nm', qn', bs', hdd', sn', sub', ab', col', dd', k0', k1', k2', k3', k5', mN', hD, hN', hni', T', mr'⟩ := exc_obj Y ZD
  have e1 : (Value.ref C :: bm).contains (.ref D) = b := mr _ _ hm
  have e2 : (Value.ref D :: bm').contains (.type "BaseException") = true := by rw [List.contains_cons, T'.hasType (X := "BaseException") (b := true) (by decide)]; rfl
  have f := tc_notTuple
  unfold excMatches
  repeat (first | (with_reducible refine wpAny_loadPart_at ha ?_; rw [hc]) | with_reducible refine wpAny_loadPart_at hD ?_ | (with_reducible refine wpAny_isSubtype_exc hD ?_; rw [e2]) | (with_reducible refine wpAny_isSubtype_exc hC ?_; rw [e1]) | wp_step)
  cases b <;> (wp_walk; exact k)
end J
namespace J
open PySem PySem.Spec PyProof.Rows L2
theorem kitx_exn {K : PySem.W.Frag} {a C : Addr} (Z : ExcK K C) : PySem.W.KitX K (.ref a) (.ref C) (ExnAt a C) where
  ty := fun M h _ p => by
    obtain ⟨o, h1, h2, _⟩ := p
    rw [← h2]
    exact (PySem.W.Looks.ld h1).andThen .now
  it := fun M h Y _ => by
    obtain ⟨bm, N, nm, qn, bs, hdd, sn, sub, ab, col, dd, k0, k1, k2, k3, k5, mN, hC, _⟩ := exc_obj Y Z.exc
    intro A' Q' E' s' k q
    unfold isType loadHead
    exact wpAny_bind (wpAny_loadPart (k _ _ hC) (wpAny_pure q))
  ne := fun h tp dd its n sl Y e => by
    obtain ⟨bm, N, nm, qn, bs, hdd, sn, sub, ab, col, dd', k0, k1, k2, k3, k5, mN, hC, _⟩ := exc_obj Y Z.exc
    refine Bool.eq_false_iff.mpr fun q => ?_
    have z : C = tp := Value.ref.inj (beq_iff_eq.mp q)
    subst z
    rw [hC] at e
    have z2 : Value.type "type" = Value.type "tuple" := congrArg Obj.cls (Option.some.inj e)
    exact absurd z2 (by decide)
  ca := fun {prog w A E Q s} Y p k => by
    obtain ⟨o, h1, h2, _⟩ := p
    obtain ⟨h, g, d, t, os⟩ := s
    exact xc_attr Y Z h1 h2 k
abbrev Tab := List ((PySem.Str × PySem.Str) × Bool)
abbrev TabT := List ((PySem.Str × String) × Bool)
structure TabOk (K : PySem.W.Frag) (tb : Tab) (tt : TabT) (tc : Tab) : Prop where
  own : ∀ c d b C D, tb.lookup (c, d) = some b → ClsAt K c C → ClsAt K d D → ExcK K C ∧ PySem.W.kitOne K (.ref C) (.ref D) = some b
  cat : ∀ c d b C D, tc.lookup (c, d) = some b → ClsAt K c C → ClsAt K d D → PySem.W.excIn K C bmV nwV = true ∧ PySem.W.excIn K D bmV nwV = true ∧ PySem.W.mroIn K C (.ref D) = some b
  typ : ∀ c T b C, tt.lookup (c, T) = some b → ClsAt K c C → ExcK K C ∧ PySem.W.kitOne K (.ref C) (.type T) = some b
def anyTab (tb : Tab) (c : PySem.Str) : List Wv → Option Bool
  | [] => some false
  | .cls d :: r => (match tb.lookup (c, d) with
    | some true => some true
    | some false => anyTab tb c r
    | none => none)
  | _ => none
theorem anyTab_ok {K : PySem.W.Frag} {m : Mp} {H : Hp} {tb : Tab} {tt : TabT} {tc : Tab} (O : TabOk K tb tt tc) {c : PySem.Str} {C : Addr} (hC : ClsAt K c C) : ∀ {ds : List Wv} {vs : List V} {its : List Value} {b : Bool}, RelWs K m H ds vs → Vals vs its → anyTab tb c ds = some b → PySem.W.kitAny K (.ref C) its = some b
  | [], vs, its, b, r, v, e => by
    unfold RelWs at r
    subst r
    cases v
    cases e
    rfl
  | w :: ds, vs, its, b, r, v, e => by
    unfold RelWs at r
    obtain ⟨x, t, rfl, r1, r2⟩ := r
    cases v with
    | cons h1 h2 =>
      cases w with
      | cls d =>
        unfold RelW at r1
        obtain ⟨D, rfl, hD⟩ := r1
        cases h1
        unfold anyTab at e
        unfold PySem.W.kitAny
        cases q : tb.lookup (c, d) with
        | none => rw [q] at e; cases e
        | some k =>
          rw [q] at e
          obtain ⟨_, z3⟩ := O.own c d k C D q hC hD
          rw [z3]
          cases k with
          | true => cases e; rfl
          | false => exact anyTab_ok O hC r2 h2 e
      | _ => cases e
def oIsA (tb : Tab) (tt : TabT) : List Wv → Hs → Re Wv
  | [.exn c, .cls d], st => (match tb.lookup (c, d) with | some b => .ok (.bl b) st | none => .bad)
  | [.exn c, .ty T], st => (match tt.lookup (c, T) with | some b => .ok (.bl b) st | none => .bad)
  | [.exn c, .tup (.cls d :: ds)], st => (match anyTab tb c (.cls d :: ds) with | some b => .ok (.bl b) st | none => .bad)
  | ws, st => oIsI ws st
section
variable {X : Cx}
theorem call_isA : CallR X (.builtin "isinstance") (fun vs H Q => ∃ a C v c b, vs = [.ref a, v] ∧ ExH a C (H a) ∧ ExcK X.K C ∧ RelV v c ∧ PySem.W.kitOne X.K (.ref C) c = some b ∧ Q (.bl b) H) := by
  intro pins s σ H xs us Q I r h
  obtain ⟨a, C, v, c, b, rfl, ha, Z, rc, e, q⟩ := h
  obtain ⟨u, u', rfl, r1, r2⟩ := vals2 r
  cases r1
  have uc : u' = c := by
    cases v with
    | int i => obtain ⟨t, rfl⟩ := rc; cases e
    | str i => obtain ⟨t, rfl⟩ := rc; cases e
    | byt i => obtain ⟨t, rfl⟩ := rc; cases e
    | flt i => obtain ⟨t, rfl⟩ := rc; cases e
    | non => cases rc; cases r2; rfl
    | bl i => cases rc; cases r2; rfl
    | ref i => cases rc; cases r2; rfl
    | ty i => cases rc; cases r2; rfl
  subst uc
  exact PySem.W.kia_one (kitx_exn Z) I.kIn (ex_at I.hok ha) e (by intro z; cases z) fun tk => ⟨.bl b, H, I.tok tk, rfl, q⟩
theorem call_isAT : CallR X (.builtin "isinstance") (fun vs H Q => ∃ a C p xs b, vs = [.ref a, .ref p] ∧ ExH a C (H a) ∧ ExcK X.K C ∧ SqT X.K H p xs ∧ (∀ its, Vals xs its → PySem.W.kitAny X.K (.ref C) its = some b) ∧ Q (.bl b) H) := by
  intro pins s σ H xs us Q I r h
  obtain ⟨a, C, p, ys, b, rfl, ha, Z, hT, e, q⟩ := h
  obtain ⟨u, u', rfl, r1, r2⟩ := vals2 r
  cases r1
  cases r2
  obtain ⟨its, rv, ⟨o, g1, g2, n, g3⟩, z⟩ := I.tuple hT
  obtain ⟨oc, od, oda, osl⟩ := o
  cases g2
  cases g3
  exact PySem.W.kia_tup (kitx_exn Z) I.kIn (ex_at I.hok ha) g1 (e its rv) (by intro z; cases z) fun tk => ⟨.bl b, H, I.tok tk, rfl, q⟩
theorem cw_isA {tb : Tab} {tt : TabT} {tc : Tab} (O : TabOk X.K tb tt tc) : CallW X (.builtin "isinstance") (oIsA tb tt) := by
  obtain ⟨r, h1, h2⟩ := cw_isI (X := X)
  refine ⟨_, call_isA.or (call_isAT.or h1), fun ws vs st H m Q S rs p => ?_⟩
  unfold oIsA at p
  split at p
  · rename_i _ c d
    cases e : tb.lookup (c, d) with
    | none => rw [e] at p; exact False.elim p
    | some b =>
      rw [e] at p
      obtain ⟨v, v', rfl, r1, r2⟩ := rel2 rs
      unfold RelW at r1 r2
      obtain ⟨a, C, rfl, hC, ha⟩ := r1
      obtain ⟨D, rfl, hD⟩ := r2
      obtain ⟨z1, z3⟩ := O.own c d b C D e hC hD
      exact .inl ⟨a, C, .ref D, .ref D, b, rfl, ha, z1, rfl, z3, p _ m H Ext.refl S mkBl⟩
  · rename_i _ c T
    cases e : tt.lookup (c, T) with
    | none => rw [e] at p; exact False.elim p
    | some b =>
      rw [e] at p
      obtain ⟨v, v', rfl, r1, r2⟩ := rel2 rs
      unfold RelW at r1 r2
      obtain ⟨a, C, rfl, hC, ha⟩ := r1
      subst r2
      obtain ⟨z1, z3⟩ := O.typ c T b C e hC
      exact .inl ⟨a, C, .ty T, .type T, b, rfl, ha, z1, rfl, z3, p _ m H Ext.refl S mkBl⟩
  · rename_i _ c d ds
    cases e : anyTab tb c (.cls d :: ds) with
    | none => rw [e] at p; exact False.elim p
    | some b =>
      rw [e] at p
      obtain ⟨v, v', rfl, r1, r2⟩ := rel2 rs
      unfold RelW at r1
      obtain ⟨a, C, rfl, hC, ha⟩ := r1
      have r2' := r2
      unfold RelW at r2'
      obtain ⟨t, xs, rfl, hT, rx⟩ := r2'
      have Z : ExcK X.K C := by
        have rx' := rx
        unfold RelWs at rx'
        obtain ⟨x, r, _, rd, _⟩ := rx'
        unfold RelW at rd
        obtain ⟨D, _, hD⟩ := rd
        unfold anyTab at e
        cases q : tb.lookup (c, d) with
        | none => rw [q] at e; cases e
        | some k => exact (O.own c d k C D q hC hD).1
      exact .inr (.inl ⟨a, C, t, xs, b, rfl, ha, Z, SqT.of hT, fun its hv => anyTab_ok O hC rx hv e, p _ m H Ext.refl S mkBl⟩)
  · exact .inr (.inr (h2 ws vs st H m Q S rs p))
end
section
variable {X : Cx} {pins : List (Addr × Obj)} {σ : St} {H : Hp} {s : Shared}
abbrev reX (X : Cx) (A' : Around) (cm : Bool) (pn : List (Addr × Obj)) (E : Value → Shared → Prop) : Cx := { X with A := A', calm := cm, pn := pn, xe := E }
theorem ok_re {A' : Around} {cm : Bool} {pn : List (Addr × Obj)} {E : Value → Shared → Prop} (ok : X.Ok) (hf : A'.frames = X.A.frames) (hd : cm = true → A'.handled = none) : (reX X A' cm pn E).Ok :=
  ⟨ok.mod, ok.kind, ok.glob, ok.blt, ok.above, ok.inj, ok.has, ok.cab, hd, hf.trans ok.frames, ok.stk, ok.exf, ok.bs, ok.bsz, ok.noex, ok.exfs, ok.funs, ok.frf⟩
theorem inv_re {A' : Around} {cm : Bool} {E : Value → Shared → Prop} (I : Inv X pins σ H s) (hf : A'.frames = X.A.frames) (hd : cm = true → A'.handled = none) : Inv (reX X A' cm (X.pn ++ pins) E) [] σ H s :=
  ⟨ok_re I.ok hf hd, I.os, I.bare, I.base, I.loc, I.cell, I.free, I.freeC, fun p hp => I.pin p (by simpa using hp), I.hok, I.len⟩
theorem inv_er {A' : Around} {cm : Bool} {E : Value → Shared → Prop} {pins' : List (Addr × Obj)} (ok : X.Ok) (I : Inv (reX X A' cm (X.pn ++ pins) E) pins' σ H s) : Inv X pins σ H s :=
  ⟨ok, I.os, I.bare, I.base, I.loc, I.cell, I.free, I.freeC, fun p hp => I.pin p (List.mem_append_left _ hp), I.hok, I.len⟩
abbrev suX (X : Cx) (a : Addr) (u : HO) (pn : List (Addr × Obj)) (E : Value → Shared → Prop) : Cx := { X with A := X.A.mark (some (.ref a)), calm := false, pn := pn, xe := E, H₀ := upd X.H₀ a u }
theorem inv_su {a : Addr} {o : Obj} {u : HO} {E : Value → Shared → Prop} (I : Inv X pins σ H s) (e : H a = some (.frz o u)) (n : X.s₀.heap.get? a = none) : Inv (suX X a (.frz o u) (X.pn ++ pins) E) [] σ H s := by
  have k := I.ok
  have ne : ∀ b o, X.s₀.heap.get? b = some o → b ≠ a := fun b o q z => by rw [z, n] at q; cases q
  have nf : ∀ b ∈ X.fs, b ≠ a := fun b hb => let ⟨_, o, q, _⟩ := k.funs.mem hb; ne b o q
  have up : ∀ b, b ≠ a → upd X.H₀ a (.frz o u) b = X.H₀ b := fun b h => upd_ne h
  have dn : ∀ {b : Addr} {w : Option HO}, upd X.H₀ a (.frz o u) b = w → w ≠ some (.frz o u) → X.H₀ b = w := fun {b w} q h => by
    by_cases z : b = a
    · rw [z, upd_same] at q; exact absurd q.symm h
    · rw [up b z] at q; exact q
  have nn : ∀ {b : Addr}, upd X.H₀ a (.frz o u) b = none → X.H₀ b = none := fun q => dn q (by intro z; cases z)
  refine ⟨⟨k.mod, k.kind, k.glob, k.blt, k.above, k.inj, k.has, k.cab, (fun z => by cases z), k.frames, k.stk, k.exf, fun b ob q => ⟨(k.bs b ob q).1, (up b (ne b ob (k.bs b ob q).1)).trans (k.bs b ob q).2⟩, k.bsz, k.noex, k.exfs, k.funs, fun b hb => (up b (nf b hb)).trans (k.frf b hb)⟩, I.os, I.bare, ?_, I.loc, I.cell, I.free, I.freeC, fun p hp => I.pin p (by simpa using hp), I.hok, I.len⟩
  have g := I.base
  exact ⟨fun b ob q h => g.keep b ob q (nn h), fun b ob q h => g.slot b ob q (nn h), fun b ob q h => g.free b ob q (nn h), g.there, fun b xs q => g.tups b xs (dn q (by intro z; cases z)), fun b ob v q => by
    by_cases z : b = a
    · subst z
      have q' : upd X.H₀ b (.frz o u) b = some (.frz ob v) := q
      rw [upd_same] at q'
      cases q'
      exact e
    · exact g.frzs b ob v ((up b z).symm.trans q), fun b ps q => g.tbls b ps (dn q (by intro z; cases z))⟩
theorem inv_us {a : Addr} {o : Obj} {u : HO} {E : Value → Shared → Prop} {pins' : List (Addr × Obj)} (ok : X.Ok) (n : New0 X a) (I : Inv (suX X a (.frz o u) (X.pn ++ pins) E) pins' σ H s) : Inv X pins σ H s := by
  have ne : ∀ b o, X.s₀.heap.get? b = some o → b ≠ a := fun b o q z => by rw [z, n.1] at q; cases q
  have up : ∀ b, b ≠ a → (suX X a (.frz o u) (X.pn ++ pins) E).H₀ b = X.H₀ b := fun b h => upd_ne h
  have g := I.base
  exact ⟨ok, I.os, I.bare, ⟨fun b ob q h => g.keep b ob q ((up b (ne b ob q)).trans h), fun b ob q h => g.slot b ob q ((up b (ne b ob q)).trans h), fun b ob q h => g.free b ob q ((up b (ne b ob q)).trans h), g.there, fun b xs q => g.tups b xs ((up b fun z => n.2.1 xs (z ▸ q)).trans q), fun b ob v q => g.frzs b ob v ((up b fun z => n.2.2.1 ob v (z ▸ q)).trans q), fun b ps q => g.tbls b ps ((up b fun z => n.2.2.2 ps (z ▸ q)).trans q)⟩, I.loc, I.cell, I.free, I.freeC, fun p hp => I.pin p (List.mem_append_left _ hp), I.hok, I.len⟩
def HdC (X : Cx) : Prop := X.A.handled = none ∨ ∃ a o u, X.A.handled = some (.ref a) ∧ NoCx o ∧ X.H₀ a = some (.frz o u)
def HdA (A : Around) (H : Hp) : Prop := A.handled = none ∨ ∃ a o u, A.handled = some (.ref a) ∧ NoCx o ∧ H a = some (.frz o u)
theorem HdC.at (h : HdC X) (I : Inv X pins σ H s) : HdA X.A H := h.imp id fun ⟨a, o, u, h1, h2, h3⟩ => ⟨a, o, u, h1, h2, I.base.frzs _ _ _ h3⟩
theorem sp_er {A' : Around} {cm : Bool} {E : Value → Shared → Prop} {D : Ends} {f : Flow} (ok : X.Ok) (h : SP (reX X A' cm (X.pn ++ pins) E) [] D f s) : SP X pins D f s := by
  cases f with
  | next => obtain ⟨σ', H', I, q⟩ := h; exact ⟨σ', H', inv_er ok I, q⟩
  | brk => obtain ⟨σ', H', I, q⟩ := h; exact ⟨σ', H', inv_er ok I, q⟩
  | cont => obtain ⟨σ', H', I, q⟩ := h; exact ⟨σ', H', inv_er ok I, q⟩
  | ret u => obtain ⟨v, σ', H', I, r, q⟩ := h; exact ⟨v, σ', H', inv_er ok I, r, q⟩
end
theorem name_gone {X : Cx} {pins : List (Addr × Obj)} {σ : St} {H : Hp} {s : Shared} {M : Model} {A : Around} {E : Value → Shared → Prop} {i : Nat} {n : Str} {pos : Pos} {Q : Unit → Shared → Prop} (I : Inv X pins σ H s) (hN : X.N.Nodup) (hi : X.N[i]? = some n) (hx : X.env.scope.names.lookup n = some .local)
    (k : ∀ s', Inv X pins (σ.set i none) H s' → Q () s') : wpAny M A (do bindName X.env n .none; unbindBehindTheSuite X.env n pos) Q E s := by
  obtain ⟨m, ns, lk⟩ := id I.loc
  have pl : (X.env.scope.kind == .class || (X.env.scope.kind == .module && X.env.locals != X.env.globals)) = false := by rw [I.ok.kind]; rfl
  have up : ∀ b o, X.s₀.heap.get? b = some o → b ≠ X.env.locals := fun b o e => old_ne I e
  refine wpAny_nameGoes_keeps hx ns pl fun h2 v ns2 sb => k _ ?_
  obtain ⟨oL, _, _, hoL, _⟩ := id ns
  refine ⟨I.ok, I.os, I.bare, ⟨fun b o e f hb hx => (sb.2 b (up b o e)).trans (I.base.keep b o e f hb hx), fun b o e f hb hx => ?_, I.base.free, fun b o e hx => ?_, I.base.tups, I.base.frzs, I.base.tbls⟩, ⟨_, ns2, fun j y w e1 e2 e3 => ?_⟩, fun y c e => ?_, I.free, I.freeC, fun p hp => ?_, fun b u e => ?_, by simpa using I.len⟩
  · obtain ⟨sl, e1⟩ := I.base.slot b o e f hb hx
    exact ⟨sl, (sb.2 b (up b o e)).trans e1⟩
  · obtain ⟨o1, e1⟩ := I.base.there b o e hx
    exact ⟨o1, (sb.2 b (up b o e)).trans e1⟩
  · have ji : j ≠ i := fun z => by
      subst z
      have : j < σ.length := by have q := (List.getElem?_eq_some_iff.mp e2).1; simpa using q
      rw [List.getElem?_set_self this] at e2
      cases e2
    rw [List.getElem?_set_ne (Ne.symm ji)] at e2
    obtain ⟨u, r, q⟩ := lk j y w e1 e2 e3
    refine ⟨u, r, ?_⟩
    rcases q with ⟨q1, q2⟩ | ⟨q1, c, q2, z⟩
    · have yn : y ≠ n := fun z => ji (nodup_ix hN e1 (z ▸ hi))
      exact .inl ⟨q1, by simp [yn, q2]⟩
    · exact .inr ⟨q1, c, q2, z.sameBut sb (I.cne y c q2)⟩
  · obtain ⟨w, z⟩ := I.cell y c e
    exact ⟨w, z.sameBut sb (I.cne y c e)⟩
  · obtain ⟨e, f, ne, nf, d⟩ := I.pin p hp
    exact ⟨(sb.2 p.1 ne).trans e, f, ne, nf, d⟩
  · refine (I.hok b u e).stay (fun c w hc q => (sb.2 c fun z => ?_).trans q) (fun _ q => q) fun _ _ q => q
    have fr := I.free
    rcases hc with hc | hc
    · rw [← z, hc, e] at fr; cases fr
    · rw [← z, hc] at fr; cases fr
end J
namespace J
open PySem PySem.Spec PyProof.Rows L2
def gTry (cat : PySem.Str → Option Bool) (i : Nat) (gb gs : GS) : GS := fun ρ st => match gb ρ st with
  | .err c ρ' st' => (match cat c with
    | some true => (match gs (ρ'.set i (some (.exn c))) st' with
      | .nx ρ2 st2 => .nx (ρ2.set i none) st2
      | .rt w st2 => .rt w st2
      | _ => .bad)
    | _ => .bad)
  | r => r
theorem RelEnv.unset {K : PySem.W.Frag} {m : Mp} {H : Hp} {ρ : Rho} {σ : St} (R : RelEnv K m H ρ σ) (i : Nat) : RelEnv K m H (ρ.set i none) (σ.set i none) := by
  refine ⟨by simp [R.len], fun j w e => ?_⟩
  have ji : i ≠ j := fun z => by
    subst z
    have : i < ρ.length := by have q := (List.getElem?_eq_some_iff.mp e).1; simpa using q
    rw [List.getElem?_set_self this] at e
    cases e
  rw [List.getElem?_set_ne ji] at e ⊢
  exact R.get j w e
section
variable {X : Cx}
theorem land_made {M : Model} {A : Around} {E : Value → Shared → Prop} {s : Shared} {base h : Heap} {env : Env} {outer : List Env} {L a : Addr} {cls : Value} {args : List Value} {Q : Unit → Shared → Prop} (hfr : A.frames = some (env :: outer)) (hf : env.frame = some L)
    (st : base.StaysIn h) (fs : h.FunFrames base (env :: outer)) (mk : Heap.MadeExcOf h s.heap a cls args) (k : ∀ h' a0, FlyX base (env :: outer) a cls a0 h' → s.heap.UpToSlots h' → Q () { s with heap := h' }) :
    wpAny M A (noteFrame (.ref a) env) (fun _ s2 => wpAny M A (setFlight (.ref a) none) Q E s2) E s := by
  exact note_made hfr hf st fs mk fun h1 t hd1 up1 => landX hd1 fun h2 fl2 up2 => k h2 t fl2 (up1.trans up2)
theorem FlownA.er {A : Around} {b : Bool} {E : Value → Shared → Prop} {pins pins' : List (Addr × Obj)} {H H' : Hp} {s s' : Shared} {cls e : Value} (f : FlownA (reX X A b (X.pn ++ pins) E) pins' H s H' cls e s') : FlownA X pins H s H' cls e s' :=
  let ⟨a, a0, nt, B, ch, e1, e2, e3, hch, r⟩ := f
  ⟨a, a0, nt, B, ch, e1, e2, e3, fun b hb => let ⟨h1, h2, h3, h4, h5, h6⟩ := hch b hb; ⟨h1, h2, h3, h4, h5, fun p hp => h6 p (List.mem_append_left _ hp)⟩, r⟩
theorem land {pins : List (Addr × Obj)} {σ : St} {Hc H' : Hp} {sc s' : Shared} {C : Addr} {e : Value} {E : Value → Shared → Prop} {Q : Unit → Shared → Prop} (K0 : Stk X) (I : Inv X pins σ Hc sc)
    (r : FlownA X pins Hc sc H' (.ref C) e s' ∨ (H' = Hc ∧ ∃ a args, e = .ref a ∧ s'.os = sc.os ∧ s'.gens = sc.gens ∧ Heap.MadeExcOf sc.heap s'.heap a (.ref C) args))
    (k : ∀ (a : Addr) (a0 : Value) (B h5 : Heap), e = .ref a → FlyX B X.stack a (.ref C) a0 h5 → (∀ h6 tk, FlyX B X.stack a (.ref C) a0 h6 → h5.UpToSlots h6 → ∃ o, NoCx o ∧ Inv X pins σ (upd H' a (.frz o (.ext (ExnAt a C)))) { s' with heap := h6, toks := tk }) → H' a = none → New0 X a → Q () { s' with heap := h5 }) :
    wpAny (model X.prog X.w) X.A (noteFrame e X.env) (fun _ s2 => wpAny (model X.prog X.w) X.A (setFlight e none) Q E s2) E s' := by
  have hfr : X.A.frames = some (X.env :: X.outer) := by rw [I.ok.frames, K0.st]
  rcases r with ⟨a, a0, nt, B, ch, rfl, os, bare, hch, un, hok, fl, cov⟩ | ⟨rfl, a, args, rfl, ho, hg, M⟩
  · rw [K0.st] at fl
    refine note_any hfr K0.fr fl fun h4 hd4 up4 => ?_
    refine landX hd4 fun h5 fl5 up5 => ?_
    rw [← K0.st] at fl5
    exact k a a0 B h5 rfl fl5 (fun h6 tk fl6 up6 => (exn_inv I os bare hch un hok fl6 ((up4.trans up5).trans up6) cov).1) (exn_inv (tk := 0) I os bare hch un hok fl5 (up4.trans up5) cov).2.1 ((exn_inv (tk := 0) I os bare hch un hok fl5 (up4.trans up5) cov).2.2 K0.ex)
  · have fs : sc.heap.FunFrames (PySem.W.hideAll sc.heap (frs X.stack)) (X.env :: X.outer) := by
      rw [← K0.st]
      exact PySem.W.funFrames_hide I.stack fun env he b hb => List.mem_filterMap.mpr ⟨env, he, hb⟩
    refine land_made (base := PySem.W.hideAll sc.heap (frs X.stack)) hfr K0.fr (fun b o q => PySem.W.of_hideAll _ q) fs M fun h5 a0 fl5 up5 => ?_
    rw [← K0.st] at fl5
    have bare : AllBare s'.gens := by rw [hg]; exact I.bare
    have hok : HOk X.prog X.w H' (PySem.W.hideAll sc.heap (frs X.stack)) := hok_hide I.hok I.stkFree
    have cov : ∀ b o, sc.heap.get? b = some o → b ∉ frs X.stack → b ∉ ([] : List Addr) → ∃ o', (PySem.W.hideAll sc.heap (frs X.stack)).get? b = some o' ∧ (H' b = none → o' = o) := fun b o q hb _ => ⟨o, PySem.W.hideAll_get _ q hb, fun _ => rfl⟩
    have nil : ∀ b ∈ ([] : List Addr), FpOk X pins H' b := fun b z => by cases z
    exact k a a0 _ h5 rfl fl5 (fun h6 tk fl6 up6 => (exn_inv I ho bare nil (Un.kept M.keeps) hok fl6 (up5.trans up6) cov).1) (exn_inv (tk := 0) I ho bare nil (Un.kept M.keeps) hok fl5 up5 cov).2.1 ((exn_inv (tk := 0) I ho bare nil (Un.kept M.keeps) hok fl5 up5 cov).2.2 K0.ex)
theorem js_try {x n : Str} {D : Addr} {i : Nat} {body suite : List Stmt} {b₀ : Stmt} {gb gs : GS} {np hp pos : Pos} {tb : Tab} {tt : TabT} {tc : Tab} (K0 : Stk X) (hN : X.N.Nodup) (hi : X.N[i]? = some n) (hx : X.env.scope.names.lookup n = some .local) (hc : X.calm = true) (O : TabOk X.K tb tt tc)
    (hg : Gl X x) (hm : X.mg x = some (.ref D)) (hD : ClsAt X.K x D) (hd : (x == ("__debug__" : Str)) = false)
    (hb : ∀ (pn : List (Addr × Obj)) (E : Value → Shared → Prop), JSs (reX X X.A true pn E) body gb) (hs : ∀ (a : Addr) (o : Obj) (u : HO) (pn : List (Addr × Obj)) (E : Value → Shared → Prop), NoCx o → JSs (suX X a (.frz o u) pn E) (b₀ :: suite) gs) :
    JS X (.Try body [.ExceptHandler (some (.Name x np)) (some n) (b₀ :: suite) hp] [] [] pos) (gTry (fun c => tc.lookup (c, x)) i gb gs) := by
  intro ρ st σ H m D' S R p pins s I
  refine wpAny_Try_except ?_
  let hx' : Value → Shared → Prop := fun e s1 => wpAny (model X.prog X.w) X.A (noteFrame e X.env) (fun _ s2 => wpAny (model X.prog X.w) X.A (setFlight e none) (fun _ s3 =>
    wpAny (model X.prog X.w) X.A (handleBy e X.env [.ExceptHandler (some (.Name x np)) (some n) (b₀ :: suite) hp]) (SP X pins D') X.xe s3) X.xe s2) X.xe s1
  have hA : X.A.handled = none := I.ok.hd hc
  have Ib : Inv (reX X X.A true (X.pn ++ pins) hx') [] σ H s := inv_re I rfl fun _ => hA
  have post : PostS (reX X X.A true (X.pn ++ pins) hx') m H (gb ρ st) D' := by
    unfold gTry at p
    cases eb : gb ρ st with
    | nx ρ1 st1 => rw [eb] at p; exact p
    | rt w1 st1 => rw [eb] at p; exact p
    | bk ρ1 st1 => rw [eb] at p; exact p
    | ct ρ1 st1 => rw [eb] at p; exact p
    | bad => rw [eb] at p; exact p
    | err c ρ1 st1 =>
      rw [eb] at p
      dsimp only at p
      cases ec : tc.lookup (c, x) with
      | none => rw [ec] at p; exact False.elim p
      | some bc =>
        cases bc with
        | false => rw [ec] at p; exact False.elim p
        | true =>
          rw [ec] at p
          dsimp only at p
          intro σ1 m1 H1 e s1 e1 S1 R1 rz
          obtain ⟨C, pins', Hc, sc, hC, Ic, rz⟩ := rz
          obtain ⟨zC, zD, hmro⟩ := O.cat c x true C D ec hC hD
          refine land K0 (inv_er I.ok Ic) (rz.imp FlownA.er id) fun a a0 B h5 ea fl5 inv hn hnew => ?_
          subst ea
          obtain ⟨ox, _, I5⟩ := inv h5 s1.toks fl5 (Heap.UpToSlots.refl _)
          obtain ⟨o5, ho5, hc5, _⟩ := (I5.hok a _ upd_same).2.1
          have Im := inv_re (A' := X.A.mark (some (.ref a))) (cm := false) (E := fun _ _ => False) I5 rfl (fun z => by cases z)
          refine wpAny_handleBy_cons (codeAny_handlers_test (ld_glob Im hg hm ?_ hd)) (by intro q; cases q)
          refine catch_own (b := true) Im.kIn zC zD hmro ho5 hc5 ?_
          refine codeAny_handlers_suite_as ?_
          refine landX fl5 fun h6 fl6 up6 => ?_
          obtain ⟨oy, nx, I6⟩ := inv h6 s1.toks fl6 up6
          have e6 : Ext X.K m1 H1 m1 (upd H1 a (.frz oy (.ext (ExnAt a C)))) := Ext.upd (.inl hn)
          have S6 : Sim X.K m1 st1 (upd H1 a (.frz oy (.ext (ExnAt a C)))) := S1.fresh hn
          have rv : RelW X.K m1 (upd H1 a (.frz oy (.ext (ExnAt a C)))) (.exn c) (.ref a) := by unfold RelW; obtain ⟨vs, d1, d2⟩ := nx; exact ⟨a, C, rfl, hC, oy, vs, upd_same, d1, d2⟩
          refine store_ok (v := .ref a) I6 hN hi (.inl hx) rfl (fun s7 I7 => ?_) (.inr hx)
          have I7' := inv_su (E := fun _ _ => False) I7 upd_same hnew.1
          cases es : gs (ρ1.set i (some (.exn c))) st1 with
          | nx ρ2 st2 =>
            rw [es] at p
            let D2 : Ends := { nx := fun σ' H' => D'.nx (σ'.set i none) H', rt := fun _ _ => False, bk := fun _ _ => False, ct := fun _ _ => False }
            have go := hs a oy (.ext (ExnAt a C)) (X.pn ++ pins) (fun _ _ => False) nx (ρ1.set i (some (.exn c))) st1 (σ1.set i (some (.ref a))) _ m1 D2 S6 ((R1.mono e6).set i rv) (by
              rw [es]
              exact fun σ' m' H' e' S' R' => p (σ'.set i none) m' H' (e1.trans (e6.trans e')) S' (RelEnv.unset R' i)) [] s7 I7'
            refine wpAny_mono go (fun f s8 h8 => ?_) fun _ _ z => z.elim
            cases f with
            | next =>
              obtain ⟨σ8, H8, I8, q8⟩ := h8
              exact name_gone (inv_us I.ok hnew I8) hN hi hx fun s9 I9 => ⟨_, H8, I9, q8⟩
            | brk => obtain ⟨_, _, _, q8⟩ := h8; exact q8.elim
            | cont => obtain ⟨_, _, _, q8⟩ := h8; exact q8.elim
            | ret u => obtain ⟨_, _, _, _, _, q8⟩ := h8; exact q8.elim
          | rt w2 st2 =>
            rw [es] at p
            let D2 : Ends := { nx := fun _ _ => False, rt := D'.rt, bk := fun _ _ => False, ct := fun _ _ => False }
            have go := hs a oy (.ext (ExnAt a C)) (X.pn ++ pins) (fun _ _ => False) nx (ρ1.set i (some (.exn c))) st1 (σ1.set i (some (.ref a))) _ m1 D2 S6 ((R1.mono e6).set i rv) (by
              rw [es]
              exact fun v' m' H' e' S' R' => p v' m' H' (e1.trans (e6.trans e')) S' R') [] s7 I7'
            refine wpAny_mono go (fun f s8 h8 => ?_) fun _ _ z => z.elim
            cases f with
            | next => obtain ⟨_, _, _, q8⟩ := h8; exact q8.elim
            | brk => obtain ⟨_, _, _, q8⟩ := h8; exact q8.elim
            | cont => obtain ⟨_, _, _, q8⟩ := h8; exact q8.elim
            | ret u =>
              obtain ⟨v8, σ8, H8, I8, r8, q8⟩ := h8
              exact name_gone (inv_us I.ok hnew I8) hN hi hx fun s9 I9 => ⟨v8, _, H8, I9, r8, q8⟩
          | bk ρ2 st2 => rw [es] at p; exact False.elim p
          | ct ρ2 st2 => rw [es] at p; exact False.elim p
          | err c2 ρ2 st2 => rw [es] at p; exact False.elim p
          | bad => rw [es] at p; exact False.elim p
  refine wpAny_mono (hb (X.pn ++ pins) hx' ρ st σ H m D' S R post [] s Ib) (fun f s1 h1 => ?_) fun e s1 h1 => h1
  have h2 := sp_er I.ok h1
  cases f with
  | next => exact wpAny_execs_nil h2
  | brk => exact h2
  | cont => exact h2
  | ret u => exact h2
end
end J
namespace J
open PySem PySem.Spec PyProof.Rows L2
section
variable {X : Cx}
def oStr : List Wv → Hs → Re Wv
  | [.int i], st => if i.natAbs.log2 < 1920 then .ok (.str (toString i : String)) st else .bad
  | _, _ => .bad
def mApp (o v : Wv) (st : Hs) : Re Wv := match o with
  | .ref l => (match st[l]? with
    | some (.lst ws) => if ws.length < lim then .ok .non (st.set l (.lst (ws ++ [v]))) else .bad
    | _ => .bad)
  | _ => .bad
def gMeth (mt : Wv → Wv → Hs → Re Wv) (go ga : GE) : GE := fun ρ st => (go ρ st).bind fun o st1 => match o with
  | .ref l => (match lstOf st1 l with
    | some _ => (ga ρ st1).bind fun v st2 => (mt o v st2).nox
    | none => .bad)
  | _ => .bad
def MtW (X : Cx) (id : String) (mt : Wv → Wv → Hs → Re Wv) : Prop := ∃ r, MtR X id r ∧ ∀ (o w : Wv) (x v : V) (st : Hs) (H : Hp) (m : Mp) (Q : VK), Sim X.K m st H → RelW X.K m H o x → RelW X.K m H w v → PostO X.K m H (mt o w st) Q → r x [v] H Q
theorem mw_app : MtW X "list.append" mApp := ⟨_, mt_append, fun o w x v st H m Q S ro rw' p => by
  cases o with
  | ref l =>
    unfold RelW at ro
    obtain ⟨a, rfl, ha⟩ := ro
    have p' : PostO X.K m H (match st[l]? with | some (.lst ws) => if ws.length < lim then .ok .non (st.set l (.lst (ws ++ [w]))) else .bad | _ => .bad) Q := p
    cases e : st[l]? with
    | none => rw [e] at p'; exact False.elim p'
    | some ob =>
      cases ob with
      | dct kvs => rw [e] at p'; exact False.elim p'
      | dcT kvs => rw [e] at p'; exact False.elim p'
      | scr ns => rw [e] at p'; exact False.elim p'
      | lst ws =>
        rw [e] at p'
        dsimp only at p'
        by_cases c : ws.length < lim
        · rw [if_pos c] at p'
          obtain ⟨xs, h1, h2⟩ := S.lstAt ha e
          have e4 : Ext X.K m H m (upd H a (.lst (xs ++ [v]))) := Ext.upd (.inr ⟨xs, h1⟩)
          exact ⟨a, xs, v, rfl, rfl, h1, by rw [← h2.length]; exact lim_lt c, p' _ m _ e4 (S.write ha e (h2.append (RelWs.cons rw' RelWs.nil))) mkNon⟩
        · rw [if_neg c] at p'; exact False.elim p'
  | _ => exact False.elim p⟩
theorem je_meth {x name : Str} {id : String} {e : Expr} {go ga : GE} {p apos cpos : Pos} {mt : Wv → Wv → Hs → Re Wv} (hm : MtW X id mt) (slot : Slot "list" name id) (hty : typeOf (.builtin id) = pure (.type "method_descriptor")) (ho : JE X (.Name x p) go) (ha : JE X e ga)
    (hst : starEach [e] X.env = [(false, eval e X.env)]) (hline : (apos.endLine == cpos.line) = true) : JE X (.Call (.Attribute (.Name x p) name apos) [e] [] cpos) (gMeth mt go ga) := by
  obtain ⟨r, h1, h2⟩ := hm
  have hfew : ((backTo cpos (starEach [e] X.env)).all (fun x => !x.1) && (backToKw cpos (keywordEach [] X.env)).all (fun x => x.1.isSome) && decide ([e].length + ([] : List Keyword).length + (if ([] : List Keyword).isEmpty then 0 else 1) < 30)) = true := by
    rw [hst]; rfl
  refine JE.of (pe_bm PySem.F.plainAttrs_list slot hty h1 pe_SE pa_SA rfl hfew hline hst rfl) fun ρ st σ H m Q S R p => ?_
  refine ho.go S R (PostG.bind p) fun o st1 v m1 H1 p1 e1 S1 ro => ?_
  cases o with
  | ref l =>
    dsimp only at p1
    cases el : lstOf st1 l with
    | none => rw [el] at p1; exact False.elim p1
    | some ws0 =>
      rw [el] at p1
      dsimp only at p1
      have ro' := ro
      unfold RelW at ro'
      obtain ⟨a, rfl, hla⟩ := ro'
      obtain ⟨xs, hq, _⟩ := S1.read hla el
      refine ⟨.inl ⟨rfl, xs, hq⟩, ?_⟩
      refine (ja_cons ha ja_nil hst).go S1 (R.mono e1) (ok := fun ws st2 => PostG X σ m H (match ws with | [w] => (mt (.ref l) w st2).nox | _ => .bad) (okE X.K m H Q)) ?_ fun ws st2 vs m2 H2 p2 e2 S2 rs => ?_
      · have p3 := (PostG.bind p1).imp e1 (fun _ _ q => q)
        show PostG X σ m1 H1 ((ga ρ st1).bind fun x st1 => (gNil ρ st1).bind fun xs st2 => .ok (x :: xs) st2) _
        cases eg : ga ρ st1 with
        | ok w st2 => rw [eg] at p3; exact p3
        | err c st2 => rw [eg] at p3; exact p3
        | bad => rw [eg] at p3; exact p3
      · match ws, rs, p2 with
        | [], rs, p2 => exact False.elim p2
        | [w], rs, p2 =>
          obtain ⟨v2, rfl, rw2⟩ := rel1 rs
          exact h2 (.ref l) w (.ref a) v2 st2 H2 m2 Q S2 (RelW.mono e2 _ _ ro) rw2 (PostO.shift (PostG.nox p2) (e1.trans e2))
        | _ :: _ :: _, rs, p2 => exact False.elim p2
  | _ => exact False.elim p1
end
end J
namespace J
open PySem PySem.Spec PyProof.Rows L2
section
variable {X : Cx}
def oStr2 : List Wv → Hs → Re Wv
  | [.str z], st => .ok (.str z) st
  | ws, st => oStr ws st
def oMax : List Wv → Hs → Re Wv
  | [.int i, .int j], st => .ok (.int (if j > i then j else i)) st
  | _, _ => .bad
def oMin : List Wv → Hs → Re Wv
  | [.int i, .int j], st => .ok (.int (if j < i then j else i)) st
  | _, _ => .bad
def setL : List Nat → List Wv → Rho → Option Rho
  | [], [], ρ => some ρ
  | i :: is, w :: ws, ρ => setL is ws (ρ.set i (some w))
  | _, _, _ => none
def bdT (is : List Nat) (w : Wv) (ρ : Rho) : Option Rho := match w with
  | .tup ws => setL is ws ρ
  | _ => none
def tgs : List Nat → TGs
  | [] => L2.gNil
  | i :: is => L2.gCons (gName i) (tgs is)
theorem setL_run {m : Mp} {H : Hp} {Q : St → Hp → Prop} : ∀ {is : List Nat} {ws : List Wv} {xs : List V} {ρ ρ' : Rho} {σ : St}, RelWs X.K m H ws xs → RelEnv X.K m H ρ σ → setL is ws ρ = some ρ' → (∀ σ', RelEnv X.K m H ρ' σ' → Q σ' H) → tgs is xs σ H Q
  | [], [], xs, ρ, ρ', σ, r, R, e, k => by
    unfold RelWs at r
    subst r
    cases e
    exact ⟨rfl, k σ R⟩
  | i :: is, w :: ws, xs, ρ, ρ', σ, r, R, e, k => by
    unfold RelWs at r
    obtain ⟨x, rr, rfl, h1, h2⟩ := r
    exact ⟨x, rr, rfl, setL_run (is := is) h2 (R.set i h1) e k⟩
  | [], _ :: _, _, _, _, _, _, _, e, _ => by cases e
  | _ :: _, [], _, _, _, _, _, _, e, _ => by cases e
theorem setL_len : ∀ {is : List Nat} {ws : List Wv} {ρ ρ' : Rho}, setL is ws ρ = some ρ' → ws.length = is.length
  | [], [], _, _, _ => rfl
  | _ :: is, _ :: ws, _, _, e => congrArg (· + 1) (setL_len (is := is) (ws := ws) e)
  | [], _ :: _, _, _, e => by cases e
  | _ :: _, [], _, _, e => by cases e
inductive Slots (X : Cx) : List Expr → List Nat → Prop
  | nil : Slots X [] []
  | cons {x : Str} {p : Pos} {i : Nat} {es : List Expr} {is : List Nat} : X.N[i]? = some x → (Loc X.env.scope x ∧ (X.fn x = true ∨ X.env.scope.names.lookup x = some .local)) → Slots X es is → Slots X (.Name x p :: es) (i :: is)
theorem pgs_slots (hN : X.N.Nodup) : ∀ {es : List Expr} {is : List Nat}, Slots X es is → PGs X es (tgs is)
  | _, _, .nil => pgs_nil
  | _, _, .cons h1 h2 r => pgs_cons (pg_name hN h1 h2.1 h2.2) (pgs_slots hN r) rfl
theorem each_len : ∀ {es : List Expr} {is : List Nat}, Slots X es is → (assignEach es X.env).length = is.length
  | _, _, .nil => rfl
  | _, _, .cons _ _ r => congrArg (· + 1) (each_len r)
theorem each_star : ∀ {es : List Expr} {is : List Nat}, Slots X es is → (assignEach es X.env).findIdx? (·.1) = none
  | _, _, .nil => rfl
  | _, _, .cons (x := x) (p := p) (es := es) _ _ r => by
    have q := each_star r
    show List.findIdx? _ ((false, assign (.Name x p) X.env) :: assignEach es X.env) = none
    rw [List.findIdx?_cons]
    simp [q]
def gSetT (is : List Nat) (g : GE) : GS := fun ρ st => (g ρ st).thn ρ fun w st' => match bdT is w ρ with
  | some ρ' => .nx ρ' st'
  | none => .bad
theorem js_setT {es : List Expr} {is : List Nat} {k : Nat} {e : Expr} {g : GE} {pos pos' : Pos} (hN : X.N.Nodup) (hc : X.calm = true) (sl : Slots X es is) (h : JE X e g) (hs : swapsWith e (some (.Tuple es k pos')) pos.line X.env = pure false) (hw : swappedStores [.Tuple es k pos'] e X.env = pure none) :
    JS X (.Assign [.Tuple es k pos'] e pos) (gSetT is g) :=
  JS.of (ps_asg pe_SE (pg_tup hc (pgs_slots hN sl) (each_len sl) (each_star sl)) (by unfold swapsWithSole; exact hs) hw rfl) fun ρ st σ H m D S R p => h.go S R (PostS.of_thn R p) fun w st1 v m1 H1 q e1 S1 r1 => by
    cases w with
    | tup ws =>
      have q' : PostS X m H (match setL is ws ρ with | some ρ' => .nx ρ' st1 | none => .bad) D := q
      cases e2 : setL is ws ρ with
      | none => rw [e2] at q'; exact False.elim q'
      | some ρ' =>
        rw [e2] at q'
        unfold RelW at r1
        obtain ⟨a, xs, rfl, f1, f2⟩ := r1
        exact ⟨a, xs, rfl, SqT.of f1, by rw [← f2.length]; exact setL_len e2, setL_run f2 (R.mono e1) e2 fun σ' R' => q' σ' m1 H1 e1 S1 R'⟩
    | _ => exact False.elim q
open Classical in
noncomputable def forLB (is : List Nat) (gb : GS) (l : Nat) (all : List Wv) : List Wv → Rho → Hs → Rs
  | [], ρ, st => .nx ρ st
  | w :: r, ρ, st => match bdT is w ρ with
    | none => .bad
    | some ρ1 => match gb ρ1 st with
      | .nx ρ' st' => if lstOf st' l = some all then forLB is gb l all r ρ' st' else .bad
      | .ct ρ' st' => if lstOf st' l = some all then forLB is gb l all r ρ' st' else .bad
      | .bk ρ' st' => .nx ρ' st'
      | .rt w st' => .rt w st'
      | .err c ρ' st' => .err c ρ' st'
      | .bad => .bad
noncomputable def gForB (is : List Nat) (gi : GE) (gb : GS) : GS := fun ρ st => (gi ρ st).thn ρ fun w st1 => match w with
  | .ref l => (match lstOf st1 l with | some ws => forLB is gb l ws ws ρ st1 | none => .bad)
  | _ => .bad
theorem js_forB {es : List Expr} {is : List Nat} {k : Nat} {iter : Expr} {body : List Stmt} {gi : GE} {gb : GS} {pos pos' : Pos} (hN : X.N.Nodup) (hp : PassesOwn (model X.prog X.w) X.A X.env X.xe) (hc : X.calm = true) (sl : Slots X es is) (hi : JE X iter gi) (hb : JSs X body gb)
    (hs : ∀ x, foldedSetIterable iter X.env x = pure x) : JS X (.For (.Tuple es k pos') iter body [] pos) (gForB is gi gb) := by
  refine JS.of (ps_for hp hc (pi_list pe_SE) (pg_tup hc (pgs_slots hN sl) (each_len sl) (each_star sl)) pss_SSs hs) fun ρ st σ H m D S R p => ?_
  refine hi.go S R (PostS.of_thn R p) fun w st1 v m1 H1 p1 e1 S1 rw' => ?_
  cases w with
  | ref l =>
    have p1' : PostS X m H (match lstOf st1 l with | some ws => forLB is gb l ws ws ρ st1 | none => .bad) D := p1
    unfold RelW at rw'
    obtain ⟨a, rfl, hla⟩ := rw'
    cases el : lstOf st1 l with
    | none => rw [el] at p1'; exact False.elim p1'
    | some ws =>
      rw [el] at p1'
      obtain ⟨xs0, q0, _⟩ := S1.read hla el
      refine ⟨a, rfl, ⟨xs0, q0⟩, ?_⟩
      let Pv : Nat → St → Hp → Prop := fun k σ H => ∃ ρ st m', Ext X.K m1 H1 m' H ∧ Sim X.K m' st H ∧ RelEnv X.K m' H ρ σ ∧ lstOf st l = some ws ∧ PostS X m' H (forLB is gb l ws (ws.drop k) ρ st) D
      refine ⟨fun k n σ H => n = ws.length - k ∧ k ≤ ws.length ∧ Pv k σ H, ⟨ws.length, by simp, Nat.zero_le _, ρ, st1, m1, Ext.refl, S1, R.mono e1, el, PostS.shift p1' e1⟩, ?_⟩
      rintro k n σ2 H2 ⟨rfl, hk, ρ2, st2, m2, e2, S2, R2, l2, p2⟩
      obtain ⟨xs, hq, rws⟩ := S2.read (e2.pre _ _ hla) l2
      have hlen := rws.length
      by_cases hlt : k < ws.length
      · have hx' : k < xs.length := by omega
        refine .inr ⟨⟨xs, xs[k], hq, by simp [hx']⟩, Pv (k + 1), fun σ' H' p' => ⟨ws.length - (k + 1), by omega, rfl, hlt, p'⟩, fun x H' y => ?_⟩
        obtain ⟨ee, y⟩ := y
        subst ee
        have ey := y xs hq
        have ed : ws.drop k = ws[k] :: ws.drop (k + 1) := List.drop_eq_getElem_cons hlt
        obtain ⟨x', ex', rx'⟩ := rws.get (i := k) (w := ws[k]) (List.getElem?_eq_getElem hlt)
        rw [ey] at ex'
        cases ex'
        rw [ed] at p2
        unfold forLB at p2
        cases eb : ws[k] with
        | tup us =>
          rw [eb] at p2 rx'
          dsimp only [bdT] at p2
          cases e5 : setL is us ρ2 with
          | none => rw [e5] at p2; exact False.elim p2
          | some ρ5 =>
            rw [e5] at p2
            dsimp only at p2
            unfold RelW at rx'
            obtain ⟨b, ys, rfl, f1, f2⟩ := rx'
            refine ⟨b, ys, rfl, SqT.of f1, by rw [← f2.length]; exact setL_len e5, setL_run f2 R2 e5 fun σ5 R5 => ?_⟩
            refine hb _ st2 _ _ m2 _ S2 R5 ?_
            cases eg : gb ρ5 st2 with
            | nx ρ3 st3 =>
              rw [eg] at p2
              by_cases c : lstOf st3 l = some ws
              · simp only [if_pos c] at p2
                exact fun σ3 m3 H3 e3 S3 R3 => ⟨ρ3, st3, m3, e2.trans e3, S3, R3, c, PostS.shift p2 e3⟩
              · simp only [if_neg c] at p2; exact False.elim p2
            | ct ρ3 st3 =>
              rw [eg] at p2
              by_cases c : lstOf st3 l = some ws
              · simp only [if_pos c] at p2
                exact fun σ3 m3 H3 e3 S3 R3 => ⟨ρ3, st3, m3, e2.trans e3, S3, R3, c, PostS.shift p2 e3⟩
              · simp only [if_neg c] at p2; exact False.elim p2
            | bk ρ3 st3 => rw [eg] at p2; exact p2
            | rt w3 st3 => rw [eg] at p2; exact p2
            | err c3 ρ3 st3 => rw [eg] at p2; exact p2
            | bad => rw [eg] at p2; exact p2
        | _ => rw [eb] at p2; exact False.elim p2
      · have e : k = ws.length := by omega
        subst e
        rw [List.drop_length] at p2
        exact .inl ⟨⟨xs, hq, by omega⟩, p2 σ2 m2 H2 Ext.refl S2 R2⟩
  | _ => exact False.elim p1
end
end J
namespace J
open PySem PySem.Spec PyProof.Rows L2
def clF (env : Env) : List (Str × NameKind) → List (Str × Addr) → List (Str × Addr)
  | [], acc => acc
  | (n, k) :: r, acc => if k = .free then clF env r ((n, (env.cells.lookup n).getD 0) :: acc) else clF env r acc
theorem clos_run (env : Env) : ∀ (names : List (Str × NameKind)) (acc : List (Str × Addr)), (∀ y ∈ names, y.2 = .free → ∃ c, env.cells.lookup y.1 = some c) →
    (forIn names acc fun x r => match x with
      | (name, kind) => if (kind == NameKind.free) = true then do let c ← cellOf env name; pure (ForInStep.yield ((name, c) :: r)) else (pure (ForInStep.yield r) : Sem _)) = pure (clF env names acc)
  | [], acc, _ => rfl
  | (n, k) :: r, acc, h => by
    have ih := fun acc => clos_run env r acc fun y hy => h y (List.mem_cons_of_mem _ hy)
    rw [List.forIn_cons]
    by_cases hk : k = .free
    · subst hk
      obtain ⟨c, e⟩ := h (n, .free) List.mem_cons_self rfl
      have e' : env.cells.lookup n = some c := e
      have cc : cellOf env n = pure c := by unfold cellOf; rw [e']
      simp only [beq_self_eq_true, if_true, cc]
      have q : clF env ((n, .free) :: r) acc = clF env r ((n, c) :: acc) := by
        show (if NameKind.free = .free then clF env r ((n, (env.cells.lookup n).getD 0) :: acc) else _) = _
        rw [if_pos rfl, e']
        rfl
      rw [q, ← ih]
      rfl
    · have hb : (k == NameKind.free) = false := by simpa using hk
      simp only [hb, Bool.false_eq_true, if_false]
      have q : clF env ((n, k) :: r) acc = clF env r acc := by
        show (if k = .free then _ else clF env r acc) = _
        rw [if_neg hk]
      rw [q, ← ih]
      rfl
theorem clos_is {env : Env} {scope : Scope} (h : ∀ y ∈ scope.names, y.2 = .free → ∃ c, env.cells.lookup y.1 = some c) : closureFor scope env = pure (clF env scope.names []) := by
  have q := clos_run env scope.names [] h
  unfold closureFor
  first
    | (rw [← q]; rfl)
    | (simp only [bind_pure]; exact q)
theorem clF_sub {env : Env} : ∀ {names : List (Str × NameKind)} {acc : List (Str × Addr)} {y : Str} {c : Addr}, (∀ y ∈ names, y.2 = .free → ∃ c, env.cells.lookup y.1 = some c) → (∀ y c, acc.lookup y = some c → env.cells.lookup y = some c) → (clF env names acc).lookup y = some c → env.cells.lookup y = some c
  | [], acc, y, c, _, ha, e => ha y c e
  | (n, k) :: r, acc, y, c, h, ha, e => by
    unfold clF at e
    by_cases hk : k = .free
    · rw [if_pos hk] at e
      subst hk
      obtain ⟨c0, e0⟩ := h (n, .free) List.mem_cons_self rfl
      have e0' : env.cells.lookup n = some c0 := e0
      refine clF_sub (fun y hy => h y (List.mem_cons_of_mem _ hy)) (fun y' c' e' => ?_) e
      rw [List.lookup_cons] at e'
      cases q : y' == n with
      | true =>
        rw [q] at e'
        have q' := eq_of_beq q
        subst q'
        rw [e0'] at e' ⊢
        exact e'
      | false => rw [q] at e'; exact ha y' c' e'
    · rw [if_neg hk] at e
      exact clF_sub (fun y hy => h y (List.mem_cons_of_mem _ hy)) ha e
theorem clF_has {env : Env} {y : Str} : ∀ {names : List (Str × NameKind)} {acc : List (Str × Addr)}, ((∃ c, acc.lookup y = some c) ∨ (y, NameKind.free) ∈ names) → ∃ c, (clF env names acc).lookup y = some c
  | [], acc, h => by
    rcases h with h | h
    · exact h
    · cases h
  | (n, k) :: r, acc, h => by
    unfold clF
    by_cases hk : k = .free
    · rw [if_pos hk]
      refine clF_has ?_
      rw [List.lookup_cons]
      cases q : y == n with
      | true => exact .inl ⟨_, rfl⟩
      | false =>
        rcases h with h | h
        · exact .inl h
        · rcases List.mem_cons.mp h with h | h
          · cases h; simp at q
          · exact .inr h
    · rw [if_neg hk]
      refine clF_has ?_
      rcases h with h | h
      · exact .inl h
      · rcases List.mem_cons.mp h with h | h
        · cases h; exact absurd rfl hk
        · exact .inr h
theorem lookup_mem {α β : Type} [BEq α] [LawfulBEq α] {y : α} {k : β} : ∀ {names : List (α × β)}, names.lookup y = some k → (y, k) ∈ names
  | [], h => by cases h
  | (n, j) :: r, h => by
    rw [List.lookup_cons] at h
    cases q : y == n with
    | true =>
      rw [q] at h
      cases h
      have q' := eq_of_beq q
      subst q'
      exact List.mem_cons_self
    | false => rw [q] at h; exact List.mem_cons_of_mem _ (lookup_mem h)
theorem rel_look {env : Env} : ∀ {names : List (Str × NameKind)} {y : Str}, (names.map fun (n, k) => if (k == NameKind.free && env.scope.kind == .function && env.kindOf n == some .cell) then (n, NameKind.cell) else (n, k)).lookup y =
    (names.lookup y).map fun k => if (k == NameKind.free && env.scope.kind == .function && env.kindOf y == some .cell) = true then NameKind.cell else k
  | [], y => rfl
  | (n, k) :: r, y => by
    have ih := rel_look (env := env) (names := r) (y := y)
    show List.lookup y ((if (k == NameKind.free && env.scope.kind == .function && env.kindOf n == some .cell) = true then (n, NameKind.cell) else (n, k)) :: _) = _
    cases q : y == n with
    | true =>
      have q' := eq_of_beq q
      subst q'
      by_cases hc : (k == NameKind.free && env.scope.kind == .function && env.kindOf y == some .cell) = true
      · rw [if_pos hc]
        simp only [List.lookup_cons, beq_self_eq_true, Option.map_some]
        rw [if_pos hc]
      · rw [if_neg hc]
        simp only [List.lookup_cons, beq_self_eq_true, Option.map_some]
        rw [if_neg hc]
    | false =>
      by_cases hc : (k == NameKind.free && env.scope.kind == .function && env.kindOf n == some .cell) = true
      · rw [if_pos hc]; simp only [List.lookup_cons, q]; exact ih
      · rw [if_neg hc]; simp only [List.lookup_cons, q]; exact ih
open Classical in
noncomputable def compG (ck : Hs → Prop) (gt : Wv → Hs → Re Bool) (ge : Wv → Hs → Re Wv) (l : Nat) : List Wv → Hs → Option Hs
  | [], st => some st
  | w :: r, st => match gt w st with
    | .ok false st1 => if ck st1 then compG ck gt ge l r st1 else none
    | .ok true st1 => (match ge w st1 with
      | .ok v st2 => (match mApp (.ref l) v st2 with
        | .ok _ st3 => if ck st3 then compG ck gt ge l r st3 else none
        | _ => none)
      | _ => none)
    | _ => none
open Classical in
noncomputable def compZ (ck : Hs → Prop) (gt : Wv → Hs → Re Bool) (ge : Wv → Hs → Re Wv) (l : Nat) : List Wv → Hs → Re Unit
  | [], st => .ok () st
  | w :: r, st => match gt w st with
    | .ok false st1 => if ck st1 then compZ ck gt ge l r st1 else .bad
    | .ok true st1 => (match ge w st1 with
      | .ok v st2 => (match mApp (.ref l) v st2 with
        | .ok _ st3 => if ck st3 then compZ ck gt ge l r st3 else .bad
        | _ => .bad)
      | .err c st2 => .err c st2
      | .bad => .bad)
    | .err c st1 => .err c st1
    | .bad => .bad
theorem compZ_of {ck : Hs → Prop} {gt : Wv → Hs → Re Bool} {ge : Wv → Hs → Re Wv} {l : Nat} {stF : Hs} : ∀ (ws : List Wv) (st : Hs), compG ck gt ge l ws st = some stF → compZ ck gt ge l ws st = .ok () stF
  | [], st, h => by cases h; rfl
  | w :: r, st, h => by
    unfold compG at h
    unfold compZ
    cases eg : gt w st with
    | err c st1 => rw [eg] at h; cases h
    | bad => rw [eg] at h; cases h
    | ok b st1 =>
      rw [eg] at h
      cases b with
      | false =>
        dsimp only at h ⊢
        by_cases c : ck st1
        · rw [if_pos c] at h ⊢; exact compZ_of r st1 h
        · rw [if_neg c] at h; cases h
      | true =>
        dsimp only at h ⊢
        cases ee : ge w st1 with
        | err c st2 => rw [ee] at h; cases h
        | bad => rw [ee] at h; cases h
        | ok v st2 =>
          rw [ee] at h
          dsimp only at h ⊢
          cases ea : mApp (.ref l) v st2 with
          | err c st3 => rw [ea] at h; cases h
          | bad => rw [ea] at h; cases h
          | ok u st3 =>
            rw [ea] at h
            dsimp only at h ⊢
            by_cases c : ck st3
            · rw [if_pos c] at h ⊢; exact compZ_of r st3 h
            · rw [if_neg c] at h; cases h
abbrev Caps := List (Str × Nat)
def capR (cs : Caps) (ρ : Rho) : Rho := cs.map fun p => (ρ[p.2]?).getD none
def capS (cs : Caps) (σ : St) : St := cs.map fun p => (σ[p.2]?).getD none
theorem cap_rel {K : PySem.W.Frag} {m : Mp} {H : Hp} {ρ : Rho} {σ : St} (cs : Caps) (R : RelEnv K m H ρ σ) : RelEnv K m H (capR cs ρ) (capS cs σ) := by
  refine ⟨by unfold capR capS; simp, fun i w e => ?_⟩
  unfold capR at e
  rw [List.getElem?_map] at e
  cases q : cs[i]? with
  | none => rw [q] at e; cases e
  | some p =>
    rw [q] at e
    have e' : (ρ[p.2]?).getD none = some w := by simpa using e
    cases q2 : ρ[p.2]? with
    | none => rw [q2] at e'; cases e'
    | some o =>
      rw [q2] at e'
      have e2 : o = some w := e'
      subst e2
      obtain ⟨v, h1, h2⟩ := R.get _ _ q2
      refine ⟨v, ?_, h2⟩
      unfold capS
      rw [List.getElem?_map, q]
      simp [h1]
def compX (X : Cx) (scope : Scope) (x : Str) (cs : Caps) (C : Addr) (s0 : Shared) (H0 : Hp) (fp : List Addr) (pn : List (Addr × Obj)) (E : Value → Shared → Prop) : Cx where
  prog := X.prog
  w := X.w
  K := X.K
  mg := X.mg
  base := X.base
  A := X.A
  N := x :: cs.map (·.1)
  s₀ := s0
  H₀ := H0
  env := compEnvC scope (clF X.env scope.names []) C X.env
  outer := X.stack
  stack := X.stack
  ex := fp
  fn := fun _ => false
  calm := X.calm
  pn := pn
  xe := E
structure CScope (X : Cx) (scope : Scope) (x : Str) (cs : Caps) : Prop where
  kind : scope.kind = .function
  look : ∀ y ∈ scope.names, scope.names.lookup y.1 = some y.2
  cell : ∀ y ∈ scope.names, y.2 ≠ .cell
  var : scope.names.lookup x = some .local
  cap : ∀ y ∈ scope.names, y.2 = .free → X.env.kindOf y.1 = some .cell ∨ X.env.kindOf y.1 = some .free
  at_ : ∀ p ∈ cs, X.N[p.2]? = some p.1 ∧ scope.names.lookup p.1 = some .free
  nd : (x :: cs.map (·.1)).Nodup
section
variable {X : Cx} {pins : List (Addr × Obj)} {σ : St} {H : Hp} {s : Shared} {scope : Scope} {x : Str} {cs : Caps}
theorem fp_stack (I : Inv X pins σ H s) {b : Addr} (f : FpOk X pins H b) : b ∉ frs X.stack := fun z => by
  rcases List.mem_cons.mp (I.stkSub b z) with q | q
  · exact f.2.1 q
  · exact f.2.2.1 q
theorem CScope.has (S : CScope X scope x cs) (ok : X.Ok) : ∀ y ∈ scope.names, y.2 = .free → ∃ c, X.env.cells.lookup y.1 = some c := fun y hy e => ok.has y.1 (S.cap y hy e)
theorem CScope.sub (S : CScope X scope x cs) (ok : X.Ok) {y : Str} {c : Addr} (e : (clF X.env scope.names []).lookup y = some c) : X.env.cells.lookup y = some c :=
  clF_sub (S.has ok) (fun _ _ z => by cases z) e
theorem CScope.kindIn (S : CScope X scope x cs) (ok : X.Ok) {C : Addr} {y : Str} (h : (compEnvC scope (clF X.env scope.names []) C X.env).kindOf y = some .cell ∨ (compEnvC scope (clF X.env scope.names []) C X.env).kindOf y = some .free) : scope.names.lookup y = some .free := by
  have q : (compEnvC scope (clF X.env scope.names []) C X.env).kindOf y = (scope.names.lookup y).map fun k => if (k == NameKind.free && X.env.scope.kind == .function && X.env.kindOf y == some .cell) = true then NameKind.cell else k := rel_look
  rw [q] at h
  cases e : scope.names.lookup y with
  | none => rw [e] at h; simp at h
  | some k =>
    rw [e] at h
    simp only [Option.map_some, Option.some.injEq] at h
    by_cases hk : k = .free
    · rw [hk]
    · have hb : (k == NameKind.free) = false := by simpa using hk
      rw [hb] at h
      simp only [Bool.false_and, Bool.false_eq_true, if_false] at h
      rcases h with h | h
      · exact absurd h (S.cell (y, k) (lookup_mem e))
      · exact absurd h hk
theorem CScope.free_vis (S : CScope X scope x cs) {C : Addr} {y : Str} (e : scope.names.lookup y = some .free) : (compEnvC scope (clF X.env scope.names []) C X.env).kindOf y = some .cell ∨ (compEnvC scope (clF X.env scope.names []) C X.env).kindOf y = some .free := by
  have q : (compEnvC scope (clF X.env scope.names []) C X.env).kindOf y = (scope.names.lookup y).map fun k => if (k == NameKind.free && X.env.scope.kind == .function && X.env.kindOf y == some .cell) = true then NameKind.cell else k := rel_look
  rw [q, e]
  simp only [Option.map_some]
  split
  · exact .inl rfl
  · exact .inr rfl
theorem comp_inv {fp : List Addr} {h2 : Heap} {tk : Nat} {E : Value → Shared → Prop} (S : CScope X scope x cs) (I : Inv X pins σ H s) (hf : ∀ b ∈ fp, FpOk X pins H b) (hl : ∀ b ∈ fp, b < s.heap.objs.size)
    (ns : h2.Ns s.heap.objs.size (fun y => ([] : List (Str × Value)).reverse.lookup y)) (sb : Heap.SameBut s.heap.objs.size (s.heap.push { cls := .type "dict", data := .dict #[] }) h2) :
    Inv (compX X scope x cs s.heap.objs.size s H fp (X.pn ++ pins) E) [] (none :: capS cs σ) H { s with heap := h2, toks := tk } := by
  have keep : ∀ b o, s.heap.get? b = some o → h2.get? b = some o := fun b o e => (sb.2 b (Nat.ne_of_lt (Heap.lt_size e))).trans (Heap.get?_push_of_some _ e)
  have sub : ∀ {y : Str} {c : Addr}, (clF X.env scope.names []).lookup y = some c → X.env.cells.lookup y = some c := fun e => S.sub I.ok e
  have cellK : ∀ y c, X.env.cells.lookup y = some c → ∀ v, s.heap.IsCell c v → h2.IsCell c v := fun y c _ v ⟨o, ho, hd⟩ => ⟨o, keep c o ho, hd⟩
  refine ⟨⟨I.ok.mod, S.kind, I.ok.glob, I.ok.blt, Nat.le_refl _, (fun y z c e1 e2 => I.ok.inj y z c (sub e1) (sub e2)), fun y h => clF_has (.inr (lookup_mem (S.kindIn I.ok h))), (fun y c e => by cases e), I.ok.hd, I.ok.frames, .inl rfl, fun b hb => ⟨Nat.ne_of_lt (hl b hb), fun y c e => (hf b hb).2.2.2.2.1 y c (sub e)⟩, I.bs, Nat.le_trans I.ok.bsz I.sz, fun b o e hb => ?_, fun b hb => fp_stack I (hf b hb), I.stack, I.stkFree⟩, rfl, I.bare, Un.kept keep, ⟨_, ns, fun i y v e1 e2 e3 => ?_⟩, (fun y c e => ?_), I.fresh, (fun y c e => I.freeC y c (sub e)), fun p hp => ?_, I.hok.kept keep, by unfold compX capS; simp⟩
  · rcases (hf b hb).2.2.2.1 with z | z
    · exact I.ok.noex b o e z
    · exact absurd (Nat.lt_of_lt_of_le (Heap.lt_size e) (Nat.le_trans I.ok.bsz z)) (Nat.lt_irrefl _)
  · cases i with
    | zero => cases e2
    | succ i =>
      have e1' : (cs.map (·.1))[i]? = some y := e1
      have e2' : (capS cs σ)[i]? = some (some v) := e2
      unfold capS at e2'
      rw [List.getElem?_map] at e1' e2'
      cases q : cs[i]? with
      | none => rw [q] at e1'; cases e1'
      | some p =>
        rw [q] at e1' e2'
        have y1 : p.1 = y := by simpa using e1'
        have e4 : (σ[p.2]?).getD none = some v := by simpa using e2'
        have e5 : σ[p.2]? = some (some v) := by
          cases q2 : σ[p.2]? with
          | none => rw [q2] at e4; cases e4
          | some o =>
            rw [q2] at e4
            have : o = some v := e4
            rw [this]
        have hp := S.at_ p (List.mem_iff_getElem?.mpr ⟨i, q⟩)
        rw [y1] at hp
        have kd := S.cap (y, .free) (lookup_mem hp.2) rfl
        obtain ⟨m, hn, hl'⟩ := I.loc
        obtain ⟨u, r, l⟩ := hl' p.2 y v hp.1 e5 (.inr kd)
        refine ⟨u, r, .inr ⟨S.free_vis hp.2, ?_⟩⟩
        rcases l with ⟨l, _⟩ | ⟨_, c, e, z⟩
        · rcases kd with kd | kd
          · have kd' : X.env.kindOf y = some .cell := kd
            rw [kd'] at l; cases l
          · have kd' : X.env.kindOf y = some .free := kd
            rw [kd'] at l; cases l
        · obtain ⟨c', e'⟩ := clF_has (env := X.env) (y := y) (names := scope.names) (acc := []) (.inr (lookup_mem hp.2))
          have := sub e'
          rw [e] at this
          cases this
          exact ⟨c, e', cellK y c e _ z⟩
  · obtain ⟨v, z⟩ := I.cell y c (sub e)
    exact ⟨v, cellK y c (sub e) v z⟩
  · rw [List.append_nil] at hp
    obtain ⟨e, n, ne, nf, d⟩ := I.pin p hp
    refine ⟨keep _ _ e, n, Nat.ne_of_lt (Heap.lt_size e), fun z => ?_, d⟩
    rcases List.mem_cons.mp (I.stkSub p.1 z) with q | q
    · exact ne q
    · exact nf q
theorem comp_end {fp : List Addr} {E : Value → Shared → Prop} {Hb He : Hp} {sb se : Shared} {C : Addr} {σ' : St} {pins' : List (Addr × Obj)} (I : Inv X pins σ Hb sb) (hf : ∀ b ∈ fp, FpOk X pins Hb b) (J : Inv (compX X scope x cs C sb Hb fp (X.pn ++ pins) E) pins' σ' He se) : Inv X pins σ He se := by
  have un : Un (frs X.stack) fp Hb He sb.heap se.heap := J.base
  exact I.call' (ch := fp) J.os un J.hok J.bare fun b hb => ⟨(hf b hb).2.2.2.1, (hf b hb).2.1, (hf b hb).2.2.2.2.1, fun p hp => (hf b hb).2.2.2.2.2 p hp⟩
theorem comp_gone {He : Hp} {se : Shared} {C : Addr} {h2 : Heap} (I : Inv X pins σ He se) (f : FpOk X pins He C) (same : Heap.SameBut C se.heap h2) : Inv X pins σ He { se with heap := h2 } :=
  I.turned (t' := se.toks) (it := C) (fun b o hb e => (same.2 b hb).trans e) f.1 f.2.1 f.2.2.2.1 f.2.2.2.2.1 f.2.2.2.2.2
end
def FrOk (X : Cx) : Prop := ∃ (env : Env) (outer : List Env) (L : Addr), X.stack = env :: outer ∧ env.frame = some L ∧ X.env.frame = some L
theorem note_env {e : Value} {env env' : Env} (h : env.frame = env'.frame) : noteFrame e env = noteFrame e env' := by
  unfold noteFrame PySem.frameOf
  rw [h]
theorem funFrames_to {B B' h h' : Heap} (st : B'.StaysIn B) : ∀ {l : List Env}, h.FunFrames B l → (∀ b ∈ frs l, ∀ o, h.get? b = some o → (∀ vs, o.data ≠ .fields vs) → h'.get? b = some o) → h'.FunFrames B' l
  | [], _, _ => trivial
  | env :: r, ⟨hk, ⟨L, o, hf, hn, ho, hd⟩, hr⟩, k => by
    refine ⟨hk, ⟨L, o, hf, ?_, k L (List.mem_filterMap.mpr ⟨env, List.mem_cons_self, hf⟩) o ho hd, hd⟩, funFrames_to st hr fun b hb => k b ?_⟩
    · cases q : B'.get? L with
      | none => rfl
      | some u => rw [st L u q] at hn; cases hn
    · obtain ⟨e, he, hb⟩ := List.mem_filterMap.mp hb
      exact List.mem_filterMap.mpr ⟨e, List.mem_cons_of_mem _ he, hb⟩
section
variable {X : Cx} {pins : List (Addr × Obj)} {σ : St} {scope : Scope} {x : Str} {cs : Caps}
theorem noted_post {Hc H' : Hp} {sc s' : Shared} {C a Cl L : Addr} {a0 acc : Value} {B h4 : Heap} {ch : List Addr} {mm : Str → Option Value} {use : Option (Value → Sem Unit)} {Q : Value → Shared → Prop} {c : Str}
    (hC : ClsAt X.K c Cl) (Io : Inv X pins σ Hc sc) (fC : FpOk X pins Hc C) (ns : sc.heap.Ns C mm) (os : s'.os = sc.os) (bare : AllBare s'.gens) (hch : ∀ b ∈ ch, FpOk X pins Hc b) (nC : C ∉ ch) (un : Un (frs X.stack) ch Hc H' sc.heap s'.heap) (hok : HOk X.prog X.w H' B)
    (hd : HeldX B X.stack a (.ref Cl) a0 L h4) (up : s'.heap.UpToSlots h4) (cov : ∀ b o, sc.heap.get? b = some o → b ∉ frs X.stack → b ∉ ch → ∃ o', B.get? b = some o' ∧ (Hc b = none → o' = o)) (k : ∀ s5, Raised X σ H' c (.ref a) s5 → X.xe (.ref a) s5) :
    compPost (model X.prog X.w) X.A X.xe use Q acc C (.error (.ref a)) { s' with heap := h4 } := by
  have nfC : C ∉ frs X.stack := fp_stack Io fC
  obtain ⟨oC, es, ep, hoC, dC, sk⟩ := ns
  obtain ⟨oC', gC, eC⟩ := cov C oC hoC nfC nC
  rw [eC fC.1] at gC
  obtain ⟨d1, d2, d3, oe, vs, T, oT, ts, t1, t2, t3, t4, t5, t6, t7, t8, t9⟩ := hd
  have aC : a ≠ C := fun z => by rw [z, gC] at d2; cases d2
  have TC : T ≠ C := fun z => by rw [z, gC] at t5; cases t5
  have lt : 3 < ts.size := (Array.getElem?_eq_some_iff.mp t9).1
  have nch : ∀ b ∈ frs X.stack, b ∉ ch := fun b hb z => fp_stack Io (hch b z) hb
  have go : ∃ m, h4.Ns C m ∧ ∀ h', Heap.SameBut C h4 h' → ∀ cenv : Env, cenv.locals = C → wpAny (model X.prog X.w) X.A (PySem.passOn "comprehension.variables-let-go" (.ref a) cenv : Sem Value) (fun _ _ => False) X.xe { s' with heap := h' } := by
    refine ⟨mm, ⟨oC, es, ep, d1 C oC gC, dC, sk⟩, fun h' same cenv _ => ?_⟩
    have ga : h'.get? a = some oe := (same.2 a aC).trans t1
    have gT : h'.get? T = some oT := (same.2 T TC).trans t7
    have fin : ∀ nt : Value, X.xe (.ref a) { s' with heap := h'.update T (Obj.mapFields (·.setIfInBounds 3 nt)) } := fun nt => by
      have other : ∀ b, b ≠ T → (h'.update T (Obj.mapFields (·.setIfInBounds 3 nt))).get? b = h'.get? b := fun b hb => Heap.get?_update_other _ _ (Ne.symm hb)
      have gB : ∀ b o, B.get? b = some o → b ≠ C → (h'.update T (Obj.mapFields (·.setIfInBounds 3 nt))).get? b = some o := fun b o q n => (other b fun z => by rw [z, t5] at q; cases q).trans ((same.2 b n).trans (d1 b o q))
      have gF : ∀ b ∈ frs X.stack, ∀ o, h4.get? b = some o → (∀ vs, o.data ≠ .fields vs) → (h'.update T (Obj.mapFields (·.setIfInBounds 3 nt))).get? b = some o := fun b hb o q n => (other b fun z => by
        rw [z, t7] at q
        cases q
        exact n ts t8).trans ((same.2 b fun z => nfC (z ▸ hb)).trans q)
      have sl : ∀ b o, sc.heap.get? b = some o → Hc b = none → b ∈ frs X.stack → ∃ sl, (h'.update T (Obj.mapFields (·.setIfInBounds 3 nt))).get? b = some { o with slots := sl } := fun b o q n hb => by
        obtain ⟨s1, q1⟩ := un.slot b o q n hb (nch b hb)
        obtain ⟨_, o1, q2, n1⟩ := Io.stack.mem hb
        rw [q] at q2
        cases q2
        obtain ⟨s2, q3⟩ := up b _ q1 n1
        exact ⟨s2, gF b hb _ q3 n1⟩
      have non : ∀ b, B.get? b = none → (PySem.W.hideAll B [C]).get? b = none := fun b q => by
        cases z : (PySem.W.hideAll B [C]).get? b with
        | none => rfl
        | some u => rw [PySem.W.of_hideAll _ z] at q; cases q
      refine k _ ⟨Cl, pins, Hc, sc, hC, Io, .inl ⟨a, a0, nt, PySem.W.hideAll B [C], C :: ch, rfl, os, bare, fun b hb => ?_, ⟨fun b o q n hb hx => ?_, fun b o q n hb _ => sl b o q n hb, fun b o q n hx => un.free b o q n fun z => hx (List.mem_cons_of_mem _ z), fun b o q hx => ?_, un.tups, un.frzs, un.tbls⟩, hok_hide hok fun b hb => ?_, ⟨fun b o q => ?_, non a d2, funFrames_to (fun b o q => PySem.W.of_hideAll _ q) d3 gF, oe, vs, T, _, _, (other a (Ne.symm t6)).trans ga, t2, t3, t4, non T t5, t6, Heap.get?_update_self _ gT (Obj.isFreed_of_fields (Obj.data_mapFields t8 _)), Obj.data_mapFields t8 _, by simp [lt]⟩, fun b o q hb hx => ?_⟩⟩
      · rcases List.mem_cons.mp hb with z | z
        · rw [z]; exact fC
        · exact hch b z
      · obtain ⟨o', q1, q2⟩ := cov b o q hb fun z => hx (List.mem_cons_of_mem _ z)
        rw [q2 n] at q1
        exact gB b o q1 fun z => hx (z ▸ List.mem_cons_self)
      · by_cases hb : b ∈ frs X.stack
        · obtain ⟨s2, q2⟩ := sl b o q (Io.stkFree b hb) hb
          exact ⟨_, q2⟩
        · obtain ⟨o', q1, _⟩ := cov b o q hb fun z => hx (List.mem_cons_of_mem _ z)
          exact ⟨o', gB b o' q1 fun z => hx (z ▸ List.mem_cons_self)⟩
      · rw [List.mem_singleton.mp hb]
        exact un.free C oC hoC fC.1 nC
      · refine gB b o (PySem.W.of_hideAll _ q) fun z => ?_
        rw [z, PySem.W.hideAll_none [C] List.mem_cons_self] at q
        cases q
      · obtain ⟨o', q1, q2⟩ := cov b o q hb fun z => hx (List.mem_cons_of_mem _ z)
        exact ⟨o', PySem.W.hideAll_get _ q1 fun z => hx ((List.mem_singleton.mp z) ▸ List.mem_cons_self), q2⟩
    unfold PySem.passOn
    refine wpAny_bind (wpAny_field ga t3 t4 ?_)
    rw [if_neg (show ¬ ((Value.ref T == Value.none) = true) from by simp)]
    unfold setFlight
    refine wpAny_bind (wpAny_bind (wpAny_field ga t3 t4 ?_))
    rw [if_pos (show (Value.ref T != Value.none) = true from by simp)]
    exact wpAny_setField gT t8 lt (wpAny_throw (fin _))
  cases use <;> exact go
theorem comp_raise {fp : List Addr} {H3 H' : Hp} {s3 s' : Shared} {σ' : St} {c : Str} {e acc : Value} {E0 : Value → Shared → Prop} {use : Option (Value → Sem Unit)} {Q : Value → Shared → Prop} (fr : FrOk X) (I3 : Inv X pins σ H3 s3) (f3 : ∀ b ∈ fp, FpOk X pins H3 b)
    (rz : Raised (compX X scope x cs s3.heap.objs.size s3 H3 fp (X.pn ++ pins) E0) σ' H' c e s') (k : ∀ s5, Raised X σ H' c e s5 → X.xe e s5) :
    notedBy (model X.prog X.w) X.A (compEnvC scope (clF X.env scope.names []) s3.heap.objs.size X.env) (fun e s' => compPost (model X.prog X.w) X.A X.xe use Q acc s3.heap.objs.size (.error e) s') e s' := by
  obtain ⟨env, outer, L, hst, hf, hfe⟩ := fr
  obtain ⟨Cl, pins', Hc, sc, hC, J, r⟩ := rz
  have Io : Inv X pins σ Hc sc := comp_end I3 f3 J
  have fC : FpOk X pins Hc s3.heap.objs.size := I3.fpOk (Nat.le_refl _) J.free
  obtain ⟨mm, ns, _⟩ := id J.loc
  have hfr : X.A.frames = some (env :: outer) := by rw [Io.ok.frames, hst]
  unfold notedBy
  rw [note_env (env' := env) (show (compEnvC scope (clF X.env scope.names []) s3.heap.objs.size X.env).frame = env.frame from hfe.trans hf.symm)]
  rcases r with ⟨a, a0, nt, B, ch, rfl, os, bare, hch, un, hok, fl, cov⟩ | ⟨rfl, a, args, rfl, ho, hg, M⟩
  · have fl' : B.StaysIn s'.heap ∧ B.get? a = none ∧ s'.heap.FunFrames B X.stack ∧ TrX s'.heap B a (.ref Cl) a0 nt := fl
    rw [hst] at fl'
    refine note_any hfr hf fl' fun h4 hd4 up4 => ?_
    rw [← hst] at hd4
    refine noted_post hC Io fC ns os bare (fun b hb => ?_) (fun z => (hch _ z).2.1 rfl) un hok hd4 up4 cov k
    obtain ⟨h1, _, _, h4, _⟩ := hch b hb
    rcases h4 with z | z
    · exact ⟨h1, (f3 b z).2⟩
    · exact I3.fpOk z h1
  · have fs : sc.heap.FunFrames (PySem.W.hideAll sc.heap (frs X.stack)) (env :: outer) := by
      rw [← hst]
      exact PySem.W.funFrames_hide Io.stack fun env he b hb => List.mem_filterMap.mpr ⟨env, he, hb⟩
    refine note_made (base := PySem.W.hideAll sc.heap (frs X.stack)) hfr hf (fun b o q => PySem.W.of_hideAll _ q) fs M fun h4 a0 hd4 up4 => ?_
    rw [← hst] at hd4
    exact noted_post (ch := []) hC Io fC ns ho (by rw [hg]; exact Io.bare) (fun b z => by cases z) (by simp) (Un.kept M.keeps) (hok_hide Io.hok Io.stkFree) hd4 up4 (fun b o q hb _ => ⟨o, PySem.W.hideAll_get _ q hb, fun _ => rfl⟩) k
end
structure TurnY (Y : Cx → Prop) (P : Program) (w : World) (K : PySem.W.Frag) (tg : Expr) (J : It) (fp : List Addr) (it : Addr) (tn : Nat → Heap → Prop) : Prop where
  obj : ∀ i h, tn i h → ∀ b ∈ fp, ∃ o, h.get? b = some o ∧ ∀ v, o.data ≠ .cell v
  keep : ∀ i h h', tn i h → (∀ b ∈ fp, ∀ o, h.get? b = some o → h'.get? b = some o) → tn i h'
  item : ∀ (X : Cx), X.prog = P → X.w = w → X.K = K → Y X → ∀ (i : Nat) (pins : List (Addr × Obj)) (s : Shared) (σ : St) (H : Hp) (E : Value → Shared → Prop), Inv X pins σ H s → (∀ b ∈ fp, FpOk X pins H b) → tn i s.heap → J.go i H → wpAny (model P w) X.A (pyNext (.ref it)) (fun r s1 => ∃ u, r = some u ∧
    wpAny (model P w) X.A (letOwnedTupleGo tg (.ref it) u) (fun _ s2 => ∃ x H', Inv X pins σ H' s2 ∧ RelV x u ∧ J.yld i H x H' ∧ tn (i + 1) s2.heap ∧ ∀ b ∈ fp, H' b = none) E s1) E s
  done : ∀ (X : Cx), X.prog = P → X.w = w → X.K = K → Y X → ∀ (i : Nat) (pins : List (Addr × Obj)) (s : Shared) (σ : St) (H : Hp) (E : Value → Shared → Prop), Inv X pins σ H s → (∀ b ∈ fp, FpOk X pins H b) → tn i s.heap → J.stop i H → wpAny (model P w) X.A (pyNext (.ref it)) (fun r s1 => r = none ∧ Inv X pins σ H s1) E s
  self : ∀ (A : Around) (i : Nat) (s : Shared) (Q : Value → Shared → Prop) (E : Value → Shared → Prop), tn i s.heap → Q (.ref it) s → wpAny (model P w) A (pyIter (.ref it)) Q E s
abbrev Calm (X : Cx) : Prop := X.calm = true
theorem _root_.L2.Turn.y {P : Program} {w : World} {K : PySem.W.Frag} {tg : Expr} {J : It} {fp : List Addr} {it : Addr} {tn : Nat → Heap → Prop} (T : Turn P w K tg J fp it tn) : TurnY Calm P w K tg J fp it tn := ⟨T.obj, T.keep, T.item, T.done, T.self⟩
def YIn (Y : Cx → Prop) (X : Cx) : Prop := ∀ {pins : List (Addr × Obj)} {σ : St} {H : Hp} {s : Shared} (scope : Scope) (x : Str) (cs : Caps) (C : Addr) (s0 : Shared) (fp : List Addr) (pn : List (Addr × Obj)) (E : Value → Shared → Prop), Inv X pins σ H s → Y (compX X scope x cs C s0 H fp pn E)
theorem yin_calm {X : Cx} (hc : X.calm = true) : YIn Calm X := fun _ _ _ _ _ _ _ _ _ => hc
def JTs (X : Cx) (ifs : List Expr) (g : GT) : Prop := ∀ (ρ : Rho) (st : Hs) (σ : St) (H : Hp) (m : Mp) (Q : Bool → Hp → Prop), Sim X.K m st H → RelEnv X.K m H ρ σ → PostT X σ m H (g ρ st) Q → ∀ (pins : List (Addr × Obj)) (s : Shared), Inv X pins σ H s →
  wpAny (model X.prog X.w) X.A (forIn ifs true fun c r => if r = true then do let ok ← isTrue c X.env (eval c X.env); pure (ForInStep.yield ok) else pure (ForInStep.yield r)) (TP X pins σ Q) X.xe s
section
variable {X : Cx}
theorem jts_nil : JTs X [] (fun _ st => .ok true st) := fun ρ st σ H m Q S R p pins s I => wpAny_tests_nil ⟨H, I, p m H Ext.refl S⟩
theorem jts_one {c : Expr} {g : GT} (h : JT X c g) : JTs X [c] g := fun ρ st σ H m Q S R p pins s I => wpAny_tests_one (h ρ st σ H m Q S R p pins s I)
theorem comp_block {pins : List (Addr × Obj)} {σ : St} {ρ : Rho} {scope : Scope} {x : Str} {cs : Caps} {px pos : Pos} {elt iter : Expr} {ifs : List Expr} {gt : GT} {ge : GE} {ck : Hs → Prop} {ws : List Wv} {E : Value → Shared → Prop}
    {use : Option (Value → Sem Unit)} {Q : Value → Shared → Prop} {res : Re Unit}
    {it : Addr} {fp : List Addr} {tn : Nat → Heap → Prop} {J' : It} {H2 : Hp} {s2 : Shared} {m1 : Mp} {st1 : Hs} {Y : Cx → Prop} (fr : FrOk X) (S : CScope X scope x cs) (hY : YIn Y X) (hH : HdC X) (I2 : Inv X pins σ H2 s2) (T : TurnY Y X.prog X.w X.K (.Name x px) J' fp it tn) (t0 : tn 0 s2.heap) (f2 : ∀ b ∈ fp, FpOk X pins H2 b)
    (S1 : Sim X.K m1 st1 H2) (R : RelEnv X.K m1 H2 ρ σ) (hck : ck (st1 ++ [.lst []])) (run : compZ ck (fun w => gt (some w :: capR cs ρ)) (fun w => ge (some w :: capR cs ρ)) st1.length ws (st1 ++ [.lst []]) = res) (nb : res ≠ .bad) (hx : ∀ c stE, res = .err c stE → XOk X σ m1 H2 c stE)
    (hE : ∀ C s0 H0 pn E, HdA X.A H0 → JE (compX X scope x cs C s0 H0 fp pn E) elt ge) (hT : ∀ C s0 H0 pn E, HdA X.A H0 → JTs (compX X scope x cs C s0 H0 fp pn E) ifs gt)
    (hgo : ∀ (k : Nat) (H : Hp) (m' : Mp) (st : Hs), Ext X.K m1 H2 m' H → Sim X.K m' st H → ck st → k < ws.length → J'.go k H) (hstop : ∀ (k : Nat) (H : Hp) (m' : Mp) (st : Hs), Ext X.K m1 H2 m' H → Sim X.K m' st H → ck st → k = ws.length → J'.stop k H)
    (hy : ∀ (k : Nat) (hk : k < ws.length) (H : Hp) (v : V) (H' : Hp) (m' : Mp) (st : Hs), Ext X.K m1 H2 m' H → Sim X.K m' st H → ck st → J'.yld k H v H' → H' = H ∧ RelW X.K m' H ws[k] v)
    (fin : ∀ (stF : Hs), res = .ok () stF → ∀ (D C : Addr) (mm : Str → Option Value) (m' : Mp) (H' : Hp) (s' : Shared), Ext X.K m1 H2 m' H' → Sim X.K m' stF H' → m'[st1.length]? = some D → Inv X pins σ H' s' → FpOk X pins H' C → s'.heap.Ns C mm → (∀ y c, X.env.cells.lookup y = some c → c ≠ C) → compPost (model X.prog X.w) X.A X.xe use Q (.ref D) C (.ok .next) s') :
    wpAny (model X.prog X.w) X.A (newList []) (fun acc s3 => wpAny (model X.prog X.w) X.A (newFunctionEnv scope X.env.globals (clF X.env scope.names []) [] X.env.qual none .none (some X.env)) (fun cenv s4 =>
      codeAny (model X.prog X.w) X.A (.compStart (.ListComp elt [⟨.Name x px, iter, ifs, 0⟩] scope pos) 0 (.ref it) acc { cenv with scope := relabel scope X.env }) (compPost (model X.prog X.w) X.A X.xe use Q acc cenv.locals) s4) E s3) E s2 := by
  refine wpAny_newList ?_
  have I3 : Inv X pins σ (upd H2 s2.heap.objs.size (.lst [])) { s2 with heap := s2.heap.push { cls := .type "list", data := .seq ([] : List Value).toArray } } := I2.lnew (ys := []) (its := []) (t' := s2.toks) .nil (Nat.zero_le _)
  have lt2 : ∀ b ∈ fp, b < s2.heap.objs.size := fun b hb => by
    obtain ⟨o, e, _⟩ := T.obj _ _ t0 b hb
    exact Heap.lt_size e
  have hD : H2 s2.heap.objs.size = none := I2.fresh
  have f3 : ∀ b ∈ fp, FpOk X pins (upd H2 s2.heap.objs.size (.lst [])) b := fun b hb => ⟨by rw [upd_ne (Nat.ne_of_lt (lt2 b hb))]; exact (f2 b hb).1, (f2 b hb).2⟩
  have S3 := S1.alloc (ws := []) (xs := []) hD RelWs.nil
  have e3 : Ext X.K m1 H2 (m1 ++ [s2.heap.objs.size]) (upd H2 s2.heap.objs.size (.lst [])) := Ext.more.trans (Ext.upd (.inl hD))
  have lab : (m1 ++ [s2.heap.objs.size])[st1.length]? = some s2.heap.objs.size := by
    rw [← S1.len, List.getElem?_append_right (Nat.le_refl _), Nat.sub_self]; rfl
  generalize hs3 : ({ s2 with heap := s2.heap.push { cls := .type "list", data := .seq ([] : List Value).toArray } } : Shared) = s3 at I3
  have k23 : ∀ b o, s2.heap.get? b = some o → s3.heap.get? b = some o := fun b o e => by rw [← hs3]; exact Heap.get?_push_of_some _ e
  have lt3 : ∀ b ∈ fp, b < s3.heap.objs.size := fun b hb => by
    obtain ⟨o, e, _⟩ := T.obj _ _ t0 b hb
    exact Heap.lt_size (k23 b o e)
  generalize hDD : s2.heap.objs.size = D at *
  generalize hH3 : upd H2 D (.lst []) = H3 at *
  generalize hm3 : m1 ++ [D] = m3 at *
  have R3 : RelEnv X.K m3 H3 (capR cs ρ) (capS cs σ) := (cap_rel cs R).mono e3
  generalize hrr : capR cs ρ = ρc at *
  generalize hss : capS cs σ = σc at *
  refine wpAny_newFunctionEnv S.cell (fun _ z => nomatch z) (fun h4 ns4 sb4 => ?_) S.kind
  have Ic := fun E => comp_inv (E := E) (tk := s3.toks + ([] : List (Str × Value)).length) S I3 f3 lt3 ns4 sb4
  have k34 : ∀ b o, s3.heap.get? b = some o → h4.get? b = some o := fun b o e => (sb4.2 b (Nat.ne_of_lt (Heap.lt_size e))).trans (Heap.get?_push_of_some _ e)
  have t4 : tn 0 h4 := T.keep _ _ _ t0 fun b _ o e => k34 b o (k23 b o e)
  let EX : Value → Shared → Prop := notedBy (model X.prog X.w) X.A (compEnvC scope (clF X.env scope.names []) s3.heap.objs.size X.env) fun e s' => compPost (model X.prog X.w) X.A X.xe use Q (.ref D) s3.heap.objs.size (.error e) s'
  let Xc := compX X scope x cs s3.heap.objs.size s3 H3 fp (X.pn ++ pins) EX
  have noted : ∀ {σ' : St} {m : Mp} {H : Hp} {c : Str} {st : Hs}, Ext X.K m1 H2 m H → res = .err c st → XOk Xc σ' m H c st := fun {σ' m H c st} e0 er m' H' e s' ex S' rz => comp_raise fr I3 f3 rz fun s5 r5 => hx c st er m' H' e s5 (e0.trans ex) S' r5
  have vis : Xc.env.scope.names.lookup x = some .local := lookup_relabel_local S.var
  have fpc : ∀ (H' : Hp), (∀ b ∈ fp, H' b = none) → ∀ b ∈ fp, FpOk Xc [] H' b := fun H' hn b hb => ⟨hn b hb, Nat.ne_of_lt (lt3 b hb), fp_stack I3 (f3 b hb), .inl hb, fun y c e => (f3 b hb).2.2.2.2.1 y c (S.sub I3.ok e), fun p hp => (f2 b hb).2.2.2.2.2 p (by have hp' : p ∈ (X.pn ++ pins) ++ [] := hp; rw [List.append_nil] at hp'; exact hp')⟩
  let Pv : Nat → Shared → Prop := fun k s' => ∃ z H' st m', Inv Xc [] (z :: σc) H' s' ∧ tn k s'.heap ∧ (∀ b ∈ fp, H' b = none) ∧ Ext X.K m3 H3 m' H' ∧ Sim X.K m' st H' ∧ ck st ∧ compZ ck (fun w => gt (some w :: ρc)) (fun w => ge (some w :: ρc)) st1.length (ws.drop k) st = res
  have loop : ∀ s4 : Shared, Pv 0 s4 → codeAny (model X.prog X.w) X.A (.compLoop (.ListComp elt [⟨.Name x px, iter, ifs, 0⟩] scope pos) 0 (.ref it) (.ref D) (compEnvC scope (clF X.env scope.names []) s3.heap.objs.size X.env)) (compPost (model X.prog X.w) X.A X.xe use Q (.ref D) s3.heap.objs.size) s4 := fun s4 p0 => by
    refine codeAny_compLoop_tests (fun n s' => ∃ k, n = ws.length - k ∧ k ≤ ws.length ∧ Pv k s') ?_ ws.length ⟨0, by simp, Nat.zero_le _, p0⟩
    rintro n s5 ⟨k, rfl, hk, z5, H5, st5, m5, I5, tn5, fr5, e5, S5, c5, run5⟩
    have e15 := e3.trans e5
    by_cases hlt : k < ws.length
    · refine thn (T.item Xc rfl rfl rfl (hY _ _ _ _ _ _ _ _ I3) k [] s5 (z5 :: σc) H5 _ I5 (fpc H5 fr5) tn5 (hgo k H5 m5 st5 e15 S5 c5 hlt)) fun r s6 h6 => ?_
      obtain ⟨u, rfl, h6⟩ := h6
      show wpAny (model X.prog X.w) X.A (pure () >>= fun _ => assign (.Name x px) Xc.env u) _ _ s6
      refine wpAny_bind (thn h6 fun _ s7 h7 => ?_)
      obtain ⟨v, H7, I7, rv, yl, tn7, fr7⟩ := h7
      obtain ⟨rfl, rw7⟩ := hy k hlt H5 v H7 m5 st5 e15 S5 c5 yl
      have I7' := I7.pinned (fpc H7 fr7) (T.obj _ _ tn7)
      refine wpAny_assign_Name (store_ok (i := 0) I7' S.nd rfl (.inl vis) rv (fun s8 I8 => ?_) (.inr vis))
      have I8' : Inv Xc ([] ++ pinsAt fp s7.heap) (some v :: σc) H7 s8 := I8
      have R8 : RelEnv X.K m5 H7 (some ws[k] :: ρc) (some v :: σc) := by
        have R5 := R3.mono e5
        refine ⟨by simp [R5.len], fun i w e => ?_⟩
        cases i with
        | zero =>
          cases e
          exact ⟨v, rfl, rw7⟩
        | succ i => exact R5.get i w e
      have ed : ws.drop k = ws[k] :: ws.drop (k + 1) := List.drop_eq_getElem_cons hlt
      rw [ed] at run5
      unfold compZ at run5
      have back : ∀ {H' : Hp} {s' : Shared} {m' : Mp} {st : Hs}, Inv Xc ([] ++ pinsAt fp s7.heap) (some v :: σc) H' s' → Ext X.K m3 H3 m' H' → Sim X.K m' st H' → ck st → compZ ck (fun w => gt (some w :: ρc)) (fun w => ge (some w :: ρc)) st1.length (ws.drop (k + 1)) st = res → ∃ n', n' < ws.length - k ∧ ∃ k', n' = ws.length - k' ∧ k' ≤ ws.length ∧ Pv k' s' :=
        fun {H' s' m' st} I' e' S' c' r' => ⟨ws.length - (k + 1), by omega, k + 1, rfl, hlt, some v, H', st, m', I'.unpinned, T.keep _ _ _ tn7 fun b hb o e => (I'.pin (b, o) (List.mem_append_right _ (List.mem_append_right _ (mem_pinsAt hb e)))).1, fun b hb => by
          obtain ⟨o, e, _⟩ := T.obj _ _ tn7 b hb
          exact (I'.pin (b, o) (List.mem_append_right _ (List.mem_append_right _ (mem_pinsAt hb e)))).2.1, e', S', c', r'⟩
      cases eg : gt (some ws[k] :: ρc) st5 with
      | err c st6 =>
        rw [eg] at run5
        refine wpAny_mono (hT s3.heap.objs.size s3 H3 (X.pn ++ pins) EX (hH.at I3) (some ws[k] :: ρc) st5 (some v :: σc) H7 m5 (fun _ _ => False) S5 R8 (by rw [eg]; exact noted e15 run5.symm) ([] ++ pinsAt fp s7.heap) s8 I8') (fun _ _ h9 => ?_) fun _ _ z => z
        obtain ⟨_, _, z⟩ := h9
        exact z.elim
      | bad => rw [eg] at run5; exact absurd run5.symm nb
      | ok b st6 =>
        rw [eg] at run5
        have tst := hT s3.heap.objs.size s3 H3 (X.pn ++ pins) EX (hH.at I3) (some ws[k] :: ρc) st5 (some v :: σc) H7 m5 (fun b' H' => b' = b ∧ ∃ m', Ext X.K m5 H7 m' H' ∧ Sim X.K m' st6 H') S5 R8 (by rw [eg]; exact fun m' H' e' S' => ⟨rfl, m', e', S'⟩) ([] ++ pinsAt fp s7.heap) s8 I8'
        refine wpAny_mono tst (fun ok s9 h9 => ?_) fun _ _ z => z
        obtain ⟨H9, I9, rfl, m9, e9, S9⟩ := h9
        cases ok with
        | false =>
          dsimp only at run5
          by_cases c6 : ck st6
          · rw [if_pos c6] at run5
            rw [if_neg Bool.false_ne_true]
            exact back I9 (e5.trans e9) S9 c6 run5
          · rw [if_neg c6] at run5; exact absurd run5.symm nb
        | true =>
          dsimp only at run5
          rw [if_pos rfl]
          cases ee : ge (some ws[k] :: ρc) st6 with
          | err c st7 =>
            rw [ee] at run5
            refine wpAny_mono (hE s3.heap.objs.size s3 H3 (X.pn ++ pins) EX (hH.at I3) (some ws[k] :: ρc) st6 (some v :: σc) H9 m9 (fun _ _ => False) S9 (R8.mono e9) (by rw [ee]; exact noted (e15.trans e9) run5.symm) ([] ++ pinsAt fp s7.heap) s9 I9) (fun _ _ h10 => ?_) fun _ _ z => z
            obtain ⟨_, _, _, _, z⟩ := h10
            exact z.elim
          | bad => rw [ee] at run5; exact absurd run5.symm nb
          | ok w st7 =>
            rw [ee] at run5
            dsimp only at run5
            cases ea : mApp (.ref st1.length) w st7 with
            | err c st8 => rw [ea] at run5; exact absurd run5.symm nb
            | bad => rw [ea] at run5; exact absurd run5.symm nb
            | ok w2 st8 =>
              rw [ea] at run5
              dsimp only at run5
              by_cases c8 : ck st8
              · rw [if_pos c8] at run5
                have el := hE s3.heap.objs.size s3 H3 (X.pn ++ pins) EX (hH.at I3) (some ws[k] :: ρc) st6 (some v :: σc) H9 m9 (fun v' H' => ∃ m', Ext X.K m9 H9 m' H' ∧ Sim X.K m' st7 H' ∧ RelW X.K m' H' w v') S9 (R8.mono e9) (by rw [ee]; exact fun v' m' H' e' S' r' => ⟨m', e', S', r'⟩) ([] ++ pinsAt fp s7.heap) s9 I9
                refine wpAny_mono el (fun u2 s10 h10 => ?_) fun _ _ z => z
                obtain ⟨v2, H10, I10, r2, m10, e10, S10, rw10⟩ := h10
                obtain ⟨r, h1, h2⟩ := mw_app (X := Xc)
                have eA := (e5.trans e9).trans e10
                have ro : RelW X.K m10 H10 (.ref st1.length) (.ref D) := by unfold RelW; exact ⟨D, rfl, eA.pre _ _ lab⟩
                have rd := h2 (.ref st1.length) w (.ref D) v2 st7 H10 m10 (fun _ H' => ∃ m', Ext X.K m10 H10 m' H' ∧ Sim X.K m' st8 H') S10 ro rw10 (by rw [ea]; exact fun v' m' H' e' S' r' => ⟨m', e', S'⟩)
                refine wpAny_mono (h1 ([] ++ pinsAt fp s7.heap) s10 (some v :: σc) H10 (.ref D) [v2] (.ref D) [u2] _ I10 rfl (.cons r2 .nil) rd) (fun _ s11 h11 => ?_) fun _ _ z => z
                obtain ⟨_, H11, I11, _, m11, e11, S11⟩ := h11
                exact back I11 (eA.trans e11) S11 c8 run5
              · rw [if_neg c8] at run5; exact absurd run5.symm nb
    · have ek : k = ws.length := by omega
      subst ek
      refine thn (T.done Xc rfl rfl rfl (hY _ _ _ _ _ _ _ _ I3) _ [] s5 (z5 :: σc) H5 _ I5 (fpc H5 fr5) tn5 (hstop _ H5 m5 st5 e15 S5 c5 rfl)) fun r s6 h6 => ?_
      obtain ⟨rfl, I6⟩ := h6
      rw [List.drop_length] at run5
      obtain ⟨mm, ns6, _⟩ := id I6.loc
      have fC := I3.fpOk (H' := H5) (Nat.le_refl _) I6.free
      exact fin st5 run5.symm D _ mm m5 H5 _ e15 S5 (e5.pre _ _ lab) (comp_end I3 f3 I6) fC ns6 fC.2.2.2.2.1
  have p0 : Pv 0 { s3 with heap := h4, toks := s3.toks + ([] : List (Str × Value)).length } := ⟨none, H3, st1 ++ [Ob.lst []], m3, hss ▸ Ic EX, t4, fun b hb => (f3 b hb).1, Ext.refl, S3, hck, by rw [List.drop_zero]; exact run⟩
  exact codeAny_compStart_list (loop _ p0) (T.self X.A 0 _ _ _ t4 (loop _ p0))
end
end J
namespace J
open PySem PySem.Spec PyProof.Rows L2
abbrev Wk := Option Nat × List Wv
def ckOf (w : Wk) (st : Hs) : Prop := match w.1 with
  | some l => lstOf st l = some w.2
  | none => True
structure ItFor (X : Cx) (w : Wk) (m1 : Mp) (H1 : Hp) (J' : It) : Prop where
  go : ∀ (k : Nat) (H : Hp) (m' : Mp) (st : Hs), Ext X.K m1 H1 m' H → Sim X.K m' st H → ckOf w st → k < w.2.length → J'.go k H
  stop : ∀ (k : Nat) (H : Hp) (m' : Mp) (st : Hs), Ext X.K m1 H1 m' H → Sim X.K m' st H → ckOf w st → k = w.2.length → J'.stop k H
  yld : ∀ (k : Nat) (hk : k < w.2.length) (H : Hp) (v : V) (H' : Hp) (m' : Mp) (st : Hs), Ext X.K m1 H1 m' H → Sim X.K m' st H → ckOf w st → J'.yld k H v H' → H' = H ∧ RelW X.K m' H w.2[k] v
abbrev GI := Rho → Hs → Re Wk
def PIEY (Y : Cx → Prop) (X : Cx) (pins : List (Addr × Obj)) (σ : St) (tg : Expr) (R : It → Hp → Prop) (itv : Value) (s2 : Shared) : Prop :=
  ∃ (it : Addr) (fp : List Addr) (tn : Nat → Heap → Prop) (J : It) (H' : Hp), itv = .ref it ∧ Inv X pins σ H' s2 ∧ TurnY Y X.prog X.w X.K tg J fp it tn ∧ tn 0 s2.heap ∧ (∀ b ∈ fp, FpOk X pins H' b) ∧ R J H'
def PIY (Y : Cx → Prop) (X : Cx) (tg iter : Expr) (wi : TI) : Prop := ∀ (pins : List (Addr × Obj)) (s : Shared) (σ : St) (H : Hp) (R : It → Hp → Prop), Inv X pins σ H s → wi σ H R →
  wpAny (model X.prog X.w) X.A (eval iter X.env) (fun v s1 => wpAny (model X.prog X.w) X.A (pyIter v) (PIEY Y X pins σ tg R) X.xe s1) X.xe s
theorem _root_.L2.PI.y {X : Cx} {tg iter : Expr} {wi : TI} (h : PI X tg iter wi) : PIY Calm X tg iter wi := fun pins s σ H R I q => thn (h pins s σ H R I q) fun _ _ h1 => thn h1 fun _ _ h2 =>
  let ⟨it, fp, tn, J, H', e, I', T, r⟩ := h2; ⟨it, fp, tn, J, H', e, I', T.y, r⟩
def JIY (Y : Cx → Prop) (X : Cx) (tg iter : Expr) (gi : GI) : Prop := ∃ wi, PIY Y X tg iter wi ∧ ∀ (ρ : Rho) (st : Hs) (σ : St) (H : Hp) (m : Mp) (R : It → Hp → Prop), Sim X.K m st H → RelEnv X.K m H ρ σ →
  PostG X σ m H (gi ρ st) (fun w st1 => ∀ (m1 : Mp) (H1 : Hp) (J' : It), Ext X.K m H m1 H1 → Sim X.K m1 st1 H1 → ckOf w st1 → ItFor X w m1 H1 J' → R J' H1) → wi σ H R
def JI (X : Cx) (tg iter : Expr) (gi : GI) : Prop := ∃ wi, PI X tg iter wi ∧ ∀ (ρ : Rho) (st : Hs) (σ : St) (H : Hp) (m : Mp) (R : It → Hp → Prop), Sim X.K m st H → RelEnv X.K m H ρ σ →
  PostG X σ m H (gi ρ st) (fun w st1 => ∀ (m1 : Mp) (H1 : Hp) (J' : It), Ext X.K m H m1 H1 → Sim X.K m1 st1 H1 → ckOf w st1 → ItFor X w m1 H1 J' → R J' H1) → wi σ H R
theorem JI.y {X : Cx} {tg iter : Expr} {gi : GI} (h : JI X tg iter gi) : JIY Calm X tg iter gi := let ⟨wi, h1, h2⟩ := h; ⟨wi, h1.y, h2⟩
def seqW (w : Wv) (st : Hs) : Re Wk := match w with
  | .ref l => (match lstOf st l with | some ws => .ok (some l, ws) st | none => .bad)
  | .tup ws => .ok (none, ws) st
  | .ktp ws => .ok (none, ws) st
  | _ => .bad
def giSeq (g : GE) : GI := fun ρ st => (g ρ st).bind seqW
section
variable {X : Cx}
theorem ji_seq {tg iter : Expr} {g : GE} (h : JE X iter g) : JI X tg iter (giSeq g) := by
  refine ⟨_, pi_seq pe_SE, fun ρ st σ H m Q S R p => ?_⟩
  refine h.go S R (PostG.bind p) fun w st1 v m1 H1 p1 e1 S1 rw' => ?_
  cases w with
  | ref l =>
    unfold RelW at rw'
    obtain ⟨a, rfl, hla⟩ := rw'
    unfold seqW at p1
    cases el : lstOf st1 l with
    | none => simp only [el] at p1; exact False.elim p1
    | some ws =>
      simp only [el] at p1
      obtain ⟨xs0, q0, _⟩ := S1.read hla el
      refine ⟨a, rfl, .inl ⟨⟨xs0, q0⟩, p1 m1 H1 _ e1 S1 el ⟨fun k H' m' st' e S' c hk => ?_, fun k H' m' st' e S' c hk => ?_, fun k hk H' v H'' m' st' e S' c y => ?_⟩⟩⟩
      · obtain ⟨xs, hq, rws⟩ := S'.read (e.pre _ _ hla) c
        have hx' : k < xs.length := by rw [← rws.length]; exact hk
        exact ⟨xs, xs[k], hq, by simp [hx']⟩
      · obtain ⟨xs, hq, rws⟩ := S'.read (e.pre _ _ hla) c
        exact ⟨xs, hq, by rw [← rws.length, hk]; exact Nat.le_refl _⟩
      · obtain ⟨xs, hq, rws⟩ := S'.read (e.pre _ _ hla) c
        obtain ⟨ee, y⟩ := y
        refine ⟨ee, ?_⟩
        obtain ⟨x', ex', rx'⟩ := rws.get (i := k) (w := ws[k]) (List.getElem?_eq_getElem hk)
        rw [y xs hq] at ex'
        cases ex'
        exact rx'
  | tup ws =>
    unfold RelW at rw'
    obtain ⟨a, xs, rfl, hq, rws⟩ := rw'
    refine ⟨a, rfl, .inr ⟨⟨xs, SqT.of hq⟩, p1 m1 H1 _ e1 S1 trivial ⟨fun k H' m' st' e S' c hk => ?_, fun k H' m' st' e S' c hk => ?_, fun k hk H' v H'' m' st' e S' c y => ?_⟩⟩⟩
    · have hx' : k < xs.length := by rw [← rws.length]; exact hk
      exact ⟨xs, xs[k], SqT.of (e.tup _ _ hq), by simp [hx']⟩
    · exact ⟨xs, SqT.of (e.tup _ _ hq), by rw [← rws.length, hk]; exact Nat.le_refl _⟩
    · obtain ⟨ee, y⟩ := y
      refine ⟨ee, ?_⟩
      obtain ⟨x', ex', rx'⟩ := (RelWs.mono e _ _ rws).get (i := k) (w := ws[k]) (List.getElem?_eq_getElem hk)
      rw [y xs (SqT.of (e.tup _ _ hq))] at ex'
      cases ex'
      exact rx'
  | ktp ws =>
    unfold RelW at rw'
    obtain ⟨a, xs, rfl, hq, rws⟩ := rw'
    refine ⟨a, rfl, .inr ⟨⟨xs, .inr hq⟩, p1 m1 H1 _ e1 S1 trivial ⟨fun k H' m' st' e S' c hk => ?_, fun k H' m' st' e S' c hk => ?_, fun k hk H' v H'' m' st' e S' c y => ?_⟩⟩⟩
    · have hx' : k < xs.length := by rw [← rws.length]; exact hk
      exact ⟨xs, xs[k], .inr hq, by simp [hx']⟩
    · exact ⟨xs, .inr hq, by rw [← rws.length, hk]; exact Nat.le_refl _⟩
    · obtain ⟨ee, y⟩ := y
      refine ⟨ee, ?_⟩
      obtain ⟨x', ex', rx'⟩ := (RelWs.mono e _ _ rws).get (i := k) (w := ws[k]) (List.getElem?_eq_getElem hk)
      rw [y xs (.inr hq)] at ex'
      cases ex'
      exact rx'
  | _ => exact False.elim p1
theorem it_rng {lo : Int} {n : Nat} {m1 : Mp} {H1 : Hp} : ItFor X (none, rngW lo n) m1 H1 (Itr lo n) where
  go := fun k H m' st e S c hk => by
    have : (rngW lo n).length = n := rngW_len
    have hk' : k < (rngW lo n).length := hk
    rw [this] at hk'; exact hk'
  stop := fun k H m' st e S c hk => by
    have : (rngW lo n).length = n := rngW_len
    have hk' : k = (rngW lo n).length := hk
    rw [this] at hk'; exact Nat.le_of_eq hk'.symm
  yld := fun k hk H v H' m' st e S c y => by
    obtain ⟨y1, y2⟩ := y
    refine ⟨y1, ?_⟩
    have q : (rngW lo n)[k]'hk = .int (lo + k) := rngW_get hk
    show RelW X.K m' H ((rngW lo n)[k]'hk) v
    rw [q, y2]
    exact mkInt
noncomputable def rng1W (ws : List Wv) (st : Hs) : Re Wk := match ws with
  | [.int j] => if CRng j then .ok (none, rngW 0 j.toNat) st else .bad
  | _ => .bad
noncomputable def rng2W (ws : List Wv) (st : Hs) : Re Wk := match ws with
  | [.int a, .int j] => if CRng a ∧ CRng j then .ok (none, rngW a (j - a).toNat) st else .bad
  | _ => .bad
noncomputable def giR1 (g : GA) : GI := fun ρ st => (g ρ st).bind rng1W
noncomputable def giR2 (g : GA) : GI := fun ρ st => (g ρ st).bind rng2W
theorem ji_r1 {tg a : Expr} {ga : GA} {p q : Pos} (hg : Gl X "range") (hm : X.mg "range" = none) (ha : JA X [a] ga) (hst : starEach [a] X.env = [(false, eval a X.env)]) : JI X tg (.Call (.Name "range" p) [a] [] q) (giR1 ga) := by
  refine ⟨_, pi_range1 hg hm pa_SA hst, fun ρ st σ H m Q S R p => ?_⟩
  refine ha.go S R (PostG.bind p) fun ws st1 vs m1 H1 p1 e1 S1 rs => ?_
  match ws, rs, p1 with
  | [], rs, p1 => exact False.elim p1
  | x :: y :: t, rs, p1 => cases x <;> exact False.elim p1
  | [x], rs, p1 =>
    obtain ⟨v, rfl, r1⟩ := rel1 rs
    cases x with
    | int j =>
      cases relInt r1
      unfold rng1W at p1
      by_cases c : CRng j
      · simp only [if_pos c] at p1
        exact ⟨j, rfl, c.1, c.2, p1 m1 H1 _ e1 S1 trivial it_rng⟩
      · simp only [if_neg c] at p1; exact False.elim p1
    | _ => exact False.elim p1
theorem ji_r2 {tg a b : Expr} {ga : GA} {p q : Pos} (hg : Gl X "range") (hm : X.mg "range" = none) (ha : JA X [a, b] ga) (hst : starEach [a, b] X.env = [(false, eval a X.env), (false, eval b X.env)]) (hst2 : starEach [b] X.env = [(false, eval b X.env)]) : JI X tg (.Call (.Name "range" p) [a, b] [] q) (giR2 ga) := by
  refine ⟨_, pi_range2 hg hm pa_SA hst hst2, fun ρ st σ H m Q S R p => ?_⟩
  refine ha.go S R (PostG.bind p) fun ws st1 vs m1 H1 p1 e1 S1 rs => ?_
  match ws, rs, p1 with
  | [], rs, p1 => exact False.elim p1
  | [x], rs, p1 => cases x <;> exact False.elim p1
  | x :: y :: z :: t, rs, p1 => cases x <;> cases y <;> exact False.elim p1
  | [x, y], rs, p1 =>
    obtain ⟨v, v', rfl, r1, r2⟩ := rel2 rs
    cases x with
    | int a =>
      cases y with
      | int j =>
        cases relInt r1; cases relInt r2
        unfold rng2W at p1
        by_cases c : CRng a ∧ CRng j
        · simp only [if_pos c] at p1
          exact ⟨a, j, rfl, ⟨c.1.1, c.1.2, c.2.1, c.2.2⟩, p1 m1 H1 _ e1 S1 trivial it_rng⟩
        · simp only [if_neg c] at p1; exact False.elim p1
      | _ => exact False.elim p1
    | _ => cases y <;> exact False.elim p1
def gBadI : GI := fun _ _ => .bad
theorem pi_never {tg iter : Expr} : PI X tg iter (fun _ _ _ => False) := fun _ _ _ _ _ _ h => h.elim
theorem ji_bad {tg iter : Expr} : JI X tg iter gBadI := ⟨_, pi_never, fun ρ st σ H m Q S R p => p⟩
noncomputable def compRun (cs : Caps) (gt : GT) (ge : GE) (ρ : Rho) (w : Wk) (st : Hs) : Re Wv := match compG (ckOf w) (fun v => gt (some v :: capR cs ρ)) (fun v => ge (some v :: capR cs ρ)) st.length w.2 (st ++ [.lst []]) with
  | some stF => .ok (.ref st.length) stF
  | none => (match compZ (ckOf w) (fun v => gt (some v :: capR cs ρ)) (fun v => ge (some v :: capR cs ρ)) st.length w.2 (st ++ [.lst []]) with
    | .err c stE => .err c stE
    | _ => .bad)
noncomputable def gComp (cs : Caps) (gi : GI) (gt : GT) (ge : GE) : GE := fun ρ st => (gi ρ st).bind fun w st1 => compRun cs gt ge ρ w st1
theorem lstOf_app {st : Hs} {l : Nat} {ws : List Wv} {more : Hs} (h : lstOf st l = some ws) : lstOf (st ++ more) l = some ws := by
  unfold lstOf at h ⊢
  cases e : st[l]? with
  | none => rw [e] at h; cases h
  | some o =>
    have hl := (List.getElem?_eq_some_iff.mp e).1
    rw [List.getElem?_append_left hl, e]
    rw [e] at h
    exact h
theorem ckOf_app {w : Wk} {st more : Hs} (h : ckOf w st) : ckOf w (st ++ more) := by
  obtain ⟨o, ws⟩ := w
  cases o with
  | none => trivial
  | some l => exact lstOf_app h
theorem comp_go {scope : Scope} {x : Str} {cs : Caps} {px pos : Pos} {elt iter : Expr} {ifs : List Expr} {gi : GI} {gt : GT} {ge : GE} {use : Option (Value → Sem Unit)} {Q : Value → Shared → Prop} {P : Wv → Hs → Prop}
    {ρ : Rho} {st : Hs} {σ : St} {H : Hp} {m : Mp} {pins : List (Addr × Obj)} {s : Shared} {ps : Pos}
    {Y : Cx → Prop} (fr : FrOk X) (CS : CScope X scope x cs) (hc : YIn Y X) (hH : HdC X) (hi : JIY Y X (.Name x px) iter gi) (hE : ∀ C s0 H0 fp pn E, HdA X.A H0 → JE (compX X scope x cs C s0 H0 fp pn E) elt ge) (hT : ∀ C s0 H0 fp pn E, HdA X.A H0 → JTs (compX X scope x cs C s0 H0 fp pn E) ifs gt) (hs : ∀ x, foldedSetIterable iter X.env x = pure x)
    (S : Sim X.K m st H) (R : RelEnv X.K m H ρ σ) (I : Inv X pins σ H s) (p : PostG X σ m H (gComp cs gi gt ge ρ st) P)
    (fin : ∀ (w : Wv) (stF : Hs) (v : V) (D C : Addr) (mm : Str → Option Value) (m' : Mp) (H' : Hp) (s' : Shared), P w stF → Ext X.K m H m' H' → Sim X.K m' stF H' → RelW X.K m' H' w v → v = .ref D → Inv X pins σ H' s' → FpOk X pins H' C → s'.heap.Ns C mm → compPost (model X.prog X.w) X.A X.xe use Q (.ref D) C (.ok .next) s') :
    wpAny (model X.prog X.w) X.A (comprehension (.ListComp elt [⟨.Name x px, iter, ifs, 0⟩] scope pos) scope X.env ps (newList []) false (eval iter X.env) use) Q X.xe s := by
  obtain ⟨wi, hpi, hw⟩ := hi
  let R' : It → Hp → Prop := fun J' H1 => ∃ (w : Wk) (st1 : Hs) (m1 : Mp), PostG X σ m H (compRun cs gt ge ρ w st1) P ∧ Ext X.K m H m1 H1 ∧ Sim X.K m1 st1 H1 ∧ ckOf w st1 ∧ ItFor X w m1 H1 J'
  have hr := hw ρ st σ H m R' S R ((PostG.bind p).imp Ext.refl fun w st1 q m1 H1 J' e1 S1 c1 it1 => ⟨w, st1, m1, q, e1, S1, c1, it1⟩)
  refine wpAny_comprehension_free (g := ⟨.Name x px, iter, ifs, 0⟩) (gs := []) (cl := clF X.env scope.names []) rfl hs (clos_is (CS.has I.ok)) CS.kind (fun y hy e => by rw [CS.look y hy, e]) (thn (hpi pins s σ H R' I hr) fun v s1 h1 => thn h1 fun itv s2 h2 => ?_)
  obtain ⟨it, fp, tn, J', H1, rfl, I2, T, t0, f2, w, st1, m1, q, e1, S1, c1, it1⟩ := h2
  unfold compRun at q
  cases run : compG (ckOf w) (fun v => gt (some v :: capR cs ρ)) (fun v => ge (some v :: capR cs ρ)) st1.length w.2 (st1 ++ [.lst []]) with
  | none =>
    rw [run] at q
    dsimp only at q
    cases rz : compZ (ckOf w) (fun v => gt (some v :: capR cs ρ)) (fun v => ge (some v :: capR cs ρ)) st1.length w.2 (st1 ++ [.lst []]) with
    | ok _ _ => rw [rz] at q; exact False.elim q
    | bad => rw [rz] at q; exact False.elim q
    | err c stE =>
      rw [rz] at q
      refine comp_block (use := use) (Q := Q) fr CS hc hH I2 T t0 f2 S1 (R.mono e1) (ckOf_app c1) rz (by intro z; cases z) (fun c' stE' z => ?_) (fun C s0 H0 pn E => hE C s0 H0 fp pn E) (fun C s0 H0 pn E => hT C s0 H0 fp pn E) it1.go it1.stop it1.yld (fun stF z => by cases z)
      cases z
      exact XOk.mono q e1
  | some stF =>
    rw [run] at q
    refine comp_block (use := use) (Q := Q) fr CS hc hH I2 T t0 f2 S1 (R.mono e1) (ckOf_app c1) (compZ_of _ _ run) (by intro z; cases z) (fun c' stE' z => by cases z) (fun C s0 H0 pn E => hE C s0 H0 fp pn E) (fun C s0 H0 pn E => hT C s0 H0 fp pn E) it1.go it1.stop it1.yld ?_
    intro stF' z D C mm m' H' s' e' S' lab I' fC ns _
    cases z
    exact fin _ stF (.ref D) D C mm m' H' s' q (e1.trans e') S' (by unfold RelW; exact ⟨D, rfl, lab⟩) rfl I' fC ns
theorem je_comp {scope : Scope} {x : Str} {cs : Caps} {px pos : Pos} {elt iter : Expr} {ifs : List Expr} {gi : GI} {gt : GT} {ge : GE}
    {Y : Cx → Prop} (fr : FrOk X) (CS : CScope X scope x cs) (hc : YIn Y X) (hH : HdC X) (hi : JIY Y X (.Name x px) iter gi) (hE : ∀ C s0 H0 fp pn E, HdA X.A H0 → JE (compX X scope x cs C s0 H0 fp pn E) elt ge) (hT : ∀ C s0 H0 fp pn E, HdA X.A H0 → JTs (compX X scope x cs C s0 H0 fp pn E) ifs gt) (hs : ∀ x, foldedSetIterable iter X.env x = pure x) :
    JE X (.ListComp elt [⟨.Name x px, iter, ifs, 0⟩] scope pos) (gComp cs gi gt ge) := fun ρ st σ H m Q S R p pins s I => by
  rw [eval_ListComp]
  refine comp_go (use := none) fr CS hc hH hi hE hT hs S R I p ?_
  intro w stF v D C mm m' H' s' q e' S' rw' ev I' fC ns
  exact ⟨mm, ns, fun h' same => ⟨.ref D, H', comp_gone I' fC same, rfl, ev ▸ q v m' H' e' S' rw'⟩⟩
theorem js_setC (i : Nat) {scope : Scope} {x y : Str} {cs : Caps} {px pos spos py : Pos} {elt iter : Expr} {ifs : List Expr} {gi : GI} {gt : GT} {ge : GE} (hN : X.N.Nodup)
    {Y : Cx → Prop} (fr : FrOk X) (CS : CScope X scope x cs) (hc : YIn Y X) (hH : HdC X) (hi : JIY Y X (.Name x px) iter gi) (hE : ∀ C s0 H0 fp pn E, HdA X.A H0 → JE (compX X scope x cs C s0 H0 fp pn E) elt ge) (hT : ∀ C s0 H0 fp pn E, HdA X.A H0 → JTs (compX X scope x cs C s0 H0 fp pn E) ifs gt) (hs : ∀ x, foldedSetIterable iter X.env x = pure x)
    (hx : X.N[i]? = some y) (hl : Loc X.env.scope y) (hf : X.fn y = true ∨ X.env.scope.names.lookup y = some .local) :
    JS X (.Assign [.Name y py] (.ListComp elt [⟨.Name x px, iter, ifs, 0⟩] scope pos) spos) (gSet i (gComp cs gi gt ge)) := by
  have sw : ∃ b, swapsWith (.ListComp elt [⟨.Name x px, iter, ifs, 0⟩] scope pos) (some (.Name y py)) spos.line X.env = pure b := ⟨_, rfl⟩
  obtain ⟨b, sw⟩ := sw
  cases b with
  | false => exact js_set i hN (je_comp fr CS hc hH hi hE hT hs) hx hl sw hf
  | true =>
    intro ρ st σ H m D S R p pins s I
    rw [exec_Assign_Name_used _ _ _ _ sw]
    refine wpAny_bind (wpAny_standAt (wpAny_bind ?_))
    show wpAny _ X.A (do let _ ← comprehension (.ListComp elt [⟨.Name x px, iter, ifs, 0⟩] scope pos) scope X.env _ (newList []) false (eval iter X.env) (some (assign (.Name y py) X.env))) _ _ s
    refine wpAny_bind (wpAny_mono (comp_go (use := some (assign (.Name y py) X.env)) (Q := fun _ s' => SP X pins D .next s') fr CS hc hH hi hE hT hs S R I (PostS.of_thn R p) ?_) (fun _ s' hq => wpAny_pure (wpAny_pure hq)) fun _ _ e => e)
    intro w stF v D' C mm m' H' s' q e' S' rw' ev I' fC ns
    refine wpAny_assign_Name (store_ok2 (i := i) I' hN hx hl (show RelV v (.ref D') by rw [ev]; rfl) (fun s2 I2 h2 => ?_) hf)
    obtain ⟨a, sb, ha⟩ := h2
    have hca : C ≠ a := by
      rcases ha with z | z
      · rw [z]; exact fC.2.1
      · exact Ne.symm (fC.2.2.2.2.1 y a z)
    exact ⟨mm, ns.sameBut sb hca, fun h' same => ⟨_, _, comp_gone I2 fC same, q _ m' H' e' S' ((R.mono e').set i rw')⟩⟩
end
end J
namespace J
open PySem PySem.Spec PyProof.Rows L2
section
variable {X : Cx}
def CRep (n : Nat) (k : Int) : Prop := -(2 ^ 62) ≤ k ∧ k < 2 ^ 62 ∧ n * k.toNat ≤ lim
noncomputable instance {n k} : Decidable (CRep n k) := Classical.propDecidable _
noncomputable def oMulL0 : Op2
  | .ref l, .int n, st => match st[l]? with
    | some (.lst ws) => if CRep ws.length n then .ok (.ref st.length) (st ++ [.lst (List.replicate n.toNat ws).flatten]) else .bad
    | _ => .bad
  | x, y, st => oMulS x y st
theorem relWs_rep {K : PySem.W.Frag} {m : Mp} {H : Hp} {ws : List Wv} {xs : List V} (r : RelWs K m H ws xs) : ∀ n : Nat, RelWs K m H (List.replicate n ws).flatten (List.replicate n xs).flatten
  | 0 => RelWs.nil
  | n + 1 => by
    rw [List.replicate_succ, List.flatten_cons, List.replicate_succ, List.flatten_cons]
    exact r.append (relWs_rep r n)
theorem ow_mulL : OpW X (binaryOp .Mult) oMulL0 := by
  obtain ⟨r, h1, h2⟩ := ow_mulS (X := X)
  refine ⟨_, OpR.or op_rep h1, fun x y a b st H m Q S rx ry p => ?_⟩
  unfold oMulL0 at p
  split at p
  · rename_i l n
    unfold RelW at rx
    obtain ⟨a1, rfl, hl⟩ := rx
    cases relInt ry
    cases e : st[l]? with
    | none => rw [e] at p; exact False.elim p
    | some o =>
      cases o with
      | dct kvs => rw [e] at p; exact False.elim p
      | dcT kvs => rw [e] at p; exact False.elim p
      | scr ns => rw [e] at p; exact False.elim p
      | lst ws =>
        rw [e] at p
        dsimp only at p
        by_cases c : CRep ws.length n
        · rw [if_pos c] at p
          obtain ⟨xs, q1, q2⟩ := S.lstAt hl e
          refine .inl ⟨a1, n, xs, rfl, rfl, q1, by have := c.1; omega, by have := c.2.1; omega, by rw [← q2.length]; exact lim_le c.2.2, fun q hq => ?_⟩
          exact new_list p Ext.refl S (relWs_rep q2 n.toNat) q hq
        · rw [if_neg c] at p; exact False.elim p
  · exact .inr (h2 x y a b st H m Q S rx ry p)
end
end J
namespace J
open PySem PySem.Spec PyProof.Rows L2
section
variable {X : Cx}
def gAlt (ga gb : GE) : GE := fun ρ st => match ga ρ st with
  | .bad => gb ρ st
  | r => r
theorem je_alt {e : Expr} {ga gb : GE} (ha : JE X e ga) (hb : JE X e gb) : JE X e (gAlt ga gb) := by
  intro ρ st σ H m Q S R p
  unfold gAlt at p
  cases e1 : ga ρ st with
  | bad => rw [e1] at p; exact hb ρ st σ H m Q S R p
  | ok w st' => rw [e1] at p; exact ha ρ st σ H m Q S R (by rw [e1]; exact p)
  | err c st' => rw [e1] at p; exact ha ρ st σ H m Q S R (by rw [e1]; exact p)
def intsOf : List Wv → Option (List Int)
  | [] => some []
  | .int b :: r => (match intsOf r with | some l => some (b :: l) | none => none)
  | _ => none
theorem intsOf_map : ∀ ns : List Int, intsOf (ns.map Wv.int) = some ns
  | [] => rfl
  | n :: r => by rw [List.map_cons]; unfold intsOf; rw [intsOf_map r]
theorem intsOf_rel {K : PySem.W.Frag} {m : Mp} {H : Hp} : ∀ {ws : List Wv} {xs : List V} {bs : List Int}, RelWs K m H ws xs → intsOf ws = some bs → xs = bs.map V.int
  | [], xs, bs, r, h => by
    unfold RelWs at r
    cases h
    exact r
  | w :: ws, xs, bs, r, h => by
    unfold RelWs at r
    obtain ⟨x, t, rfl, r1, r2⟩ := r
    cases w with
    | int b =>
      unfold intsOf at h
      cases e : intsOf ws with
      | none => rw [e] at h; cases h
      | some l =>
        rw [e] at h
        cases h
        unfold RelW at r1
        rw [r1, intsOf_rel r2 e]
        rfl
    | _ => cases h
theorem vals_int : ∀ {ns : List Int} {its : List Value}, Vals (ns.map V.int) its → ∃ xs : List (Int × Tok), its = xs.map (fun p => Value.int p.1 p.2) ∧ xs.map (·.1) = ns
  | [], its, r => by cases r; exact ⟨[], rfl, rfl⟩
  | n :: ns, its, r => by
    cases r with
    | cons h t =>
      obtain ⟨tk, rfl⟩ := h
      obtain ⟨xs, e1, e2⟩ := vals_int t
      exact ⟨(n, tk) :: xs, by rw [e1]; rfl, by rw [← e2]; rfl⟩
theorem intsAre_of : ∀ xs : List (Int × Tok), IntsAre (xs.map fun p => Value.int p.1 p.2) (xs.map (·.1))
  | [] => .nil
  | p :: r => .cons p.1 p.2 (intsAre_of r)
theorem vals_of_are : ∀ {vs : List Value} {ns : List Int}, IntsAre vs ns → Vals (ns.map V.int) vs
  | _, _, .nil => .nil
  | _, _, .cons n t r => .cons ⟨t, rfl⟩ (vals_of_are r)
theorem numAt_map (xs : List (Int × Tok)) (i : Nat) : numAt xs.toArray i = (xs.map (·.1)).getD i 0 := by
  unfold numAt
  rw [List.getElem?_toArray, List.getD_eq_getElem?_getD, List.getElem?_map]
theorem preSum_map (xs : List (Int × Tok)) : ∀ k, preSum (numAt xs.toArray) k = ((xs.map (·.1)).take k).sum
  | 0 => by simp [preSum]
  | k + 1 => by
    unfold preSum
    rw [preSum_map xs k, numAt_map]
    rw [PySem.sum_take_succ]
theorem call_sumI (hc : X.calm = true) : CallR X (.builtin "sum") (fun xs H Q => ∃ (p : Addr) (ns : List Int), xs = [.ref p] ∧ SqL X.K H p (ns.map V.int) ∧ Q (.int ns.sum) H) := by
  intro pins s σ H xs us Q I r h
  obtain ⟨p, ns, rfl, hq, q⟩ := h
  obtain ⟨u, rfl, rx⟩ := vals1 r
  cases rx
  obtain ⟨its, r', pl, hz⟩ := I.list hq
  obtain ⟨xs, rfl, rfl⟩ := vals_int r'
  have hl := pl.isList
  have e : (xs.map fun p => Value.int p.1 p.2).toArray = intItems xs.toArray := by unfold intItems; simp
  rw [e] at hl
  refine sum_intListG (I.ok.hd hc) hl fun h' tk t' hk => ⟨.int _, H, I.kept hk, ⟨t', ?_⟩, q⟩
  rw [preSum_map, List.take_of_length_le (by simp)]
def oSum : List Wv → Hs → Re Wv
  | [.ref l], st => match lstOf st l with
    | some ws => (match intsOf ws with | some ns => .ok (.int ns.sum) st | none => .bad)
    | none => .bad
  | _, _ => .bad
theorem cw_sum (hc : X.calm = true) : CallW X (.builtin "sum") oSum := ⟨_, call_sumI hc, fun ws vs st H m Q S rs p => by
  match ws, rs, p with
  | [], rs, p => exact False.elim p
  | x :: y :: t, rs, p => cases x <;> exact False.elim p
  | [x], rs, p =>
    obtain ⟨v, rfl, r1⟩ := rel1 rs
    cases x with
    | ref l =>
      unfold oSum at p
      unfold RelW at r1
      obtain ⟨a, rfl, hl⟩ := r1
      cases e : lstOf st l with
      | none => simp only [e] at p; exact False.elim p
      | some ws =>
        simp only [e] at p
        cases e2 : intsOf ws with
        | none => simp only [e2] at p; exact False.elim p
        | some bs =>
          simp only [e2] at p
          obtain ⟨xs, q1, q2⟩ := S.read hl e
          have q3 := intsOf_rel q2 e2
          subst q3
          exact ⟨a, bs, rfl, q1, p _ m H Ext.refl S mkInt⟩
    | _ => exact False.elim p⟩
def mxI (n : Int) (r : List Int) : Int := r.foldl (fun a b => if b > a then b else a) n
def mnI (n : Int) (r : List Int) : Int := r.foldl (fun a b => if b < a then b else a) n
def oMax2 : List Wv → Hs → Re Wv
  | [.ref l], st => match lstOf st l with
    | some ws => (match intsOf ws with | some (n :: r) => .ok (.int (mxI n r)) st | _ => .bad)
    | none => .bad
  | ws, st => oMax ws st
def oMin2 : List Wv → Hs → Re Wv
  | [.ref l], st => match lstOf st l with
    | some ws => (match intsOf ws with | some (n :: r) => .ok (.int (mnI n r)) st | _ => .bad)
    | none => .bad
  | ws, st => oMin ws st
theorem CallW.or {f : Value} {op op' : List Wv → Hs → Re Wv} (g : List Wv → Hs → Re Wv) (h : CallW X f op) (h' : CallW X f op') (k : ∀ ws st, g ws st = op ws st ∨ g ws st = op' ws st) : CallW X f g := by
  obtain ⟨r, h1, h2⟩ := h
  obtain ⟨r', h1', h2'⟩ := h'
  refine ⟨_, h1.or h1', fun ws vs st H m Q S rs p => ?_⟩
  rcases k ws st with e | e
  · rw [e] at p; exact .inl (h2 ws vs st H m Q S rs p)
  · rw [e] at p; exact .inr (h2' ws vs st H m Q S rs p)
def insI (n : Int) : List Int → List Int
  | [] => [n]
  | a :: r => if n ≤ a then n :: a :: r else a :: insI n r
def srtI : List Int → List Int
  | [] => []
  | a :: r => insI a (srtI r)
theorem insI_perm (n : Int) : ∀ l : List Int, (insI n l).Perm (n :: l)
  | [] => .refl _
  | a :: r => by
    unfold insI
    split
    · exact .refl _
    · exact ((insI_perm n r).cons a).trans (.swap n a r)
theorem srtI_perm : ∀ l : List Int, (srtI l).Perm l
  | [] => .nil
  | a :: r => (insI_perm a (srtI r)).trans ((srtI_perm r).cons a)
theorem insI_srt (n : Int) : ∀ l : List Int, l.Pairwise (· ≤ ·) → (insI n l).Pairwise (· ≤ ·)
  | [], _ => by simp [insI]
  | a :: r, h => by
    unfold insI
    rw [List.pairwise_cons] at h
    split
    · rename_i c
      rw [List.pairwise_cons, List.pairwise_cons]
      refine ⟨fun b hb => ?_, h⟩
      rcases List.mem_cons.mp hb with z | z
      · rw [z]; exact c
      · have := h.1 b z; omega
    · rename_i c
      rw [List.pairwise_cons]
      refine ⟨fun b hb => ?_, insI_srt n r h.2⟩
      rcases List.mem_cons.mp ((insI_perm n r).mem_iff.mp hb) with z | z
      · rw [z]; omega
      · exact h.1 b z
theorem srtI_srt : ∀ l : List Int, (srtI l).Pairwise (· ≤ ·)
  | [] => .nil
  | a :: r => insI_srt a _ (srtI_srt r)
theorem srt_one {a b : List Int} (h : a.Perm b) (ha : a.Pairwise (· ≤ ·)) (hb : b.Pairwise (· ≤ ·)) : a = b :=
  List.Perm.eq_of_pairwise (fun _ _ _ _ h1 h2 => by omega) ha hb h
theorem call_srtI : CallR X (.builtin "sorted") (fun xs H Q => ∃ (p : Addr) (ns : List Int), xs = [.ref p] ∧ SqL X.K H p (ns.map V.int) ∧ ns.length < 64 ∧ ∀ l, H l = none → Q (.ref l) (upd H l (.lst ((srtI ns).map V.int)))) := by
  intro pins s σ H xs us Q I r h
  obtain ⟨p, ns, rfl, hq, h64, q⟩ := h
  obtain ⟨u, rfl, rx⟩ := vals1 r
  cases rx
  obtain ⟨its, r', pl, hz⟩ := I.list hq
  have hlen := r'.length
  obtain ⟨xs, rfl, rfl⟩ := vals_int r'
  refine sorted_ints pl.isList (intsAre_of xs) (by simpa using h64) fun out ns' a1 a2 a3 => ?_
  have e : ns' = srtI (xs.map (·.1)) := srt_one (a2.trans (srtI_perm _).symm) a3 (srtI_srt _)
  subst e
  obtain ⟨n, hat⟩ := sortedAll_at s.heap (xs.map fun p => Value.int p.1 p.2) out
  have hz' : ((srtI (xs.map (·.1))).map V.int).length ≤ sizeLine := by
    rw [List.length_map, (srtI_perm _).length_eq]
    simpa using hz
  refine ⟨.ref (s.heap.objs.size + 1), _, I.laid (t' := s.toks) (fun _ _ => sortedAll_old) (Nat.le_succ _) (show ObjOk X.prog X.w _ _ _ (.lst _) from ⟨hz', out.toList, n, vals_of_are a1, ?_⟩), rfl, q _ (I.hok.fresh (Nat.le_succ _))⟩
  rw [hat]
def oSrt : List Wv → Hs → Re Wv
  | [.ref l], st => match lstOf st l with
    | some ws => (match intsOf ws with | some ns => if ns.length < 64 then .ok (.ref st.length) (st ++ [.lst ((srtI ns).map Wv.int)]) else .bad | none => .bad)
    | none => .bad
  | _, _ => .bad
theorem cw_srt : CallW X (.builtin "sorted") oSrt := ⟨_, call_srtI, fun ws vs st H m Q S rs p => by
  match ws, rs, p with
  | [], rs, p => exact False.elim p
  | x :: y :: t, rs, p => cases x <;> exact False.elim p
  | [x], rs, p =>
    obtain ⟨v, rfl, r1⟩ := rel1 rs
    cases x with
    | ref l =>
      unfold oSrt at p
      unfold RelW at r1
      obtain ⟨a, rfl, hl⟩ := r1
      cases e : lstOf st l with
      | none => simp only [e] at p; exact False.elim p
      | some ws =>
        simp only [e] at p
        cases e2 : intsOf ws with
        | none => simp only [e2] at p; exact False.elim p
        | some bs =>
          simp only [e2] at p
          by_cases c : bs.length < 64
          · rw [if_pos c] at p
            obtain ⟨xs, q1, q2⟩ := S.read hl e
            have q3 := intsOf_rel q2 e2
            subst q3
            exact ⟨a, bs, rfl, q1, c, fun q hq => new_list p Ext.refl S (RelWs.ints _) q hq⟩
          · rw [if_neg c] at p; exact False.elim p
    | _ => exact False.elim p⟩
end
end J
namespace J
open PySem PySem.Spec PyProof.Rows L2
section
variable {X : Cx}
def gMethS (mt : PySem.Str → List Wv → Hs → Re Wv) (go : GE) (ga : GA) : GE := fun ρ st => (go ρ st).bind fun o st1 => match o with
  | .str z => (ga ρ st1).bind fun ws st2 => (mt z ws st2).nox
  | _ => .bad
def MsW (X : Cx) (id : String) (mt : PySem.Str → List Wv → Hs → Re Wv) : Prop := ∃ r, MtR X id r ∧ ∀ (z : PySem.Str) (ws : List Wv) (vs : List V) (st : Hs) (H : Hp) (m : Mp) (Q : VK), PyData.strOk z = true → Sim X.K m st H → RelWs X.K m H ws vs → PostO X.K m H (mt z ws st) Q → r (.str z) vs H Q
theorem je_methS {o : Expr} {name : Str} {id : String} {e : Expr} {es : List Expr} {go : GE} {ga : GA} {apos cpos : Pos} {mt : PySem.Str → List Wv → Hs → Re Wv} (hm : MsW X id mt) (slot : Slot "str" name id) (hty : typeOf (.builtin id) = pure (.type "method_descriptor")) (ho : JE X o go) (ha : JA X (e :: es) ga)
    (hbase : attributeBase o name X.env (eval o X.env) = eval o X.env)
    (hfew : ((backTo cpos (starEach (e :: es) X.env)).all (fun x => !x.1) && (backToKw cpos (keywordEach [] X.env)).all (fun x => x.1.isSome) && decide ((e :: es).length + ([] : List Keyword).length + (if ([] : List Keyword).isEmpty then 0 else 1) < 30)) = true)
    (hline : (apos.endLine == cpos.line) = true) (hs : starEach (e :: es) X.env = (false, eval e X.env) :: starEach es X.env) (hplain : (backTo cpos (starEach es X.env)).any (·.1) = false) :
    JE X (.Call (.Attribute o name apos) (e :: es) [] cpos) (gMethS mt go ga) := by
  obtain ⟨r, h1, h2⟩ := hm
  refine JE.of (pe_bm PySem.F.plainAttrs_str slot hty h1 pe_SE pa_SA hbase hfew hline hs hplain) fun ρ st σ H m Q S R p => ?_
  refine ho.go S R (PostG.bind p) fun o st1 v m1 H1 p1 e1 S1 ro => ?_
  cases o with
  | str z =>
    dsimp only at p1
    unfold RelW at ro
    obtain ⟨rfl, hz⟩ := ro
    refine ⟨rfl, ?_⟩
    refine ha.go S1 (R.mono e1) ((PostG.bind p1).imp e1 fun _ _ q => q) fun ws st2 vs m2 H2 p2 e2 S2 rs => ?_
    exact h2 z ws vs st2 H2 m2 Q hz S2 rs (PostO.shift (PostG.nox p2) (e1.trans e2))
  | _ => exact False.elim p1
theorem strOk_iff {z : PySem.Str} : PyData.strOk z = true ↔ ∀ c ∈ z.cps.toList, c < 1114112 := by
  unfold PyData.strOk
  rw [Array.all_eq_true_iff_forall_mem]
  constructor
  · intro h c hc
    simpa using h c (Array.mem_toList_iff.mp hc)
  · intro h c hc
    simpa using h c (Array.mem_toList_iff.mpr hc)
end
end J
namespace J
open PySem PySem.Spec PyProof.Rows L2
section
variable {X : Cx}
theorem sl_str : SlR X (fun x lo hi H Q => ∃ z, x = .str z ∧ z.length ≤ sizeLine ∧ Q (.str (Txt.slice z lo hi)) H) := by
  intro pins s σ H x v vl vu lo hi sl Q I rx hs pl pu h
  obtain ⟨z, rfl, hz, q⟩ := h
  obtain ⟨t, rfl⟩ := rx
  have fin : ∀ t' k, EP X pins σ Q (.str (Txt.slice z lo hi) t') { s with toks := k } := fun t' k => ⟨.str _, H, I.tok k, ⟨t', rfl⟩, q⟩
  refine ⟨"str", _, PySem.F.slot_str_getitem.lookup, typeIs_str _ _ _, ?_⟩
  have hl := Nat.le_trans (Txt.slice_le z lo hi) hz
  cases pl with
  | none =>
    cases pu with
    | none => exact wpAny_getItem_str_slice (l := none) (u := none) (st := none) hs rfl (post_val_or_str ⟨hl, fin⟩)
    | int j tj => exact wpAny_getItem_str_slice (l := none) (u := some (j, tj)) (st := none) hs rfl (post_val_or_str ⟨hl, fin⟩)
  | int i ti =>
    cases pu with
    | none => exact wpAny_getItem_str_slice (l := some (i, ti)) (u := none) (st := none) hs rfl (post_val_or_str ⟨hl, fin⟩)
    | int j tj => exact wpAny_getItem_str_slice (l := some (i, ti)) (u := some (j, tj)) (st := none) hs rfl (post_val_or_str ⟨hl, fin⟩)
theorem mem_slice {z : PySem.Str} {lo hi : Option Int} {c : Nat} (h : c ∈ (Txt.slice z lo hi).cps.toList) : c ∈ z.cps.toList := by
  unfold Txt.slice at h
  split at h
  · exact h
  · simp only [List.mem_filterMap] at h
    obtain ⟨i, _, e⟩ := h
    rw [Array.getElem?_eq_some_iff] at e
    obtain ⟨hi, rfl⟩ := e
    exact Array.mem_toList_iff.mpr (Array.getElem_mem hi)
theorem strOk_slice {z : PySem.Str} {lo hi : Option Int} (h : PyData.strOk z = true) : PyData.strOk (Txt.slice z lo hi) = true := by
  rw [strOk_iff] at h ⊢
  exact fun c hc => h c (mem_slice hc)
end
section
open HT
theorem getItem_whole {prog : Program} {w : World} {A : Around} {E : Value → Shared → Prop} {s : Shared} {t sl : Addr} {us : Array Value} {vl vu : Value} {lo hi : Option Int} {Q : Value → Shared → Prop} (ht : IsTup s.heap t us) (hs : s.heap.IsSliceOf sl vl vu .none) (pl : IsPart vl lo) (pu : IsPart vu hi)
    (hw : sIx us.size 0 lo = 0 ∧ sIx us.size us.size hi = us.size) (h : Q (.ref t) s) : wpAny (model prog w) A (getItem (.ref t) (.ref sl)) Q E s := by
  obtain ⟨os, o1, o2, o3⟩ := id hs
  have tys : s.TypeIs (.ref sl) "slice" := ⟨os, o1, o2⟩
  unfold getItem; try with_reducible refine wpAny_holding ?_
  first | refine wpAny_bind (wpAny_pure ?_) | skip
  refine wpAny_bind (wpAny_sequenceKey ht.typeIs (by decide) ?_); refine wpAny_bind (wpAny_callSpecial?_slot (name := Str.ofString "__getitem__") ht.typeIs PyProof.Rows.slot_tuple_getitem (wpAny_call_entry PyProof.Rows.slot_tuple_getitem ht.typeIs entry_tuple_getitem ?_ (args_tuple_getitem _ _)))
  show wpAny _ _ (Builtin.Tuple.tupleItemsOf (.ref t) >>= _) _ _ _; refine wpAny_bind (tupleItemsOf_ ht ?_); refine wpAny_bind (wpAny_typeOf tys ?_)
  rw [if_pos (by decide)]; refine wpAny_bind (sliceApplied_gen hs pl pu ?_)
  rw [hw.1, hw.2]
  have yes : ((((0 : Nat) : Int)) == 0 && (1 : Int) == 1 && (us.size - 0) == us.size) = true := by simp
  show wpAny _ _ (if ((((0 : Nat) : Int)) == 0 && (1 : Int) == 1 && (us.size - 0) == us.size) = true then _ else _) _ _ s
  rw [if_pos yes]
  refine wpAny_bind (m := Builtin.Tuple.tupleIsExact _) ?_
  unfold Builtin.Tuple.tupleIsExact
  refine wpAny_bind (wpAny_typeOf ht.typeIs (wpAny_pure ?_))
  rw [if_pos (by decide)]
  exact wpAny_bind (wpAny_rule (wpAny_pure ⟨_, rfl, wpAny_pure h⟩))
end
section
variable {X : Cx}
def rSlW (K : PySem.W.Frag) : V → Option Int → Option Int → Hp → VK → Prop := fun x lo hi H Q => ∃ a xs, x = .ref a ∧ SqT K H a xs ∧ (HT.sIx xs.length 0 lo = 0 ∧ HT.sIx xs.length xs.length hi = xs.length) ∧ Q (.ref a) H
theorem sl_whole : SlR X (rSlW X.K) := by
  intro pins s σ H x v vl vu lo hi sl Q I rx hs pl pu h
  obtain ⟨a, xs, rfl, hx, hw, q⟩ := h
  cases rx
  obtain ⟨its, r, ht, hz⟩ := I.tuple hx
  have n : its.toArray.size = xs.length := by rw [List.size_toArray]; exact r.length.symm
  exact ⟨"tuple", _, PyProof.Rows.slot_tuple_getitem.lookup, ht.typeIs, getItem_whole ht hs pl pu (by rw [n]; exact hw) ⟨.ref a, H, I, rfl, q⟩⟩
def isWh (n : Nat) (lo hi : Option Int) : Prop := HT.sIx n 0 lo = 0 ∧ HT.sIx n n hi = n
instance {n : Nat} {lo hi : Option Int} : Decidable (isWh n lo hi) := inferInstanceAs (Decidable (HT.sIx n 0 lo = 0 ∧ HT.sIx n n hi = n))
def oSl2 (x : Wv) (lo hi : Option Int) (st : Hs) : Re Wv := match x with
  | .str z => if z.length ≤ lim then .ok (.str (Txt.slice z lo hi)) st else .bad
  | .tup ws => if isWh ws.length lo hi then .ok (.tup ws) st else oSl (.tup ws) lo hi st
  | x => oSl x lo hi st
def gSlice2 (ga : GE) (gl gh : GO) : GE := fun ρ st => (ga ρ st).bind fun x st1 => (gl ρ st1).bind fun lo st2 => (gh ρ st2).bind fun hi st3 => oSl2 x lo hi st3
theorem je_slice2 {a : Expr} {lo hi : Option Expr} {ga : GE} {gl gh : GO} {pos p2 : Pos} (ha : JE X a ga) (hl : JO X lo gl) (hh : JO X hi gh) : JE X (.Subscript a (.Slice lo hi none p2) pos) (gSlice2 ga gl gh) := by
  have hS : JE X (.Subscript a (.Slice lo hi none p2) pos) (fun ρ st => (ga ρ st).bind fun x st1 => (gl ρ st1).bind fun lo st2 => (gh ρ st2).bind fun hi st3 => match x with | .str z => if z.length ≤ lim then .ok (.str (Txt.slice z lo hi)) st3 else .bad | _ => .bad) := by
    refine JE.of (pe_slice sl_str pe_SE po_SO po_SO) fun ρ st σ H m Q S R p => ?_
    refine ha.go S R (PostG.bind p) fun x st1 v m1 H1 p1 e1 S1 rx => ?_
    refine hl.go S1 (R.mono e1) ((PostG.bind p1).imp e1 fun _ _ q => q) fun l st2 m2 H2 p2 e2 S2 => ?_
    refine hh.go S2 (R.mono (e1.trans e2)) ((PostG.bind p2).imp (e1.trans e2) fun _ _ q => q) fun h st3 m3 H3 p3 e3 S3 => ?_
    have e13 := e1.trans (e2.trans e3)
    cases x with
    | str z =>
      dsimp only at p3
      by_cases c : z.length ≤ lim
      · rw [if_pos c] at p3
        unfold RelW at rx
        obtain ⟨rfl, hz⟩ := rx
        exact ⟨z, rfl, lim_le c, p3 _ m3 H3 e13 S3 (mkStr (strOk_slice hz))⟩
      · rw [if_neg c] at p3; exact False.elim p3
    | _ => exact False.elim p3
  have hW : JE X (.Subscript a (.Slice lo hi none p2) pos) (fun ρ st => (ga ρ st).bind fun x st1 => (gl ρ st1).bind fun lo st2 => (gh ρ st2).bind fun hi st3 => match x with | .tup ws => if isWh ws.length lo hi then .ok (.tup ws) st3 else oSl (.tup ws) lo hi st3 | _ => .bad) := by
    refine JE.of (pe_slice (SlR.or sl_whole sl_tup) pe_SE po_SO po_SO) fun ρ st σ H m Q S R p => ?_
    refine ha.go S R (PostG.bind p) fun x st1 v m1 H1 p1 e1 S1 rx => ?_
    refine hl.go S1 (R.mono e1) ((PostG.bind p1).imp e1 fun _ _ q => q) fun l st2 m2 H2 p2 e2 S2 => ?_
    refine hh.go S2 (R.mono (e1.trans e2)) ((PostG.bind p2).imp (e1.trans e2) fun _ _ q => q) fun h st3 m3 H3 p3 e3 S3 => ?_
    have e13 := e1.trans (e2.trans e3)
    cases x with
    | tup ws =>
      dsimp only at p3
      have rx' := RelW.mono (e2.trans e3) _ _ rx
      unfold RelW at rx'
      obtain ⟨a', xs, rfl, f1, f2⟩ := rx'
      by_cases c : isWh ws.length l h
      · rw [if_pos c] at p3
        unfold isWh at c
        rw [f2.length] at c
        exact .inl ⟨a', xs, rfl, SqT.of f1, c, p3 _ m3 H3 e13 S3 (by unfold RelW; exact ⟨a', xs, rfl, f1, f2⟩)⟩
      · rw [if_neg c] at p3
        unfold oSl at p3
        dsimp only at p3
        unfold isWh at c
        rw [if_neg c] at p3
        rw [f2.length] at c
        refine .inr ⟨a', xs, rfl, SqT.of f1, c, fun q hq => ?_⟩
        have eU : Ext X.K m3 H3 m3 (L2.upd H3 q (.tup (cutV xs l h))) := Ext.updW (.inl hq)
        exact p3 (.ref q) m3 _ (e13.trans eU) (S3.fresh hq) (by unfold RelW; exact ⟨q, _, rfl, L2.upd_same, RelWs.mono eU _ _ (cut_rel f2)⟩)
    | _ => exact False.elim p3
  intro ρ st σ H m Q S R p
  unfold gSlice2 at p
  cases e1 : ga ρ st with
  | bad => rw [e1] at p; exact False.elim p
  | err c st1 => rw [e1] at p; exact je_slice ha hl hh ρ st σ H m Q S R (by unfold gSlice; rw [e1]; exact p)
  | ok x st1 =>
    rw [e1] at p
    cases x with
    | str z => exact hS ρ st σ H m Q S R (by dsimp only; rw [e1]; exact p)
    | tup ws => exact hW ρ st σ H m Q S R (by dsimp only; rw [e1]; exact p)
    | _ => exact je_slice ha hl hh ρ st σ H m Q S R (by unfold gSlice; rw [e1]; exact p)
def oIn2 : Op2
  | .str i, .str j, st => .ok (.bl (!(Builtin.Str.occurrences j i 0 j.length 1).isEmpty)) st
  | x, y, st => oIn x y st
def oNotIn2 : Op2
  | .str i, .str j, st => .ok (.bl (!(!(Builtin.Str.occurrences j i 0 j.length 1).isEmpty))) st
  | x, y, st => oNotIn x y st
theorem ow_in2 : OpW X (compareOp .In) oIn2 := by
  obtain ⟨r, h1, h2⟩ := ow_in (X := X)
  refine ⟨_, OpR.or op_in_str h1, fun x y a b st H m Q S rx ry p => ?_⟩
  unfold oIn2 at p
  split at p
  · rename_i i j
    unfold RelW at rx ry
    obtain ⟨rfl, _⟩ := rx
    obtain ⟨rfl, _⟩ := ry
    exact .inl ⟨i, j, rfl, rfl, p _ m H Ext.refl S mkBl⟩
  · exact .inr (h2 x y a b st H m Q S rx ry p)
theorem ow_notIn2 : OpW X (compareOp .NotIn) oNotIn2 := by
  obtain ⟨r, h1, h2⟩ := ow_notIn (X := X)
  refine ⟨_, OpR.or op_notIn_str h1, fun x y a b st H m Q S rx ry p => ?_⟩
  unfold oNotIn2 at p
  split at p
  · rename_i i j
    unfold RelW at rx ry
    obtain ⟨rfl, _⟩ := rx
    obtain ⟨rfl, _⟩ := ry
    exact .inl ⟨i, j, rfl, rfl, p _ m H Ext.refl S mkBl⟩
  · exact .inr (h2 x y a b st H m Q S rx ry p)
theorem mt_count : MtR X "str.count" (fun x xs H Q => ∃ z y, x = .str z ∧ xs = [.str y] ∧ Q (.int (Txt.count z y)) H) := by
  intro pins s σ H x xs v us Q I rx rv h
  obtain ⟨z, y, rfl, rfl, q⟩ := h
  obtain ⟨t, rfl⟩ := rx
  obtain ⟨u, rfl, t', rfl⟩ := vals1 rv
  exact SC.count ⟨.int _, H, I.tok _, ⟨_, rfl⟩, q⟩
def mCount (z : PySem.Str) : List Wv → Hs → Re Wv
  | [.str y], st => .ok (.int (Txt.count z y)) st
  | _, _ => .bad
theorem ms_count : MsW X "str.count" mCount := ⟨_, mt_count, fun z ws vs st H m Q hz S rs p => by
  match ws, rs, p with
  | [], rs, p => exact False.elim p
  | x :: y :: t, rs, p => cases x <;> exact False.elim p
  | [x], rs, p =>
    obtain ⟨v, rfl, r1⟩ := rel1 rs
    cases x with
    | str y => unfold RelW at r1; obtain ⟨rfl, _⟩ := r1; exact ⟨z, y, rfl, rfl, p _ m H Ext.refl S mkInt⟩
    | _ => exact False.elim p⟩
end
end J
namespace J
open PySem PySem.Spec PyProof.Rows L2 PySem.W
section
variable {X : Cx}
end
section
variable {X : Cx}
end
section
variable {X : Cx}
end
end J
namespace J
open PySem PySem.Spec PyProof.Rows L2
def Its (x : Str) : It := ⟨fun i _ => i < x.cps.size, fun i H v H' => H' = H ∧ ∃ c, x.cps[i]? = some c ∧ v = .str ⟨#[c]⟩, fun i _ => x.cps.size ≤ i⟩
theorem turn_ascii {P : Program} {w : World} {K : PySem.W.Frag} {tg : Expr} (x : Str) (t : Tok) (it : Addr) : Turn P w K tg (Its x) [it] it (fun i h => h.IsStrIter it "str_ascii_iterator" x t i) where
  mem := List.mem_singleton.mpr rfl
  obj := fun i h st b hb => by
    cases List.mem_singleton.mp hb
    obtain ⟨o, e, c, d⟩ := st
    exact ⟨o, e, fun v z => by rw [d] at z; cases z⟩
  keep := fun i h h' st k => let ⟨o, e, r⟩ := st; ⟨o, k it (List.mem_singleton.mpr rfl) o e, r⟩
  item := by
    intro X hP hw hK hc i pins s σ H E I hf st hg
    subst hP; subst hw; subst hK
    obtain ⟨f0, f1, f2, f3, f4, f5⟩ := hf it (List.mem_singleton.mpr rfl)
    have hi : i < x.cps.size := hg
    refine wpAny_pyNext_ascii_item st (c := x.cps[i]) (by simp [hi]) fun h' st' sb => ?_
    have I1 : L2.Inv X pins σ H { s with heap := h', toks := s.toks + 1 } := I.turned (t' := s.toks + 1) (fun b o hb e => sb.extBut b o hb e) f0 f1 f3 f4 f5
    obtain ⟨o, e, c, d⟩ := id st'
    exact ⟨_, rfl, go_of (s := { s with heap := h', toks := s.toks + 1 }) e c d (by decide) ⟨.str ⟨#[x.cps[i]]⟩, H, I1, ⟨_, rfl⟩, ⟨rfl, _, by simp [hi], rfl⟩, st', fun b hb => (hf b hb).1⟩⟩
  done := by
    intro X hP hw hK hc i pins s σ H E I hf st hg
    subst hP; subst hw; subst hK
    obtain ⟨f0, f1, f2, f3, f4, f5⟩ := hf it (List.mem_singleton.mpr rfl)
    have hi : x.cps.size ≤ i := hg
    exact wpAny_pyNext_ascii_end (I.ok.hd hc) st (by simp [hi]) fun h' eb => ⟨rfl, I.turned (t' := s.toks) (fun b o hb e => eb b o hb e) f0 f1 f3 f4 f5⟩
  self := fun _ _ _ _ _ st h => wpAny_pyIter_striter_ascii st h
theorem turn_wide {P : Program} {w : World} {K : PySem.W.Frag} {tg : Expr} (x : Str) (t : Tok) (it : Addr) : Turn P w K tg (Its x) [it] it (fun i h => h.IsStrIter it "str_iterator" x t i) where
  mem := List.mem_singleton.mpr rfl
  obj := fun i h st b hb => by
    cases List.mem_singleton.mp hb
    obtain ⟨o, e, c, d⟩ := st
    exact ⟨o, e, fun v z => by rw [d] at z; cases z⟩
  keep := fun i h h' st k => let ⟨o, e, r⟩ := st; ⟨o, k it (List.mem_singleton.mpr rfl) o e, r⟩
  item := by
    intro X hP hw hK hc i pins s σ H E I hf st hg
    subst hP; subst hw; subst hK
    obtain ⟨f0, f1, f2, f3, f4, f5⟩ := hf it (List.mem_singleton.mpr rfl)
    have hi : i < x.cps.size := hg
    refine wpAny_pyNext_wide_item st (c := x.cps[i]) (by simp [hi]) fun h' st' sb => ?_
    have I1 : L2.Inv X pins σ H { s with heap := h', toks := s.toks + 1 } := I.turned (t' := s.toks + 1) (fun b o hb e => sb.extBut b o hb e) f0 f1 f3 f4 f5
    obtain ⟨o, e, c, d⟩ := id st'
    exact ⟨_, rfl, go_of (s := { s with heap := h', toks := s.toks + 1 }) e c d (by decide) ⟨.str ⟨#[x.cps[i]]⟩, H, I1, ⟨_, rfl⟩, ⟨rfl, _, by simp [hi], rfl⟩, st', fun b hb => (hf b hb).1⟩⟩
  done := by
    intro X hP hw hK hc i pins s σ H E I hf st hg
    subst hP; subst hw; subst hK
    obtain ⟨f0, f1, f2, f3, f4, f5⟩ := hf it (List.mem_singleton.mpr rfl)
    have hi : x.cps.size ≤ i := hg
    exact wpAny_pyNext_wide_end (I.ok.hd hc) st (by simp [hi]) fun h' eb => ⟨rfl, I.turned (t' := s.toks) (fun b o hb e => eb b o hb e) f0 f1 f3 f4 f5⟩
  self := fun _ _ _ _ _ st h => wpAny_pyIter_striter_wide st h
section
variable {X : Cx}
theorem pi_str {tg l : Expr} {tl : TE} (hl : PE X l tl) : PI X tg l (fun σ H R => tl σ H fun v H1 => ∃ z, v = .str z ∧ R (Its z) H1) := by
  intro pins s σ H R I h
  refine thn (hl pins s σ H _ I h) fun v s1 ⟨x, H1, I1, r1, z, e, q⟩ => ?_
  subst e
  obtain ⟨t, rfl⟩ := r1
  have frs : ∀ b ∈ [s1.heap.objs.size], FpOk X pins H1 b := fun b hb => by
    cases List.mem_singleton.mp hb
    exact I1.fpOk (Nat.le_refl _) (I1.hok.fresh (Nat.le_refl _))
  cases ha : z.cps.all (· < 128)
  · exact wpAny_pyIter_wide ha ⟨s1.heap.objs.size, [s1.heap.objs.size], _, _, H1, rfl, I1.kept (t' := s1.toks) fun b o e => Heap.get?_push_of_some _ e, turn_wide z t _, ⟨_, Heap.get?_push_size _ rfl, rfl, rfl⟩, frs, q⟩
  · exact wpAny_pyIter_ascii ha ⟨s1.heap.objs.size, [s1.heap.objs.size], _, _, H1, rfl, I1.kept (t' := s1.toks) fun b o e => Heap.get?_push_of_some _ e, turn_ascii z t _, ⟨_, Heap.get?_push_size _ rfl, rfl, rfl⟩, frs, q⟩
def signsW (z : PySem.Str) : List Wv := z.cps.toList.map fun c => Wv.str ⟨#[c]⟩
def seqW2 (w : Wv) (st : Hs) : Re Wk := match w with
  | .str z => .ok (none, signsW z) st
  | w => seqW w st
def giSeq2 (g : GE) : GI := fun ρ st => (g ρ st).bind seqW2
theorem it_str {z : PySem.Str} {m1 : Mp} {H1 : Hp} (hz : PyData.strOk z = true) : ItFor X (none, signsW z) m1 H1 (Its z) where
  go := fun k H m' st _ _ _ hk => by
    have : k < z.cps.size := by simpa [signsW] using hk
    exact this
  stop := fun k H m' st _ _ _ hk => by
    have : k = z.cps.size := by simpa [signsW] using hk
    exact Nat.le_of_eq this.symm
  yld := fun k hk H v H' m' st _ _ _ y => by
    obtain ⟨rfl, c, hc, rfl⟩ := y
    refine ⟨rfl, ?_⟩
    have hk' : k < z.cps.size := by simpa [signsW] using hk
    have e : ∀ h : k < (signsW z).length, (signsW z)[k]'h = .str ⟨#[z.cps[k]]⟩ := by intro h; simp [signsW]
    have hc' : z.cps[k] = c := by simpa [hk'] using hc
    show RelW X.K m' H' ((signsW z)[k]'hk) _
    rw [e hk, hc']
    refine mkStr ?_
    rw [strOk_iff] at hz ⊢
    intro d hd
    simp at hd
    rw [hd, ← hc']
    exact hz _ (by simp)
theorem ji_seq2 {tg iter : Expr} {g : GE} (h : JE X iter g) : JI X tg iter (giSeq2 g) := by
  obtain ⟨w1, h1, k1⟩ := ji_seq (tg := tg) h
  refine ⟨fun σ H R => w1 σ H R ∨ (SE X iter σ H fun v H1 => ∃ z, v = .str z ∧ R (Its z) H1), fun pins s σ H R I q => ?_, fun ρ st σ H m R S RR p => ?_⟩
  · rcases q with q | q
    · exact h1 pins s σ H R I q
    · exact pi_str pe_SE pins s σ H R I q
  · unfold giSeq2 at p
    cases e : g ρ st with
    | bad => rw [e] at p; exact False.elim p
    | err c st' => rw [e] at p; exact .inl (k1 ρ st σ H m R S RR (by unfold giSeq; rw [e]; exact p))
    | ok w st' =>
      rw [e] at p
      cases w with
      | str z =>
        refine .inr ?_
        refine h.go (ok := fun w st1 => w = .str z ∧ st1 = st') S RR (by rw [e]; exact ⟨rfl, rfl⟩) fun w st1 v m1 H1 q e1 S1 r1 => ?_
        obtain ⟨rfl, rfl⟩ := q
        unfold RelW at r1
        obtain ⟨rfl, hz⟩ := r1
        exact ⟨z, rfl, p m1 H1 _ e1 S1 trivial (it_str hz)⟩
      | _ => exact .inl (k1 ρ st σ H m R S RR (by unfold giSeq; rw [e]; exact p))
end
end J
namespace J
open PySem PySem.Spec PyProof.Rows L2
section
variable {X : Cx}
theorem countP_eqU {x : V} : ∀ {xs : List V} {us : List Value}, Vals xs us → xs.all flatV = true → us.countP (eqU x) = xs.countP fun y => eqV y x
  | _, _, .nil, _ => rfl
  | y :: xs, u :: us, .cons r t, f => by
    rw [List.all_cons, Bool.and_eq_true] at f
    rw [List.countP_cons, List.countP_cons, eqU_of r f.1, countP_eqU t f.2]
theorem mt_lcount : MtR X "list.count" (fun x xs H Q => ∃ (p : Addr) (ys : List V) (y : V), x = .ref p ∧ xs = [y] ∧ SqL X.K H p ys ∧ flatV y = true ∧ ys.all flatV = true ∧ Q (.int (ys.countP fun z => eqV z y : Nat)) H) := by
  intro pins s σ H x xs v us Q I rx rv h
  obtain ⟨p, ys, y, rfl, rfl, hq, fy, fs, q⟩ := h
  cases rx
  obtain ⟨u, rfl, ru⟩ := vals1 rv
  obtain ⟨its, r, pl, hz⟩ := I.list hq
  obtain ⟨⟨cls, dd, data, sl⟩, ho, hc, n, hd⟩ := pl.isList
  simp only at hc hd
  subst hc; subst hd
  refine call_meets PySem.F.slot_list_count ⟨_, ho, rfl⟩ PySem.F.entry_list_count (PySem.F.args_list_count_2 _ _) (SeqAt.list_countAt p its.toArray n dd sl u (eqU y)) ⟨ho, fun w hw => mem_eqAt ru fy r fs w (by simpa using hw), ?_⟩
  refine ⟨.int _, H, I.tok _, ⟨s.toks, ?_⟩, q⟩
  rw [List.toList_toArray, countP_eqU r fs]
theorem mt_lindex : MtR X "list.index" (fun x xs H Q => ∃ (p : Addr) (ys : List V) (y : V) (j : Nat), x = .ref p ∧ xs = [y] ∧ SqL X.K H p ys ∧ flatV y = true ∧ ys.all flatV = true ∧ ys.findIdx? (fun z => eqV z y) = some j ∧ Q (.int (j : Nat)) H) := by
  intro pins s σ H x xs v us Q I rx rv h
  obtain ⟨p, ys, y, j, rfl, rfl, hq, fy, fs, hj, q⟩ := h
  cases rx
  obtain ⟨u, rfl, ru⟩ := vals1 rv
  obtain ⟨its, r, pl, hz⟩ := I.list hq
  have hlen := r.length
  obtain ⟨⟨cls, dd, data, sl⟩, ho, hc, n, hd⟩ := pl.isList
  simp only at hc hd
  subst hc; subst hd
  rw [List.findIdx?_eq_some_iff_getElem] at hj
  obtain ⟨hj1, hj2, hj3⟩ := hj
  have at' : ∀ (k : Nat) (h : k < ys.length) (h' : k < its.length), eqU y its[k] = eqV ys[k] y := by
    intro k h h'
    obtain ⟨w, hw, rw'⟩ := r.get (List.getElem?_eq_getElem h)
    rw [List.getElem?_eq_getElem h'] at hw
    cases hw
    exact eqU_of rw' (List.all_eq_true.mp fs _ (List.getElem_mem h))
  have hs : sizeLine = 16777216 := sizeLine_eq
  refine call_meets PySem.F.slot_list_index ⟨_, ho, rfl⟩ PySem.F.entry_list_index (PySem.F.args_list_index_2 _ _) (SeqAt.list_indexAt p its.toArray n dd sl u (eqU y) j (by simp; omega) (by omega) ?_ ?_) ⟨ho, fun w hw => mem_eqAt ru fy r fs w (by simpa using hw), ⟨.int _, H, I.tok _, ⟨_, rfl⟩, q⟩⟩
  · rw [List.getElem_toArray, at' j hj1 (by omega)]; exact hj2
  · intro m hm hlt
    rw [List.getElem_toArray, at' m (by omega) (by omega)]
    simpa using hj3 m hlt
def mLCount (o v : Wv) (st : Hs) : Re Wv := match o with
  | .ref l => (match lstOf st l with
    | some ws => if flatW v = true ∧ ws.all flatW = true then .ok (.int (ws.countP fun z => eqF z v : Nat)) st else .bad
    | none => .bad)
  | _ => .bad
def mLIndex (o v : Wv) (st : Hs) : Re Wv := match o with
  | .ref l => (match lstOf st l with
    | some ws => if flatW v = true ∧ ws.all flatW = true then (match ws.findIdx? (fun z => eqF z v) with | some j => .ok (.int (j : Nat)) st | none => .bad) else .bad
    | none => .bad)
  | _ => .bad
theorem flatsW_rel {m : Mp} {H : Hp} : ∀ {ws : List Wv} {xs : List V}, RelWs X.K m H ws xs → ws.all flatW = true → xs.all flatV = true
  | [], xs, r, _ => by unfold RelWs at r; subst r; rfl
  | w :: ws, xs, r, f => by
    unfold RelWs at r
    obtain ⟨x, t, rfl, r1, r2⟩ := r
    rw [List.all_cons, Bool.and_eq_true] at f ⊢
    exact ⟨flat_rel r1 f.1, flatsW_rel r2 f.2⟩
theorem count_rel {m : Mp} {H : Hp} {v : Wv} {y : V} (rv : RelW X.K m H v y) (fv : flatW v = true) : ∀ {ws : List Wv} {xs : List V}, RelWs X.K m H ws xs → ws.all flatW = true → (xs.countP fun z => eqV z y) = ws.countP fun z => eqF z v
  | [], xs, r, _ => by unfold RelWs at r; subst r; rfl
  | w :: ws, xs, r, f => by
    unfold RelWs at r
    obtain ⟨x, t, rfl, r1, r2⟩ := r
    rw [List.all_cons, Bool.and_eq_true] at f
    rw [List.countP_cons, List.countP_cons, count_rel rv fv r2 f.2, eqF_rel r1 rv f.1 fv]
theorem find_rel {m : Mp} {H : Hp} {v : Wv} {y : V} (rv : RelW X.K m H v y) (fv : flatW v = true) : ∀ {ws : List Wv} {xs : List V}, RelWs X.K m H ws xs → ws.all flatW = true → xs.findIdx? (fun z => eqV z y) = ws.findIdx? fun z => eqF z v
  | [], xs, r, _ => by unfold RelWs at r; subst r; rfl
  | w :: ws, xs, r, f => by
    unfold RelWs at r
    obtain ⟨x, t, rfl, r1, r2⟩ := r
    rw [List.all_cons, Bool.and_eq_true] at f
    rw [List.findIdx?_cons, List.findIdx?_cons, find_rel rv fv r2 f.2, eqF_rel r1 rv f.1 fv]
theorem mw_lcount : MtW X "list.count" mLCount := ⟨_, mt_lcount, fun o w x v st H m Q S ro rw' p => by
  cases o with
  | ref l =>
    unfold RelW at ro
    obtain ⟨a, rfl, ha⟩ := ro
    unfold mLCount at p
    cases e : lstOf st l with
    | none => simp only [e] at p; exact False.elim p
    | some ws =>
      simp only [e] at p
      by_cases c : flatW w = true ∧ ws.all flatW = true
      · rw [if_pos c] at p
        obtain ⟨xs, q1, q2⟩ := S.read ha e
        refine ⟨a, xs, v, rfl, rfl, q1, flat_rel rw' c.1, flatsW_rel q2 c.2, ?_⟩
        rw [count_rel rw' c.1 q2 c.2]
        exact p _ m H Ext.refl S mkInt
      · rw [if_neg c] at p; exact False.elim p
  | _ => exact False.elim p⟩
theorem mw_lindex : MtW X "list.index" mLIndex := ⟨_, mt_lindex, fun o w x v st H m Q S ro rw' p => by
  cases o with
  | ref l =>
    unfold RelW at ro
    obtain ⟨a, rfl, ha⟩ := ro
    unfold mLIndex at p
    cases e : lstOf st l with
    | none => simp only [e] at p; exact False.elim p
    | some ws =>
      simp only [e] at p
      by_cases c : flatW w = true ∧ ws.all flatW = true
      · rw [if_pos c] at p
        obtain ⟨xs, q1, q2⟩ := S.read ha e
        cases ej : ws.findIdx? (fun z => eqF z w) with
        | none => rw [ej] at p; exact False.elim p
        | some j =>
          rw [ej] at p
          exact ⟨a, xs, v, j, rfl, rfl, q1, flat_rel rw' c.1, flatsW_rel q2 c.2, by rw [find_rel rw' c.1 q2 c.2]; exact ej, p _ m H Ext.refl S mkInt⟩
      · rw [if_neg c] at p; exact False.elim p
  | _ => exact False.elim p⟩
end
end J
namespace J
open PySem PySem.Spec PyProof.Rows L2
def keyOf : Wv → Option L2.Key
  | .int i => some (.inl i)
  | .str x => some (.inr x)
  | _ => none
theorem keyOf_rel {K : PySem.W.Frag} {m : Mp} {H : Hp} {w : Wv} {v : V} {k : L2.Key} (r : RelW K m H w v) (e : keyOf w = some k) : v = kV k := by
  cases w with
  | int i => cases e; unfold RelW at r; rw [r]; rfl
  | str x => cases e; unfold RelW at r; rw [r.1]; rfl
  | _ => cases e
def valW {κ : Type} [DecidableEq κ] (kvs : List (κ × Wv)) (k : κ) : Option Wv := match kvs with
  | [] => none
  | p :: r => if p.1 = k then some p.2 else valW r k
def putW {κ : Type} [DecidableEq κ] (kvs : List (κ × Wv)) (k : κ) (v : Wv) : List (κ × Wv) := if (kvs.any fun kv => decide (kv.1 = k)) = true then kvs.map (fun kv => if kv.1 = k then (kv.1, v) else kv) else kvs ++ [(k, v)]
def mergeW (kvs more : List (L2.Key × Wv)) : List (L2.Key × Wv) := more.foldl (fun acc kv => putW acc kv.1 kv.2) kvs
section
variable {K : PySem.W.Frag} {m : Mp} {H : Hp} {κ : Type}
theorem RelK.nil : RelK (κ := κ) K m H [] [] := ⟨rfl, RelWs.nil⟩
theorem RelK.cons {k : κ} {w : Wv} {v : V} {kvs : List (κ × Wv)} {xs : List (κ × V)} (h : RelW K m H w v) (t : RelK K m H kvs xs) : RelK K m H ((k, w) :: kvs) ((k, v) :: xs) :=
  ⟨by simp [t.1], by simpa using RelWs.cons h t.2⟩
theorem RelK.nil_inv {xs : List (κ × V)} (h : RelK K m H [] xs) : xs = [] := by
  have := h.1
  cases xs with
  | nil => rfl
  | cons a b => simp at this
theorem RelK.cons_inv {p : κ × Wv} {kvs : List (κ × Wv)} {xs : List (κ × V)} (h : RelK K m H (p :: kvs) xs) : ∃ v t, xs = (p.1, v) :: t ∧ RelW K m H p.2 v ∧ RelK K m H kvs t := by
  obtain ⟨h1, h2⟩ := h
  cases xs with
  | nil => simp at h1
  | cons q t =>
    simp at h1 h2
    unfold RelWs at h2
    obtain ⟨x, r, e1, e2, e3⟩ := h2
    cases e1
    exact ⟨q.2, t, by rw [h1.1], e2, h1.2, e3⟩
theorem RelK.length {kvs : List (κ × Wv)} {xs : List (κ × V)} (h : RelK K m H kvs xs) : kvs.length = xs.length := by
  have := congrArg List.length h.1
  simpa using this
variable [DecidableEq κ]
theorem RelK.val : ∀ {kvs : List (κ × Wv)} {xs : List (κ × V)} (k : κ), RelK K m H kvs xs → (valW kvs k = none → valV xs k = none) ∧ ∀ w, valW kvs k = some w → ∃ v, valV xs k = some v ∧ RelW K m H w v
  | [], xs, k, h => by
    rw [h.nil_inv]
    exact ⟨fun _ => rfl, (fun w e => by cases e)⟩
  | p :: r, xs, k, h => by
    obtain ⟨v, t, rfl, h1, h2⟩ := h.cons_inv
    obtain ⟨i1, i2⟩ := RelK.val k h2
    unfold valW
    by_cases e : p.1 = k
    · rw [if_pos e, valV_pos (by exact e)]
      exact ⟨(fun z => by cases z), fun w z => ⟨v, rfl, by cases z; exact h1⟩⟩
    · rw [if_neg e, valV_neg (by exact e)]
      exact ⟨i1, i2⟩
theorem RelK.any : ∀ {kvs : List (κ × Wv)} {xs : List (κ × V)} (k : κ), RelK K m H kvs xs → (kvs.any fun kv => decide (kv.1 = k)) = xs.any fun kv => decide (kv.1 = k)
  | [], xs, k, h => by rw [h.nil_inv]; rfl
  | p :: r, xs, k, h => by
    obtain ⟨v, t, rfl, h1, h2⟩ := h.cons_inv
    rw [List.any_cons, List.any_cons, RelK.any k h2]
theorem RelK.repl : ∀ {kvs : List (κ × Wv)} {xs : List (κ × V)} (k : κ) {w : Wv} {v : V}, RelK K m H kvs xs → RelW K m H w v → RelK K m H (kvs.map fun kv => if kv.1 = k then (kv.1, w) else kv) (xs.map fun kv => if kv.1 = k then (kv.1, v) else kv)
  | [], xs, k, w, v, h, r => by rw [h.nil_inv]; exact RelK.nil
  | p :: kvs, xs, k, w, v, h, r => by
    obtain ⟨u, t, rfl, h1, h2⟩ := h.cons_inv
    rw [List.map_cons, List.map_cons]
    by_cases e : p.1 = k
    · rw [if_pos e, if_pos (by exact e)]
      exact RelK.cons r (RelK.repl k h2 r)
    · rw [if_neg e, if_neg (by exact e)]
      exact RelK.cons h1 (RelK.repl k h2 r)
theorem RelK.snoc : ∀ {kvs : List (κ × Wv)} {xs : List (κ × V)} (k : κ) {w : Wv} {v : V}, RelK K m H kvs xs → RelW K m H w v → RelK K m H (kvs ++ [(k, w)]) (xs ++ [(k, v)])
  | [], xs, k, w, v, h, r => by rw [h.nil_inv]; exact RelK.cons r RelK.nil
  | p :: kvs, xs, k, w, v, h, r => by
    obtain ⟨u, t, rfl, h1, h2⟩ := h.cons_inv
    exact RelK.cons h1 (RelK.snoc k h2 r)
theorem RelK.put {kvs : List (κ × Wv)} {xs : List (κ × V)} (k : κ) {w : Wv} {v : V} (h : RelK K m H kvs xs) (r : RelW K m H w v) : RelK K m H (putW kvs k w) (putK xs k v) := by
  unfold putW putK
  rw [h.any k]
  split
  · exact h.repl k r
  · exact h.snoc k r
end
section
variable {K : PySem.W.Frag} {m : Mp} {H : Hp}
theorem RelK.merge : ∀ {more : List (L2.Key × Wv)} {ms : List (L2.Key × V)} {kvs : List (L2.Key × Wv)} {xs : List (L2.Key × V)}, RelK K m H kvs xs → RelK K m H more ms → RelK K m H (mergeW kvs more) (mergeK xs ms)
  | [], ms, kvs, xs, h, g => by rw [g.nil_inv]; exact h
  | p :: more, ms, kvs, xs, h, g => by
    obtain ⟨u, t, rfl, h1, h2⟩ := g.cons_inv
    have := RelK.merge (more := more) (ms := t) (kvs := putW kvs p.1 p.2) (xs := putK xs p.1 u) (RelK.put p.1 h h1) h2
    exact this
end
abbrev GKV := Rho → Hs → Re (List (L2.Key × Wv))
def pairsG : List (GE × GE) → GKV
  | [] => fun _ st => .ok [] st
  | (gk, gv) :: r => fun ρ st => (gk ρ st).bind fun k st1 => match keyOf k with
    | none => .bad
    | some kk => (gv ρ st1).bind fun v st2 => (pairsG r ρ st2).bind fun l st3 => .ok ((kk, v) :: l) st3
def gDisp (gs : List (GE × GE)) : GE := fun ρ st => (pairsG gs ρ (st ++ [.dct []])).bind fun kvs st2 => match st2[st.length]? with
  | some (.dct []) => .ok (.ref st.length) (st2.set st.length (.dct (mergeW [] kvs)))
  | _ => .bad
section
variable {X : Cx}
inductive JPs (X : Cx) (pos : Pos) : List (Option Expr) → List Expr → List (GE × GE) → Prop
  | nil : JPs X pos [] [] []
  | cons {k v : Expr} {ks : List (Option Expr)} {vs : List Expr} {gk gv : GE} {gs : List (GE × GE)} : JE X k gk → JE X v gv → JPs X pos ks vs gs → JPs X pos (some k :: ks) (v :: vs) ((gk, gv) :: gs)
def trsOf (X : Cx) : List (Option Expr) → List Expr → List (TE × TE)
  | some k :: ks, v :: vs => (SE X k, SE X v) :: trsOf X ks vs
  | _, _ => []
theorem jps_pps {pos : Pos} {ks : List (Option Expr)} {vs : List Expr} {gs : List (GE × GE)} (h : JPs X pos ks vs gs) : PPs X pos ks vs (trsOf X ks vs) := by
  induction h with
  | nil => exact pps_nil
  | cons _ _ _ ih => exact pps_cons pe_SE pe_SE ih
theorem jps_all {pos : Pos} {ks : List (Option Expr)} {vs : List Expr} {gs : List (GE × GE)} (h : JPs X pos ks vs gs) : ks.all (·.isSome) = true ∧ ks.length = vs.length ∧ gs.length = ks.length := by
  induction h with
  | nil => exact ⟨rfl, rfl, rfl⟩
  | cons _ _ _ ih => exact ⟨by simp [ih.1], by simp [ih.2.1], by simp [ih.2.2]⟩
theorem jps_read {pos : Pos} {ks : List (Option Expr)} {vs : List Expr} {gs : List (GE × GE)} (h : JPs X pos ks vs gs) : ∀ {ρ : Rho} {st : Hs} {σ : St} {H : Hp} {m : Mp} {ok : List (L2.Key × Wv) → Hs → Prop} {T : List (V × V) → Hp → Prop}, Sim X.K m st H → RelEnv X.K m H ρ σ → PostG X σ m H (pairsG gs ρ st) ok →
    (∀ (kvs : List (L2.Key × Wv)) (st1 : Hs) (xs : List (L2.Key × V)) (m1 : Mp) (H1 : Hp), ok kvs st1 → Ext X.K m H m1 H1 → Sim X.K m1 st1 H1 → RelK X.K m1 H1 kvs xs → kvs.length = gs.length → T (xs.map fun kv => (kV kv.1, kv.2)) H1) → tPairs (trsOf X ks vs) σ H T := by
  induction h with
  | nil => intro ρ st σ H m ok T S R p k; exact k [] st [] m H p Ext.refl S RelK.nil rfl
  | cons hk hv _ ih =>
    intro ρ st σ H m ok T S R p k
    unfold pairsG at p
    refine hk.go S R (PostG.bind p) fun w st1 v m1 H1 p1 e1 S1 r1 => ?_
    cases e : keyOf w with
    | none => rw [e] at p1; exact False.elim p1
    | some kk =>
      rw [e] at p1
      refine hv.go S1 (R.mono e1) ((PostG.bind p1).imp e1 fun _ _ q => q) fun w2 st2 v2 m2 H2 p2 e2 S2 r2 => ?_
      refine ih S2 (R.mono (e1.trans e2)) ((PostG.bind p2).imp (e1.trans e2) fun _ _ q => q) fun kvs st3 xs m3 H3 p3 e3 S3 r3 l3 => ?_
      have := k ((kk, w2) :: kvs) st3 ((kk, v2) :: xs) m3 H3 p3 (e1.trans (e2.trans e3)) S3 (RelK.cons (RelW.mono e3 _ _ r2) r3) (by simp [l3])
      rw [keyOf_rel r1 e]
      exact this
theorem je_disp {pos : Pos} {ks : List (Option Expr)} {vs : List Expr} {gs : List (GE × GE)} (h : JPs X pos ks vs gs) (h0 : ks ≠ []) (h15 : ks.length ≤ 15) : JE X (.Dict ks vs pos) (gDisp gs) :=
  JE.of (pe_disp (jps_pps h) (jps_all h).1 (jps_all h).2.1 h0 h15) fun ρ st σ H m Q S R p => by
    intro q hq
    have ex : Ext X.K m H (m ++ [q]) (upd H q (.dK [])) := Ext.more.trans (Ext.updW (.inl hq))
    have S0 : Sim X.K (m ++ [q]) (st ++ [.dct []]) (upd H q (.dK [])) := S.allocO hq ⟨[], upd_same, RelK.nil⟩
    refine jps_read h S0 (R.mono ex) ((PostG.bind p).imp ex fun _ _ q => q) fun kvs st2 xs m2 H2 p2 e2 S2 r2 l2 => ?_
    have hm : m2[st.length]? = some q := e2.pre _ _ (by rw [← S.len, List.getElem?_append_right (Nat.le_refl _), Nat.sub_self]; rfl)
    cases e : st2[st.length]? with
    | none => rw [e] at p2; exact False.elim p2
    | some o =>
      rw [e] at p2
      cases o with
      | lst _ => exact False.elim p2
      | scr _ => exact False.elim p2
      | dcT _ => exact False.elim p2
      | dct kk =>
        cases kk with
        | cons _ _ => exact False.elim p2
        | nil =>
          obtain ⟨ys, y1, y2⟩ := (show ∃ ys, H2 q = some (.dK ys) ∧ RelK X.K m2 H2 [] ys from S2.obj _ _ _ hm e)
          rw [y2.nil_inv] at y1
          have wr : Wr (H2 q) := .inr (.inr (.inl ⟨_, y1⟩))
          have e3 : Ext X.K m2 H2 m2 (upd H2 q (.dK (mergeK [] xs))) := Ext.updW wr
          have S3 := S2.writeO (ob := .dct (mergeW [] kvs)) hm e rfl ⟨mergeK [] xs, upd_same, (RelK.merge RelK.nil r2).mono e3⟩
          refine ⟨y1, xs, rfl, by rw [← r2.length, l2, (jps_all h).2.2]; exact h15, ?_⟩
          exact p2 (.ref q) m2 _ (ex.trans (e2.trans e3)) S3 (by unfold RelW; exact ⟨q, rfl, hm⟩)
end
def FlatV : Wv → Value → Prop
  | .int i, u => ∃ t, u = .int i t
  | .str x, u => (∃ t, u = .str x t) ∧ PyData.strOk x = true
  | _, _ => False
abbrev Dc := List (PySem.Str × Wv)
def EntsOk (w : World) : Dc → List DictEntry → Prop
  | [], [] => True
  | (k, v) :: r, e :: t => (e.hash = hashStr w k ∧ (∃ tk, e.key = .str k tk) ∧ FlatV v e.val) ∧ EntsOk w r t
  | _, _ => False
def DcAt (K : PySem.W.Frag) (w : World) (mg : Str → Option Value) (x : Str) (kvs : Dc) : Prop :=
  ∃ (a : Addr) (es : Array DictEntry) (ep : Nat), mg x = some (.ref a) ∧ K.lookup a = some ⟨.type "dict", none, .dict es ep, #[]⟩ ∧ (a == sysModules) = false ∧ EntsOk w kvs es.toList ∧ (kvs.map (·.1)).Nodup
theorem ents_get {P : Program} {w : World} : ∀ {kvs : Dc} {l : List DictEntry}, EntsOk w kvs l → ∃ vs : List (PySem.Str × Value), vs.map (·.1) = kvs.map (·.1) ∧ Pairs (PySem.strKind P w) l vs ∧ (∀ e ∈ l, ∃ k, (PySem.strKind P w).is k e.key = true ∧ e.hash = (PySem.strKind P w).hash k) ∧
    ∀ k, (kvs.lookup k = none → valueAt vs k = none) ∧ ∀ v, kvs.lookup k = some v → ∃ u, valueAt vs k = some u ∧ FlatV v u
  | [], [], _ => ⟨[], rfl, .nil, (fun _ z => by cases z), fun k => ⟨fun _ => rfl, (fun v z => by cases z)⟩⟩
  | (k, v) :: r, e :: t, h => by
    obtain ⟨⟨h1, ⟨tk, h2⟩, h3⟩, h4⟩ := h
    obtain ⟨vs, i1, i2, i3, i4⟩ := ents_get (P := P) h4
    have his : (PySem.strKind P w).is k e.key = true := by rw [h2]; exact strKind_is P w k tk
    refine ⟨(k, e.val) :: vs, by simp [i1], .cons his rfl i2, fun e' he => ?_, fun k' => ?_⟩
    · rcases List.mem_cons.mp he with z | z
      · subst z; exact ⟨k, his, h1⟩
      · exact i3 e' z
    · rw [List.lookup_cons]
      unfold valueAt
      rw [List.find?_cons]
      by_cases ek : k = k'
      · subst ek
        have b1 : (k == k) = true := by simp
        rw [b1]
        simp only [decide_true, Option.map_some]
        exact ⟨(fun z => by cases z), fun v' z => ⟨e.val, rfl, by cases z; exact h3⟩⟩
      · have b1 : (k' == k) = false := beq_eq_false_iff_ne.mpr fun z => ek z.symm
        rw [b1]
        simp only [ek, decide_false]
        exact i4 k'
  | [], _ :: _, h => False.elim h
  | _ :: _, [], h => False.elim h
theorem dc_dict {P : Program} {w : World} {K : PySem.W.Frag} {h : Heap} {a : Addr} {es : Array DictEntry} {ep : Nat} {kvs : Dc} (KX : K.In h) (hl : K.lookup a = some ⟨.type "dict", none, .dict es ep, #[]⟩) (he : EntsOk w kvs es.toList) (nd : (kvs.map (·.1)).Nodup) :
    ∃ vs : List (PySem.Str × Value), h.DictOf (PySem.strKind P w) a vs ∧ ∀ k, (kvs.lookup k = none → valueAt vs k = none) ∧ ∀ v, kvs.lookup k = some v → ∃ u, valueAt vs k = some u ∧ FlatV v u := by
  obtain ⟨vs, i1, i2, i3, i4⟩ := ents_get (P := P) he
  exact ⟨vs, ⟨_, es, ep, KX a _ hl, ⟨rfl, rfl, rfl⟩, rfl, fun e hm => i3 e (by simpa using hm), i2, by rw [i1]; exact nd⟩, i4⟩
section
variable {X : Cx}
def gDcIx (kvs : Dc) (ga : GE) : GE := fun ρ st => (ga ρ st).bind fun a st1 => match a with
  | .str k => (match kvs.lookup k with | some w => .ok w st1 | none => .bad)
  | _ => .bad
def tDcIx (kvs : Dc) (ty : TE) : TE := fun σ H Q => ty σ H fun y H1 => ∃ z w v, y = .str z ∧ kvs.lookup z = some w ∧ (∀ u, FlatV w u → RelV v u) ∧ Q v H1
theorem pe_dcIx {b : Expr} {ty : TE} {x : Str} {p pos : Pos} {kvs : Dc} (hb : PE X b ty) (hs : NoSl b) (hg : Gl X x) (hd : (x == ("__debug__" : Str)) = false) (D : DcAt X.K X.w X.mg x kvs) : PE X (.Subscript (.Name x p) b pos) (tDcIx kvs ty) := by
  intro pins s σ H Q I h
  obtain ⟨a, es, ep, g1, g2, g3, g4, g5⟩ := D
  refine subD_of PySem.F.slot_dict_getitem.lookup hs (thn (pe_glob (v := .ref a) hg g1 rfl hd pins s σ H (fun v H2 => v = .ref a ∧ H2 = H) I ⟨rfl, rfl⟩) fun u s1 ⟨v, H1, I1, rv, ev, eH⟩ => ?_)
  subst ev eH
  obtain rfl : u = Value.ref a := rv
  refine thn (hb pins s1 σ H1 _ I1 h) fun iv s2 ⟨y, H2, I2, ry, z, w, v, ey, ew, ev, q⟩ => ?_
  subst ey
  obtain ⟨t, rfl⟩ := (show ∃ t, iv = Value.str z t from ry)
  obtain ⟨vs, dd, look⟩ := dc_dict (P := X.prog) (w := X.w) I2.kIn g2 g4 g5
  obtain ⟨u, e1, e2⟩ := (look z).2 w ew
  exact ⟨dd.typeIs, wpAny_getItem_of (strKind_is X.prog X.w z t) dd.mapOf e1 ⟨v, H2, I2.tok _, ev u e2, q⟩⟩
theorem je_dcIx {b : Expr} {gb : GE} {x : Str} {p pos : Pos} {kvs : Dc} (hb : JE X b gb) (hs : NoSl b) (hg : Gl X x) (hd : (x == ("__debug__" : Str)) = false) (D : DcAt X.K X.w X.mg x kvs) : JE X (.Subscript (.Name x p) b pos) (gDcIx kvs gb) :=
  JE.of (pe_dcIx pe_SE hs hg hd D) fun ρ st σ H m Q S R p => by
    refine hb.go S R (PostG.bind p) fun w st1 v m1 H1 p1 e1 S1 r1 => ?_
    cases w with
    | str k =>
      dsimp only at p1
      cases e : kvs.lookup k with
      | none => rw [e] at p1; exact False.elim p1
      | some u =>
        rw [e] at p1
        unfold RelW at r1
        cases u with
        | int i => exact ⟨k, .int i, .int i, r1.1, e, fun u h => h, p1 _ m1 H1 e1 S1 (by unfold RelW; rfl)⟩
        | str y =>
          by_cases hy : PyData.strOk y = true
          · exact ⟨k, .str y, .str y, r1.1, e, fun u h => h.1, p1 _ m1 H1 e1 S1 (by unfold RelW; exact ⟨rfl, hy⟩)⟩
          · obtain ⟨a, es, ep, _, _, _, g4, _⟩ := D
            obtain ⟨vs, _, _, _, i4⟩ := ents_get (P := X.prog) g4
            obtain ⟨u, _, e2⟩ := (i4 k).2 _ e
            exact absurd e2.2 hy
        | _ =>
          obtain ⟨a, es, ep, _, _, _, g4, _⟩ := D
          obtain ⟨vs, _, _, _, i4⟩ := ents_get (P := X.prog) g4
          obtain ⟨u, _, e2⟩ := (i4 k).2 _ e
          exact False.elim e2
    | _ => exact False.elim p1
end
end J
namespace J
open PySem PySem.Spec PyProof.Rows PySem.W L2
section
variable (lt : Nat → Nat → Bool) (N : Nat)
def Kg {α : Type} : KasT α → (α → Prop) → Prop
  | .ret a, Q => Q a
  | .ask i j k, Q => (i < N ∧ j < N) ∧ Kg (k (lt i j)) Q
end
section
variable {lt : Nat → Nat → Bool} {N : Nat}
theorem Kg.bind {α β : Type} {f : α → KasT β} {Q : β → Prop} : ∀ {t : KasT α}, Kg lt N t (fun a => Kg lt N (f a) Q) → Kg lt N (t.bind f) Q
  | .ret a, h => h
  | .ask i j k, h => ⟨h.1, Kg.bind (t := k (lt i j)) h.2⟩
theorem Kg.imp {α : Type} {Q R : α → Prop} (hq : ∀ a, Q a → R a) : ∀ {t : KasT α}, Kg lt N t Q → Kg lt N t R
  | .ret a, h => hq a h
  | .ask i j k, h => ⟨h.1, Kg.imp hq (t := k (lt i j)) h.2⟩
theorem Kg.wp {α : Type} {cmp : Nat → Nat → (Bool → Shared → Prop) → Shared → Prop} {P : Shared → Prop} (hc : ∀ i j C s, i < N → j < N → P s → (∀ s', P s' → C (lt i j) s') → cmp i j C s) {G : α → Shared → Prop} :
    ∀ {t : KasT α} {s : Shared}, P s → Kg lt N t (fun a => ∀ s', P s' → G a s') → t.kasWp cmp G s
  | .ret a, s, hs, h => h s hs
  | .ask i j k, s, hs, h => hc i j _ s h.1.1 h.1.2 hs fun s' hs' => Kg.wp hc (t := k (lt i j)) hs' h.2
structure Ord (lt : Nat → Nat → Bool) : Prop where
  as : ∀ a b, lt a b = true → lt b a = false
  tr : ∀ a b c, lt a b = false → lt b c = false → lt a c = false
theorem Ord.irr (o : Ord lt) (a : Nat) : lt a a = false := by
  cases h : lt a a with
  | false => rfl
  | true => have := o.as a a h; rw [h] at this; cases this
theorem Ord.lt_le (o : Ord lt) {a b c : Nat} (h1 : lt a b = true) (h2 : lt c b = false) : lt a c = true := by
  cases h : lt a c with
  | true => rfl
  | false => have := o.tr a c b h h2; rw [h1] at this; cases this
abbrev at_ (p : Array Nat) (i : Nat) : Nat := p.getD i 0
structure Pm (N : Nat) (p : Array Nat) : Prop where
  sz : p.size = N
  pm : p.toList.Perm (List.range N)
theorem Pm.bd {p : Array Nat} (h : Pm N p) {i : Nat} (hi : i < N) : at_ p i < N := by
  have e : at_ p i = p[i]'(by rw [h.sz]; exact hi) := by simp [at_, Array.getD, h.sz, hi]
  rw [e]
  have : p[i]'(by rw [h.sz]; exact hi) ∈ p.toList := by simp
  exact List.mem_range.mp (h.pm.mem_iff.mp this)
theorem getD_of {p q : Array Nat} {i j : Nat} (h : p[i]? = q[j]?) : at_ p i = at_ q j := by
  unfold at_
  rw [Array.getD_eq_getD_getElem?, Array.getD_eq_getD_getElem?, h]
theorem Pm.rev {p : Array Nat} (h : Pm N p) (i j : Nat) : Pm N (kas_rev p i j) := ⟨by unfold kas_rev; rw [mirror_size]; exact h.sz, ((Array.perm_iff_toList_perm.mp (mirror_perm _ _ _ _)).trans h.pm)⟩
theorem Pm.bub {p : Array Nat} (h : Pm N p) (k d : Nat) : Pm N (bubble p k d) := ⟨by rw [bubble_size]; exact h.sz, ((Array.perm_iff_toList_perm.mp (bubble_perm _ _ _)).trans h.pm)⟩
theorem rev_at {p : Array Nat} (h : Pm N p) {i j : Nat} (hj : j ≤ N) (k : Nat) : at_ (kas_rev p i j) k = if i ≤ k ∧ k < j then at_ p (i + j - 1 - k) else at_ p k := by
  have q := getElem?_mirror_all (xs := p) (i := i) (j := j) (by rw [h.sz]; exact hj) k
  unfold kas_rev
  split
  · rename_i c; rw [if_pos c] at q; exact getD_of q
  · rename_i c; rw [if_neg c] at q; exact getD_of q
theorem bub_at {p : Array Nat} (h : Pm N p) {k l : Nat} (hk : k < N) (hl : l ≤ k) (i : Nat) : at_ (bubble p k (k - l)) i = if i = l then at_ p k else if l < i ∧ i ≤ k then at_ p (i - 1) else at_ p i := by
  have q := getElem?_bubble (xs := p) (src := k) (by rw [h.sz]; exact hk) (k - l) (by omega) i
  have e : k - (k - l) = l := by omega
  rw [e] at q
  split
  · rename_i c; rw [if_pos c] at q; exact getD_of q
  · rename_i c
    rw [if_neg c] at q
    split
    · rename_i d; rw [if_pos d] at q; exact getD_of q
    · rename_i d; rw [if_neg d] at q; exact getD_of q
def Up (lt : Nat → Nat → Bool) (p : Array Nat) (k : Nat) : Prop := ∀ i j, i ≤ j → j < k → lt (at_ p j) (at_ p i) = false
def Dn (lt : Nat → Nat → Bool) (p : Array Nat) (k : Nat) : Prop := ∀ i j, i ≤ j → j < k → lt (at_ p i) (at_ p j) = false
theorem Up.succ (o : Ord lt) {p : Array Nat} {k : Nat} (h : Up lt p k) (hk : 1 ≤ k) (e : lt (at_ p k) (at_ p (k - 1)) = false) : Up lt p (k + 1) := by
  intro i j hij hj
  by_cases c : j < k
  · exact h i j hij c
  · have : j = k := by omega
    subst this
    by_cases c2 : i = j
    · subst c2; exact o.irr _
    · exact o.tr _ _ _ e (h i (j - 1) (by omega) (by omega))
theorem Dn.succ (o : Ord lt) {p : Array Nat} {k : Nat} (h : Dn lt p k) (hk : 1 ≤ k) (e : lt (at_ p (k - 1)) (at_ p k) = false) : Dn lt p (k + 1) := by
  intro i j hij hj
  by_cases c : j < k
  · exact h i j hij c
  · have : j = k := by omega
    subst this
    by_cases c2 : i = j
    · subst c2; exact o.irr _
    · exact o.tr _ _ _ (h i (j - 1) (by omega) (by omega)) e
theorem kg_asc (o : Ord lt) {p : Array Nat} (hp : Pm N p) : ∀ (f n : Nat), 1 ≤ n → n + f ≤ N → Up lt p n → Kg lt N (kas_asc p f n) (fun m => n ≤ m ∧ m ≤ n + f ∧ Up lt p m ∧ (m < n + f → lt (at_ p m) (at_ p (m - 1)) = true))
  | 0, n, h1, h2, h3 => ⟨Nat.le_refl _, Nat.le_refl _, h3, fun z => absurd z (Nat.lt_irrefl _)⟩
  | f + 1, n, h1, h2, h3 => by
    refine ⟨⟨hp.bd (by omega), hp.bd (by omega)⟩, ?_⟩
    cases e : lt (p.getD n 0) (p.getD (n - 1) 0) with
    | true =>
      dsimp only
      rw [if_pos rfl]
      exact ⟨Nat.le_refl _, by omega, h3, fun _ => e⟩
    | false =>
      dsimp only
      rw [if_neg (by simp)]
      refine (kg_asc o hp f (n + 1) (by omega) (by omega) (h3.succ o h1 e)).imp fun m ⟨q1, q2, q3, q4⟩ => ⟨by omega, by omega, q3, fun z => q4 (by omega)⟩
def Lv (lt : Nat → Nat → Bool) (p : Array Nat) (a n : Nat) : Prop := ∀ i j, a ≤ i → i < n → a ≤ j → j < n → lt (at_ p i) (at_ p j) = false
theorem Dn.rev (o : Ord lt) {p : Array Nat} (hp : Pm N p) {a n : Nat} (hn : n ≤ N) (ha : a ≤ n) (h : Dn lt p n) (hl : Lv lt p a n) : Dn lt (kas_rev p a n) n := by
  intro i j hij hj
  rw [rev_at hp hn, rev_at hp hn]
  by_cases ci : a ≤ i
  · rw [if_pos ⟨ci, by omega⟩, if_pos ⟨by omega, hj⟩]
    exact hl _ _ (by omega) (by omega) (by omega) (by omega)
  · rw [if_neg (by omega)]
    by_cases cj : a ≤ j
    · rw [if_pos ⟨cj, hj⟩]
      exact h _ _ (by omega) (by omega)
    · rw [if_neg (by omega)]
      exact h _ _ hij hj
theorem Dn.up {p : Array Nat} (hp : Pm N p) {n : Nat} (hn : n ≤ N) (h : Dn lt p n) : Up lt (kas_rev p 0 n) n := by
  intro i j hij hj
  rw [rev_at hp hn, rev_at hp hn, if_pos ⟨by omega, hj⟩, if_pos ⟨by omega, by omega⟩]
  exact h _ _ (by omega) (by omega)
theorem kg_desc (o : Ord lt) : ∀ (f : Nat) (p : Array Nat) (n q : Nat), Pm N p → q + 1 ≤ n → n + f ≤ N → Dn lt p n → Lv lt p (n - 1 - q) n →
    Kg lt N (kas_desc f p n q) (fun r => Pm N r.1 ∧ r.2.2 + 1 ≤ r.2.1 ∧ r.2.1 ≤ N ∧ Dn lt r.1 r.2.1 ∧ Lv lt r.1 (r.2.1 - 1 - r.2.2) r.2.1)
  | 0, p, n, q, hp, hq, hn, hd, hl => ⟨hp, hq, by omega, hd, hl⟩
  | f + 1, p, n, q, hp, hq, hn, hd, hl => by
    refine ⟨⟨hp.bd (by omega), hp.bd (by omega)⟩, ?_⟩
    cases e : lt (p.getD n 0) (p.getD (n - 1) 0) with
    | true =>
      dsimp only
      rw [if_pos rfl]
      have one : ∀ p' : Array Nat, Lv lt p' (n + 1 - 1 - 0) (n + 1) := fun p' i j h1 h2 h3 h4 => by
        have : i = j := by omega
        subst this
        exact o.irr _
      by_cases hq0 : q > 0
      · rw [if_pos hq0]
        have z : n - (q + 1) = n - 1 - q := by omega
        have hl2 : Lv lt p (n - (q + 1)) n := by rw [z]; exact hl
        refine kg_desc o f _ (n + 1) 0 (hp.rev _ _) (by omega) (by omega) (Dn.succ o (Dn.rev o hp (by omega) (by omega) hd hl2) (by omega) ?_) (one _)
        rw [rev_at hp (by omega), rev_at hp (by omega), if_pos ⟨by omega, by omega⟩, if_neg (by omega)]
        -- the last of the row stands level with the one that was last
        have lv := hl (n - (q + 1) + n - 1 - (n - 1)) (n - 1) (by omega) (by omega) (by omega) (by omega)
        cases z : lt (at_ p (n - (q + 1) + n - 1 - (n - 1))) (at_ p n) with
        | false => rfl
        | true =>
          have a1 := o.as _ _ e
          have := o.tr _ _ _ lv a1
          rw [z] at this
          cases this
      · rw [if_neg hq0]
        exact kg_desc o f p (n + 1) 0 hp (by omega) (by omega) (hd.succ o (by omega) (o.as _ _ e)) (one _)
    | false =>
      dsimp only
      rw [if_neg (by simp)]
      refine ⟨⟨hp.bd (by omega), hp.bd (by omega)⟩, ?_⟩
      cases e2 : lt (p.getD (n - 1) 0) (p.getD n 0) with
      | true =>
        dsimp only
        rw [if_pos rfl]
        exact ⟨hp, hq, by show n ≤ N; omega, hd, hl⟩
      | false =>
        dsimp only
        rw [if_neg (by simp)]
        refine kg_desc o f p (n + 1) (q + 1) hp (by omega) (by omega) (hd.succ o (by omega) e2) ?_
        intro i j h1 h2 h3 h4
        have key : ∀ i, n - 1 - q ≤ i → i < n → lt (at_ p i) (at_ p n) = false ∧ lt (at_ p n) (at_ p i) = false := fun i a b =>
          ⟨o.tr _ _ _ (hl i (n - 1) a b (by omega) (by omega)) e2, o.tr _ _ _ e (hl (n - 1) i (by omega) (by omega) a b)⟩
        by_cases ci : i < n
        · by_cases cj : j < n
          · exact hl i j (by omega) ci (by omega) cj
          · have : j = n := by omega
            subst this
            exact (key i (by omega) ci).1
        · have : i = n := by omega
          subst this
          by_cases cj : j < i
          · exact (key j (by omega) cj).2
          · have : j = i := by omega
            subst this
            exact o.irr _
abbrev Run (lt : Nat → Nat → Bool) (N : Nat) (r : Nat × Array Nat) : Prop := Pm N r.2 ∧ 1 ≤ r.1 ∧ r.1 ≤ N ∧ Up lt r.2 r.1
theorem kg_tail (o : Ord lt) {p : Array Nat} {n : Nat} (hp : Pm N p) (h1 : 1 ≤ n) (hn : n ≤ N) (hd : Dn lt p n) : Kg lt N (kas_tail3 n N p) (Run lt N) := by
  unfold kas_tail3
  refine Kg.bind ((kg_asc o (hp.rev 0 n) (N - n) n h1 (by omega) (hd.up hp hn)).imp fun m ⟨q1, q2, q3, _⟩ => ?_)
  exact ⟨hp.rev 0 n, by show 1 ≤ m; omega, by show m ≤ N; omega, q3⟩
theorem kg_descPart (o : Ord lt) {p : Array Nat} {n : Nat} (hp : Pm N p) (hn : n + 1 ≤ N) (h1 : 1 ≤ n) (hd : Dn lt p (n + 1)) : Kg lt N (kas_descPart n N p) (Run lt N) := by
  unfold kas_descPart
  have one : Lv lt p (n + 1 - 1 - 0) (n + 1) := fun i j h1 h2 h3 h4 => by
    have : i = j := by omega
    subst this
    exact o.irr _
  refine Kg.bind ((kg_desc o (N - (n + 1)) p (n + 1) 0 hp (by omega) (by omega) hd one).imp fun r ⟨q1, q2, q3, q4, q5⟩ => ?_)
  by_cases c : r.2.2 > 0
  · rw [if_pos c]
    refine kg_tail o (q1.rev _ _) (by omega) q3 (Dn.rev o q1 q3 (by omega) q4 ?_)
    have z : r.2.1 - (r.2.2 + 1) = r.2.1 - 1 - r.2.2 := by omega
    rw [z]; exact q5
  · rw [if_neg c]
    exact kg_tail o q1 (by omega) q3 q4
theorem kg_count (o : Ord lt) {p : Array Nat} (hp : Pm N p) (h1 : 1 ≤ N) : Kg lt N (kas_count N p) (Run lt N) := by
  unfold kas_count
  have u1 : Up lt p 1 := fun i j a b => by
    have : i = j := by omega
    subst this
    exact o.irr _
  refine Kg.bind ((kg_asc o hp (N - 1) 1 (Nat.le_refl _) (by omega) u1).imp fun n ⟨q1, q2, q3, q4⟩ => ?_)
  by_cases c : n = N
  · rw [if_pos (by simp [c])]
    exact ⟨hp, by show 1 ≤ n; omega, by show n ≤ N; omega, q3⟩
  · rw [if_neg (by simp [c])]
    have hs := q4 (by omega)
    by_cases c2 : n > 1
    · rw [if_pos c2]
      refine ⟨⟨hp.bd (by omega), hp.bd (by omega)⟩, ?_⟩
      cases e : lt (p.getD 0 0) (p.getD (n - 1) 0) with
      | true =>
        dsimp only
        rw [if_pos rfl]
        exact ⟨hp, by show 1 ≤ n; omega, by show n ≤ N; omega, q3⟩
      | false =>
        dsimp only
        rw [if_neg (by simp)]
        -- all level
        have lv : ∀ i j, i < n → j < n → lt (at_ p i) (at_ p j) = false := fun i j hi hj => by
          have a1 := q3 0 i (by omega) hi
          have a2 := q3 j (n - 1) (by omega) (by omega)
          exact o.tr _ _ _ (o.tr _ _ _ a1 e) a2
        refine kg_descPart o (hp.rev 0 n) (by omega) (by omega) (Dn.succ o ?_ (by omega) ?_)
        · intro i j hij hj
          rw [rev_at hp (by omega), rev_at hp (by omega), if_pos ⟨by omega, by omega⟩, if_pos ⟨by omega, by omega⟩]
          exact lv _ _ (by omega) (by omega)
        · rw [rev_at hp (by omega), rev_at hp (by omega), if_pos ⟨by omega, by omega⟩, if_neg (by omega)]
          have a1 := o.as _ _ hs
          exact o.tr _ _ _ (lv _ (n - 1) (by omega) (by omega)) a1
    · rw [if_neg c2]
      have hn : n = 1 := by omega
      subst hn
      refine kg_descPart o hp (by omega) (by omega) ?_
      refine Dn.succ o (fun i j a b => by
        have : i = j := by omega
        subst this
        exact o.irr _) (by omega) (o.as _ _ hs)
theorem kg_place (o : Ord lt) {p : Array Nat} (hp : Pm N p) {k : Nat} (hk : k < N) : ∀ (f l r : Nat), l ≤ r → r ≤ k → r - l ≤ f → Up lt p k → (∀ i, i < l → lt (at_ p k) (at_ p i) = false) → (∀ i, r ≤ i → i < k → lt (at_ p k) (at_ p i) = true) →
    Kg lt N (kas_place p k f l r) (fun m => m ≤ k ∧ (∀ i, i < m → lt (at_ p k) (at_ p i) = false) ∧ ∀ i, m ≤ i → i < k → lt (at_ p k) (at_ p i) = true)
  | 0, l, r, h1, h2, h3, u, a, b => ⟨by omega, a, fun i h => b i (by omega)⟩
  | f + 1, l, r, h1, h2, h3, u, a, b => by
    unfold kas_place
    by_cases c : l ≥ r
    · rw [if_pos c]
      exact ⟨by omega, a, fun i h => b i (by omega)⟩
    · rw [if_neg c]
      refine ⟨⟨hp.bd hk, hp.bd (by omega)⟩, ?_⟩
      cases e : lt (p.getD k 0) (p.getD ((l + r) / 2) 0) with
      | true =>
        dsimp only
        rw [if_pos rfl]
        refine kg_place o hp hk f l ((l + r) / 2) (by omega) (by omega) (by omega) u a fun i hi hk' => ?_
        exact o.lt_le e (u _ _ hi hk')
      | false =>
        dsimp only
        rw [if_neg (by simp)]
        refine kg_place o hp hk f ((l + r) / 2 + 1) r (by omega) h2 (by omega) u (fun i hi => ?_) b
        exact o.tr _ _ _ e (u i ((l + r) / 2) (by omega) (by omega))
theorem kg_bin (o : Ord lt) : ∀ (f : Nat) (p : Array Nat) (k : Nat), Pm N p → k + f = N → Up lt p k → Kg lt N (kas_bin f p k) (fun p' => Pm N p' ∧ Up lt p' N)
  | 0, p, k, hp, hk, u => by
    have : k = N := by omega
    subst this
    exact ⟨hp, u⟩
  | f + 1, p, k, hp, hk, u => by
    unfold kas_bin
    refine Kg.bind ((kg_place o hp (by omega) k 0 k (by omega) (Nat.le_refl _) (by omega) u (fun i h => absurd h (by omega)) (fun i h1 h2 => absurd h2 (by omega))).imp fun l ⟨q1, q2, q3⟩ => ?_)
    refine kg_bin o f _ (k + 1) (hp.bub _ _) (by omega) ?_
    intro i j hij hj
    have bi := bub_at hp (k := k) (l := l) (by omega) q1 i
    have bj := bub_at hp (k := k) (l := l) (by omega) q1 j
    rw [bi, bj]
    by_cases e : j = l
    · rw [if_pos e]
      by_cases e' : i = l
      · rw [if_pos e']; exact o.irr _
      · rw [if_neg e', if_neg (by omega)]
        exact q2 i (by omega)
    · rw [if_neg e]
      by_cases d : l < j ∧ j ≤ k
      · rw [if_pos d]
        by_cases e' : i = l
        · rw [if_pos e']
          exact o.as _ _ (q3 (j - 1) (by omega) (by omega))
        · rw [if_neg e']
          by_cases d' : l < i ∧ i ≤ k
          · rw [if_pos d']
            exact u _ _ (by omega) (by omega)
          · rw [if_neg d']
            exact u _ _ (by omega) (by omega)
      · rw [if_neg d, if_neg (by omega), if_neg (by omega)]
        exact u _ _ hij (by omega)
theorem kg_sort (o : Ord lt) (h1 : 1 ≤ N) : Kg lt N (kas_sort N) (fun p => Pm N p ∧ Up lt p N) := by
  have h0 : Pm N (List.toArray (List.range N)) := ⟨by simp, by simp⟩
  unfold kas_sort
  refine Kg.bind ((kg_count o h0 h1).imp fun r ⟨q1, q2, q3, q4⟩ => ?_)
  by_cases c : r.1 < N
  · rw [if_pos c]
    have z : max r.1 1 = r.1 := by omega
    rw [z]
    exact kg_bin o _ _ _ q1 (by omega) q4
  · rw [if_neg c]
    have z : r.1 = N := by omega
    rw [z] at q4
    exact ⟨q1, q4⟩
end
def ltP (a b : Int × Int) : Bool := decide (a.1 < b.1) || (decide (a.1 = b.1) && decide (a.2 < b.2))
theorem ltP_as {a b : Int × Int} (h : ltP a b = true) : ltP b a = false := by
  unfold ltP at h ⊢
  simp at h ⊢
  omega
theorem ltP_tr {a b c : Int × Int} (h : ltP a b = false) (k : ltP b c = false) : ltP a c = false := by
  unfold ltP at h k ⊢
  simp at h k ⊢
  omega
theorem ltP_eq {a b : Int × Int} (h : ltP a b = false) (k : ltP b a = false) : a = b := by
  unfold ltP at h k
  simp at h k
  exact Prod.ext (by omega) (by omega)
def insP (n : Int × Int) : List (Int × Int) → List (Int × Int)
  | [] => [n]
  | a :: r => if ltP a n = true then a :: insP n r else n :: a :: r
def srtP : List (Int × Int) → List (Int × Int)
  | [] => []
  | a :: r => insP a (srtP r)
theorem insP_perm (n : Int × Int) : ∀ l, (insP n l).Perm (n :: l)
  | [] => .refl _
  | a :: r => by
    unfold insP
    split
    · exact ((insP_perm n r).cons a).trans (.swap n a r)
    · exact .refl _
theorem srtP_perm : ∀ l, (srtP l).Perm l
  | [] => .nil
  | a :: r => (insP_perm a (srtP r)).trans ((srtP_perm r).cons a)
abbrev UpP (l : List (Int × Int)) : Prop := l.Pairwise fun a b => ltP b a = false
theorem insP_up (n : Int × Int) : ∀ l, UpP l → UpP (insP n l)
  | [], _ => by simp [insP]
  | a :: r, h => by
    unfold insP
    rw [UpP, List.pairwise_cons] at h
    split
    · rename_i c
      rw [UpP, List.pairwise_cons]
      refine ⟨fun b hb => ?_, insP_up n r h.2⟩
      rcases List.mem_cons.mp ((insP_perm n r).mem_iff.mp hb) with z | z
      · rw [z]; exact ltP_as c
      · exact h.1 b z
    · rename_i c
      have c' : ltP a n = false := by simpa using c
      rw [UpP, List.pairwise_cons, List.pairwise_cons]
      refine ⟨fun b hb => ?_, h⟩
      rcases List.mem_cons.mp hb with z | z
      · rw [z]; exact c'
      · exact ltP_tr (h.1 b z) c'
theorem srtP_up : ∀ l, UpP (srtP l)
  | [] => .nil
  | a :: r => insP_up a _ (srtP_up r)
theorem srtP_one {a b : List (Int × Int)} (h : a.Perm b) (ha : UpP a) (hb : UpP b) : a = b :=
  List.Perm.eq_of_pairwise (fun _ _ _ _ h1 h2 => ltP_eq h2 h1) ha hb h
section
variable {prog : Program} {w : World} {A : Around} {E : Value → Shared → Prop} {s : Shared}
theorem lt_pair {x y : Addr} {ox oy : Obj} {a1 a2 b1 b2 : Int} {t1 t2 u1 u2 : Tok} {n k : Nat} {Q : Bool → Shared → Prop} (hx : s.heap.get? x = some ox) (dx : ox.data = .seq #[.int a1 t1, .int a2 t2] n) (hy : s.heap.get? y = some oy) (dy : oy.data = .seq #[.int b1 u1, .int b2 u2] k)
    (h : Q (ltP (a1, a2) (b1, b2)) s) : wpAny (model prog w) A (keyLt' (tuples' true) (.ref x) (.ref y)) Q E s := by
  have hq : ∀ b, b = ltP (a1, a2) (b1, b2) → Q b s := fun b e => by rw [e]; exact h
  refine kat_lt hx dx hy dy ?_
  refine kat_cons (wpAny_eqBool_int (kat_go (fun e => kat_yes ?_) (fun e => kat_no ?_)))
  · refine kat_cons (wpAny_eqBool_int (kat_go (fun e2 => kat_yes ?_) (fun e2 => kat_no ?_)))
    · refine kat_nil (hq _ ?_)
      have z1 : a1 = b1 := by simpa using e
      have z2 : a2 = b2 := by simpa using e2
      subst z1 z2
      simp [ltP]
    · refine kat_one _ _ (PyProof.Rows.lt_int ?_)
      show Q (decide (a2 < b2)) s
      refine hq _ ?_
      have z1 : a1 = b1 := by simpa using e
      subst z1
      simp [ltP]
  · refine oneLt_int (hq _ ?_)
    have z1 : ¬ a1 = b1 := by simpa using e
    simp [ltP, z1]
end
theorem paired_getD {α β : Type} {F : α → β → Prop} {a : α} {b : β} : ∀ {l : List α} {k : List β} {i : Nat}, Paired F l k → i < k.length → F (l.getD i a) (k.getD i b)
  | _, _, 0, .cons h _, _ => by simpa using h
  | _, _, i + 1, .cons _ t, hi => by simpa using paired_getD (i := i) t (by simpa using hi)
theorem paired_map {α β : Type} {F : α → β → Prop} {f : Nat → α} {g : Nat → β} : ∀ {l : List Nat}, (∀ i ∈ l, F (f i) (g i)) → Paired F (l.map f) (l.map g)
  | [], _ => .nil
  | i :: l, h => .cons (h i (by simp)) (paired_map fun j hj => h j (by simp [hj]))
def TupAt (h : Heap) (v : Value) (q : Int × Int) : Prop := ∃ (a : Addr) (o : Obj) (t u : Tok) (n : Nat), v = .ref a ∧ h.get? a = some o ∧ o.cls = .type "tuple" ∧ o.data = .seq #[.int q.1 t, .int q.2 u] n
abbrev PrA (H : Hp) : List V → List (Int × Int) → Prop := Paired fun v q => ∃ a, v = .ref a ∧ H a = some (.tup [.int q.1, .int q.2])
theorem vals_pair {x y : Int} {its : List Value} (h : Vals [.int x, .int y] its) : ∃ t u, its = [.int x t, .int y u] := by
  cases h with
  | cons h1 h2 =>
    cases h2 with
    | cons h3 h4 =>
      cases h4
      obtain ⟨t, rfl⟩ := h1
      obtain ⟨u, rfl⟩ := h3
      exact ⟨t, u, rfl⟩
section
variable {X : Cx} {pins : List (Addr × Obj)} {σ : St} {H : Hp} {s : Shared}
theorem prA_at (I : Inv X pins σ H s) : ∀ {vs : List V} {ps : List (Int × Int)} {its : List Value}, PrA H vs ps → Vals vs its → Paired (TupAt s.heap) its ps
  | _, _, _, .nil, .nil => .nil
  | _, _, _, .cons h t, .cons r rs => by
    obtain ⟨a, rfl, hT⟩ := h
    cases r
    obtain ⟨its, rv, ⟨o, g1, g2, n, g3⟩, _⟩ := I.tuple (SqT.of hT)
    obtain ⟨t1, u1, rfl⟩ := vals_pair rv
    exact .cons ⟨a, o, t1, u1, n, rfl, g1, g2, g3⟩ (prA_at I t rs)
end
theorem tups_kat {h : Heap} : ∀ {its : List Value} {ps : List (Int × Int)}, Paired (TupAt h) its ps → ∃ fs : List Value, KatTups h its fs ∧ fs.length = ps.length ∧ ∀ v ∈ fs, ∃ i t, v = .int i t
  | _, _, .nil => ⟨[], .nil, rfl, (fun _ z => by cases z)⟩
  | _, _, .cons (b := q) hd tl => by
    obtain ⟨fs, k1, k2, k3⟩ := tups_kat tl
    obtain ⟨a, o, t, u, n, rfl, g1, g2, g3⟩ := hd
    refine ⟨.int q.1 t :: fs, .cons g1 g2 g3 rfl k1, by simp [k2], fun v hv => ?_⟩
    rcases List.mem_cons.mp hv with z | z
    · exact ⟨_, _, z⟩
    · exact k3 v z
theorem tups_keep {h h' : Heap} (k : ∀ a o its n, h.get? a = some o → o.data = .seq its n → h'.get? a = some o) : ∀ {its : List Value} {ps : List (Int × Int)}, Paired (TupAt h) its ps → Paired (TupAt h') its ps
  | _, _, .nil => .nil
  | _, _, .cons hd tl => by
    obtain ⟨a, o, t, u, n, e, g1, g2, g3⟩ := hd
    exact .cons ⟨a, o, t, u, n, e, k a o _ _ g1 g3, g2, g3⟩ (tups_keep k tl)
theorem ns_fun {h h' : Heap} {L : Addr} {m m' : Str → Option Value} (a : h.Ns L m) (b : h.Ns L m') (c : h'.Ns L m) : h'.Ns L m' := by
  obtain ⟨o, es, ep, e1, e2, _, e4⟩ := a
  obtain ⟨o', es', ep', f1, f2, _, f4⟩ := b
  rw [e1] at f1
  cases f1
  rw [e2] at f2
  cases f2
  have : m = m' := funext fun x => (e4 x).symm.trans (f4 x)
  rw [← this]
  exact c
theorem range_getD {α : Type} {d : α} (l : List α) : (List.range l.length).map (fun i => l.getD i d) = l := by
  refine List.ext_getElem (by simp) fun i h1 h2 => ?_
  simp [h2]
section
variable {X : Cx}
theorem call_srtP : CallR X (.builtin "sorted") (fun xs H Q => ∃ (p : Addr) (vs : List V) (ps : List (Int × Int)), xs = [.ref p] ∧ SqL X.K H p vs ∧ PrA H vs ps ∧ 2 ≤ ps.length ∧ ps.length < 64 ∧ ∀ l vs', H l = none → PrA H vs' (srtP ps) → Q (.ref l) (upd H l (.lst vs'))) := by
  intro pins s σ H xs us Q I r h
  obtain ⟨p, vs, ps, rfl, hq, hp, h2, h64, q⟩ := h
  obtain ⟨u, rfl, rx⟩ := vals1 r
  cases rx
  obtain ⟨its, r', pl, hz⟩ := I.list hq
  have tu := prA_at I hp r'
  have l1 : vs.length = its.length := r'.length
  have l2 : its.length = ps.length := tu.length
  obtain ⟨m, hn, hl⟩ := id I.loc
  obtain ⟨oL, esL, epL, gL, dL, _⟩ := id hn
  refine kat_sorted (Att.fr_all hn) (news_all (g := Att.noObjs s.heap) (h := s.heap) (L := X.env.locals)) pl.isList (by omega) (by omega) fun D e1 h' F' N' hD => ?_
  have keep : ∀ b o, b ≠ X.env.locals → s.heap.get? b = some o → h'.get? b = some o := fun b o n e => (N' (b, o) (List.mem_cons_of_mem _ (mem_allNews n (Att.noObjs_get _ _) e))).1
  have tu' : Paired (TupAt h') its ps := tups_keep (fun a o its n e d => keep a o (fun z => by
    subst z
    rw [gL] at e
    cases e
    rw [dL] at d
    cases d) e) tu
  obtain ⟨fs, k1, k2, k3⟩ := tups_kat tu'
  refine kat_kind (T := .type "int") (s := { s with heap := h' }) k1 (by omega) (fun v hv => by obtain ⟨i, t, rfl⟩ := k3 v hv; exact Looks.of_pure rfl) (by decide) ?_
  have et : (Value.type "int" != Value.type "tuple") = true := by decide
  rw [et, l2]
  have od : Ord fun i j => ltP (ps.getD i (0, 0)) (ps.getD j (0, 0)) := ⟨fun a b h => ltP_as h, fun a b c h k => ltP_tr h k⟩
  refine Kg.wp (lt := fun i j => ltP (ps.getD i (0, 0)) (ps.getD j (0, 0))) (N := ps.length) (P := fun s'' => s'' = { s with heap := h' }) (fun i j C s'' hi hj hs hC => ?_) rfl ((kg_sort od (by omega)).imp fun pm ⟨P1, P2⟩ s'' hs => ?_)
  · subst hs
    obtain ⟨a, o, t, u, n, e, g1, g2, g3⟩ := paired_getD (a := Value.none) (b := (0, 0)) tu' hi
    obtain ⟨a', o', t', u', n', e', g1', g2', g3'⟩ := paired_getD (a := Value.none) (b := (0, 0)) tu' hj
    unfold kas_ask
    rw [e, e']
    exact lt_pair (s := { s with heap := h' }) g1 g3 g1' g3' (hC _ rfl)
  · subst hs
    refine KasFin.intro (s := { s with heap := h' }) F' N' (.head fun q hq => Nat.ne_of_lt (hD q hq)) fun h'' c F'' N'' => ?_
    have hDL : D ≠ X.env.locals := (N' (D, _) List.mem_cons_self).2.1
    have keep2 : ∀ b o, b ≠ X.env.locals → s.heap.get? b = some o → h''.get? b = some o := fun b o n e => (N'' (b, o) (List.mem_cons_of_mem _ (mem_allNews n (Att.noObjs_get _ _) e))).1
    have hD0 : s.heap.get? D = none := by
      cases e : s.heap.get? D with
      | none => rfl
      | some o => exact absurd (hD (D, o) (mem_allNews hDL (Att.noObjs_get _ _) e)) (Nat.lt_irrefl _)
    have hHD : H D = none := by
      cases e : H D with
      | none => rfl
      | some ob =>
        obtain ⟨z, e'⟩ := objOk_get (I.hok D ob e)
        rw [hD0] at e'
        cases e'
    have mem : ∀ i ∈ pm.toList, i < ps.length := fun i hi => List.mem_range.mp (P1.pm.mem_iff.mp hi)
    have hv : Vals (pm.toList.map fun i => vs.getD i .non) (pm.toList.map fun i => its.getD i Value.none) := paired_map fun i hi => paired_getD r' (by have := mem i hi; omega)
    have hsr : (pm.toList.map fun i => ps.getD i (0, 0)) = srtP ps := by
      refine srtP_one ((P1.pm.map _).trans (by rw [range_getD]; exact (srtP_perm ps).symm)) ?_ (srtP_up _)
      rw [UpP, List.pairwise_map, List.pairwise_iff_getElem]
      intro i j hi hj hij
      have z := P2 i j (by omega) (by have := P1.sz; simpa [this] using hj)
      have ei : at_ pm i = pm.toList[i] := by
        have : i < pm.size := by simpa using hi
        simp [at_, Array.getD, this]
      have ej : at_ pm j = pm.toList[j] := by
        have : j < pm.size := by simpa using hj
        simp [at_, Array.getD, this]
      rw [ei, ej] at z
      exact z
    have hpr : PrA H (pm.toList.map fun i => vs.getD i .non) (srtP ps) := by
      rw [← hsr]
      exact paired_map fun i hi => paired_getD hp (mem i hi)
    have hlen : pm.toList.length = ps.length := by have := P1.sz; simpa using this
    have neD : ∀ b u, H b = some u → b ≠ D := fun b u e => ne_of_none e hHD
    have neL : ∀ b u, H b = some u → b ≠ X.env.locals := fun b u e => ne_of_none e I.free
    have I' : Inv X pins σ (upd H D (.lst (pm.toList.map fun i => vs.getD i .non))) { s with heap := h'' } := by
      refine I.step (g' := s.gens) (d' := s.drawn) (t' := s.toks) (ch := []) (fun _ z => nomatch z) (fun b o n _ _ e _ => keep2 b o n e) (fun b o n _ _ e _ => ⟨o.slots, keep2 b o n e⟩) (fun b o _ e n => ?_) (fun b o _ e => ?_) (fun b xs e => ?_) (fun b o u e => ?_) (fun b ps e => ?_) (fun m' hm => ns_fun hn hm F''.ns) (fun b ob e => ?_) I.bare
      · rw [upd_ne (fun z => by subst z; rw [hD0] at e; cases e)]; exact n
      · by_cases z : b = X.env.locals
        · subst z
          obtain ⟨o', _, _, e', _⟩ := F''.ns
          exact ⟨o', e'⟩
        · exact ⟨o, keep2 b o z e⟩
      · rw [upd_ne (neD _ _ e)]; exact e
      · rw [upd_ne (neD _ _ e)]; exact e
      · exact ⟨#[], by rw [upd_ne (neD _ _ e), e]; simp⟩
      · by_cases z : b = D
        · subst z
          rw [upd_same] at e
          cases e
          exact ⟨by rw [List.length_map, hlen, ← l2, ← l1]; exact hz, _, c, hv, (N'' (b, _) List.mem_cons_self).1⟩
        · rw [upd_ne z] at e
          refine (I.hok b ob e).stay (fun c v hc q => keep2 c v ?_ q) (fun c q => by rw [upd_ne (neD _ _ q)]; exact q) fun c xs q => by rw [upd_ne (neD _ _ q)]; exact q
          rcases hc with y | y
          · rw [y]; exact neL b ob e
          · exact neL c _ y
    exact ⟨.ref D, _, I', rfl, q D _ hHD hpr⟩
end
section
variable {prog : Program} {w : World} {A : Around} {E : Value → Shared → Prop} {s : Shared}
theorem lsort_one {a : Addr} {v : Value} {n : Nat} {P : PySem.Fin → Shared → Prop} (ho : s.heap.get? a = some (seqObj "list" #[v] n)) (k : P (.done (.ret .none)) { s with heap := sortedHeap s.heap a [v] #[v] }) : wpAny (model prog w) A (Builtin.«list.sort» ⟨[.ref a], []⟩) P E s := by
  obtain ⟨c, hc⟩ : ∃ c, (s.heap.update a (Obj.mapSeq fun _ => (#[] : Array Value))).get? a = some (seqObj "list" #[] c) := ⟨_, get?_update_seq ho fun _ => #[]⟩
  have big : (((s.heap.update a (Obj.mapSeq fun _ => (#[] : Array Value))).push (seqObj "tuple" #[v] 0)).push (seqObj "list" #[] 0)).get? a = some (seqObj "list" #[] c) := Heap.get?_push_of_some _ (Heap.get?_push_of_some _ hc)
  rw [list_sort_plain]
  refine wpAny_bind (listItems_at ho rfl (wpAny_bind (listUpdate_at ho rfl (wpAny_bind (seqEpoch_at hc rfl (wpAny_bind (wpAny_newTuple (wpAny_bind (wpAny_newList (wpAny_holding ?_)))))))))) 
  show wpAny (model prog w) A _ P E { s with heap := ((s.heap.update a (Obj.mapSeq fun _ => (#[] : Array Value))).push (seqObj "tuple" #[v] 0)).push (seqObj "list" #[] 0) }
  have few : (#[v] : Array Value).size < 2 := by simp
  dsimp only
  rw [if_pos few, if_pos few]
  refine wpAny_bind (wpAny_pure (wpAny_bind ?_))
  rw [StateT.run_pure]
  refine wpAny_pure ?_
  have mp : Array.map (fun x : Keyed => x.2) (arrOf (SortSt.mk' general' (#[v].zip #[v]) #[] 7 none)) = #[v] := by
    show Array.map (fun x : Keyed => x.2) (#[v].zip #[v]) = #[v]
    simp
  dsimp only
  simp only [mp]
  refine wpAny_bind (seqEpoch_at big rfl (wpAny_bind (listUpdate_at big rfl ?_)))
  simp only [bne_self_eq_false, Bool.false_eq_true, if_false]
  exact wpAny_pure k
theorem sorted_one {l : Addr} {v : Value} {Q : Value → Shared → Prop} (hl : s.heap.IsList l #[v]) (k : Q (.ref (s.heap.objs.size + 1)) { s with heap := sortedAll s.heap [v] #[v] }) : wpAny (model prog w) A (call (.builtin "sorted") [.ref l]) Q E s := by
  have zz : ((s.heap.push (seqObj "list" #[] 0)).update s.heap.objs.size (Obj.mapSeq (· ++ #[v]))).objs.size = s.heap.objs.size + 1 := (Heap.size_update ..).trans (size_push' ..)
  have hh : (((s.heap.push (seqObj "list" #[] 0)).update s.heap.objs.size (Obj.mapSeq (· ++ #[v]))).push (seqObj "list" #[v] 0)).get? (s.heap.objs.size + 1) = some (seqObj "list" #[v] 0) := zz ▸ Heap.get?_push_size _ rfl
  refine Calls.call_function_entry kind_sorted plain_sorted entry_sorted (args_sorted1 _) ?_
  unfold Builtin.«sorted»
  refine wpAny_bind (m := checkCount "sorted" 1 1 _) (wpAny_pure (wpAny_bind (collect_list hl (wpAny_bind (wpAny_newList ?_)))))
  show wpAny _ _ _ _ _ { s with heap := ((s.heap.push (seqObj "list" #[] 0)).update s.heap.objs.size (Obj.mapSeq (· ++ #[v]))).push (seqObj "list" #[v] 0) }
  rw [zz]
  exact wpAny_bind (wpAny_holding (wpAny_call_entry slot_list_sort ⟨_, hh, rfl⟩ entry_list_sort (lsort_one hh ⟨_, rfl, wpAny_pure ⟨_, rfl, k⟩⟩) (args_list_sort _)))
end
section
variable {X : Cx}
theorem call_srt1 : CallR X (.builtin "sorted") (fun xs H Q => ∃ (p : Addr) (v : V), xs = [.ref p] ∧ SqL X.K H p [v] ∧ ∀ l, H l = none → Q (.ref l) (upd H l (.lst [v]))) := by
  intro pins s σ H xs us Q I r h
  obtain ⟨p, v, rfl, hq, q⟩ := h
  obtain ⟨u, rfl, rx⟩ := vals1 r
  cases rx
  obtain ⟨its, r', pl, hz⟩ := I.list hq
  cases r' with
  | cons h1 h2 =>
    cases h2
    rename_i u
    obtain ⟨n, hat⟩ := sortedAll_at s.heap [u] #[u]
    refine sorted_one pl.isList ⟨.ref (s.heap.objs.size + 1), _, I.laid (t' := s.toks) (fun _ _ => sortedAll_old) (Nat.le_succ _) (show ObjOk X.prog X.w _ _ _ (.lst _) from ⟨hz, [u], n, .cons h1 .nil, ?_⟩), rfl, q _ (I.hok.fresh (Nat.le_succ _))⟩
    rw [hat]
def pairsW : List Wv → Option (List (Int × Int))
  | [] => some []
  | .tup [.int a, .int b] :: r => (match pairsW r with | some l => some ((a, b) :: l) | none => none)
  | _ => none
abbrev pw (p : Int × Int) : Wv := .tup [.int p.1, .int p.2]
theorem pairsW_map : ∀ ps : List (Int × Int), pairsW (ps.map pw) = some ps
  | [] => rfl
  | p :: r => by rw [List.map_cons]; unfold pairsW; rw [pairsW_map r]
theorem pairsW_rel {K : PySem.W.Frag} {m : Mp} {H : Hp} : ∀ {ws : List Wv} {vs : List V} {ps : List (Int × Int)}, RelWs K m H ws vs → pairsW ws = some ps → PrA H vs ps
  | [], vs, ps, r, e => by
    unfold RelWs at r
    subst r
    cases e
    exact .nil
  | w :: ws, vs, ps, r, e => by
    unfold RelWs at r
    obtain ⟨x, t, rfl, r1, r2⟩ := r
    unfold pairsW at e
    split at e
    · cases ‹_ :: _ = []›
    · rename_i a b r' he
      cases he
      cases q : pairsW ws with
      | none => rw [q] at e; cases e
      | some l =>
        rw [q] at e
        cases e
        unfold RelW at r1
        obtain ⟨ad, xs, rfl, hT, rx⟩ := r1
        unfold RelWs at rx
        obtain ⟨y1, z1, rfl, ry1, rx⟩ := rx
        unfold RelWs at rx
        obtain ⟨y2, z2, rfl, ry2, rx⟩ := rx
        unfold RelWs at rx
        subst rx
        unfold RelW at ry1 ry2
        subst ry1 ry2
        exact .cons ⟨ad, rfl, hT⟩ (pairsW_rel r2 q)
    · cases e
theorem rel_pairsW {K : PySem.W.Frag} {m : Mp} {H : Hp} : ∀ {vs : List V} {ps : List (Int × Int)}, PrA H vs ps → RelWs K m H (ps.map pw) vs
  | _, _, .nil => RelWs.nil
  | _, _, .cons h t => by
    obtain ⟨a, rfl, hT⟩ := h
    refine RelWs.cons ?_ (rel_pairsW t)
    unfold RelW
    exact ⟨a, _, rfl, hT, RelWs.cons (by unfold RelW; rfl) (RelWs.cons (by unfold RelW; rfl) RelWs.nil)⟩
def oSrt2 : List Wv → Hs → Re Wv
  | [.ref l], st => match lstOf st l with
    | some [w] => .ok (.ref st.length) (st ++ [.lst [w]])
    | some ws => (match pairsW ws with | some ps => if 2 ≤ ps.length ∧ ps.length < 64 then .ok (.ref st.length) (st ++ [.lst ((srtP ps).map pw)]) else oSrt [.ref l] st | none => oSrt [.ref l] st)
    | none => .bad
  | _, _ => .bad
theorem cw_srt2 : CallW X (.builtin "sorted") oSrt2 := by
  obtain ⟨rr, h1, h2⟩ := cw_srt (X := X)
  refine ⟨_, call_srt1.or (call_srtP.or h1), fun ws vs st H m Q S rs p => ?_⟩
  match ws, rs, p with
  | [], rs, p => exact False.elim p
  | x :: y :: t, rs, p => cases x <;> exact False.elim p
  | [x], rs, p =>
    cases x with
    | ref l =>
      have rs0 := rs
      obtain ⟨v, rfl, r1⟩ := rel1 rs
      unfold oSrt2 at p
      unfold RelW at r1
      obtain ⟨a, rfl, hl⟩ := r1
      cases e : lstOf st l with
      | none => simp only [e] at p; exact False.elim p
      | some ws =>
        simp only [e] at p
        obtain ⟨xs, q1, q2⟩ := S.read hl e
        have alt : (∃ w, ws = [w]) ∨ PostO X.K m H (match pairsW ws with | some ps => if 2 ≤ ps.length ∧ ps.length < 64 then .ok (.ref st.length) (st ++ [.lst ((srtP ps).map pw)]) else oSrt [.ref l] st | none => oSrt [.ref l] st) Q := by
          cases ws with
          | nil => exact .inr p
          | cons w t =>
            cases t with
            | nil => exact .inl ⟨w, rfl⟩
            | cons w' t => exact .inr p
        rcases alt with ⟨w, rfl⟩ | p
        · unfold RelWs at q2
          obtain ⟨x, r, rfl, rx, q3⟩ := q2
          unfold RelWs at q3
          subst q3
          refine .inl ⟨a, x, rfl, q1, fun k hk => ?_⟩
          exact p (.ref k) (m ++ [k]) _ (Ext.more.trans (Ext.upd (.inl hk))) (S.alloc hk (RelWs.cons rx RelWs.nil)) (S.newest k _)
        · cases e2 : pairsW ws with
          | none => rw [e2] at p; exact .inr (.inr (h2 [.ref l] [.ref a] st H m Q S rs0 p))
          | some ps =>
            rw [e2] at p
            dsimp only at p
            by_cases c : 2 ≤ ps.length ∧ ps.length < 64
            · rw [if_pos c] at p
              refine .inr (.inl ⟨a, xs, ps, rfl, q1, pairsW_rel q2 e2, c.1, c.2, fun k vs' hk hp => ?_⟩)
              exact p (.ref k) (m ++ [k]) _ (Ext.more.trans (Ext.upd (.inl hk))) (S.alloc hk (rel_pairsW hp)) (S.newest k _)
            · rw [if_neg c] at p
              exact .inr (.inr (h2 [.ref l] [.ref a] st H m Q S rs0 p))
    | _ => exact False.elim p
end
end J
namespace J
open PySem PySem.Spec PyProof.Rows L2
def keysOf : List Wv → Option (List L2.Key)
  | [] => some []
  | w :: r => (match keyOf w, keysOf r with | some k, some l => some (k :: l) | _, _ => none)
def keyT : Wv → Option (List L2.Key)
  | .tup ws => keysOf ws
  | _ => none
theorem keysOf_rel {K : PySem.W.Frag} {m : Mp} {H : Hp} : ∀ {ws : List Wv} {xs : List V} {ks : List L2.Key}, RelWs K m H ws xs → keysOf ws = some ks → xs = ks.map kV
  | [], xs, ks, r, e => by unfold RelWs at r; subst r; cases e; rfl
  | w :: ws, xs, ks, r, e => by
    unfold RelWs at r
    obtain ⟨x, t, rfl, r1, r2⟩ := r
    unfold keysOf at e
    cases e1 : keyOf w with
    | none => rw [e1] at e; cases e
    | some k =>
      cases e2 : keysOf ws with
      | none => rw [e1, e2] at e; cases e
      | some l =>
        rw [e1, e2] at e
        cases e
        rw [keyOf_rel r1 e1, keysOf_rel r2 e2]
        rfl
theorem keyT_rel {K : PySem.W.Frag} {m : Mp} {H : Hp} {w : Wv} {v : V} {ks : List L2.Key} (r : RelW K m H w v) (e : keyT w = some ks) : ∃ b, v = .ref b ∧ H b = some (.tup (ks.map kV)) := by
  cases w with
  | tup ws =>
    unfold RelW at r
    obtain ⟨a, xs, rfl, h1, h2⟩ := r
    rw [keysOf_rel h2 e] at h1
    exact ⟨a, rfl, h1⟩
  | _ => cases e
def gNewT : GE := fun _ st => .ok (.ref st.length) (st ++ [.dcT []])
def gNewK : GE := fun _ st => .ok (.ref st.length) (st ++ [.dct []])
section
variable {X : Cx}
theorem je_newT {pos : Pos} : JE X (.Dict [] [] pos) gNewT := JE.of pe_dnewT fun ρ st σ H m Q S R p => fun q hq =>
  p (.ref q) (m ++ [q]) _ (Ext.more.trans (Ext.updW (.inl hq))) (S.allocO hq ⟨[], upd_same, RelK.nil⟩) (S.newest q _)
theorem je_newK {pos : Pos} : JE X (.Dict [] [] pos) gNewK := JE.of pe_dnewK fun ρ st σ H m Q S R p => fun q hq =>
  p (.ref q) (m ++ [q]) _ (Ext.more.trans (Ext.updW (.inl hq))) (S.allocO hq ⟨[], upd_same, RelK.nil⟩) (S.newest q _)
def putD (d k v : Wv) (st : Hs) : Option Hs := match d with
  | .ref l => (match st[l]? with
    | some (.dct kvs) => (match keyOf k with | some kk => if kvs.length < lim then some (st.set l (.dct (putW kvs kk v))) else none | none => none)
    | some (.dcT kvs) => (match keyT k with | some kk => if kvs.length < lim then some (st.set l (.dcT (putW kvs kk v))) else none | none => none)
    | _ => none)
  | _ => none
def gDPut (gv gd gk : GE) : GS := fun ρ st => (gv ρ st).thn ρ fun v st1 => (gd ρ st1).thn ρ fun d st2 => (gk ρ st2).thn ρ fun k st3 => match putD d k v st3 with
  | some st4 => .nx ρ st4
  | none => .bad
theorem putD_ok {m : Mp} {st st' : Hs} {H : Hp} {d k v : Wv} {x y z : V} (S : Sim X.K m st H) (rd : RelW X.K m H d x) (rk : RelW X.K m H k y) (rv : RelW X.K m H v z) (e : putD d k v st = some st') : ∃ a H', x = .ref a ∧ DPut H a y z H' ∧ Ext X.K m H m H' ∧ Sim X.K m st' H' := by
  unfold putD at e
  cases d with
  | ref l =>
    dsimp only at e
    unfold RelW at rd
    obtain ⟨a, rfl, ha⟩ := rd
    cases e1 : st[l]? with
    | none => rw [e1] at e; cases e
    | some o =>
      rw [e1] at e
      cases o with
      | dct kvs =>
        dsimp only at e
        cases e2 : keyOf k with
        | none => rw [e2] at e; cases e
        | some kk =>
          rw [e2] at e
          dsimp only at e
          by_cases c : kvs.length < lim
          · rw [if_pos c] at e
            cases e
            obtain ⟨xs, h1, h2⟩ := (show ∃ ys, H a = some (.dK ys) ∧ RelK X.K m H kvs ys from S.obj _ _ _ ha e1)
            have ex : Ext X.K m H m (upd H a (.dK (putK xs kk z))) := Ext.updW (.inr (.inr (.inl ⟨_, h1⟩)))
            refine ⟨a, _, rfl, by rw [keyOf_rel rk e2]; exact DPut.k h1 (by rw [← h2.length]; exact lim_lt c), ex, ?_⟩
            exact S.writeO ha e1 rfl ⟨_, upd_same, (h2.put kk rv).mono ex⟩
          · rw [if_neg c] at e; cases e
      | dcT kvs =>
        dsimp only at e
        cases e2 : keyT k with
        | none => rw [e2] at e; cases e
        | some kk =>
          rw [e2] at e
          dsimp only at e
          by_cases c : kvs.length < lim
          · rw [if_pos c] at e
            cases e
            obtain ⟨xs, h1, h2⟩ := (show ∃ ys, H a = some (.dT ys) ∧ RelK X.K m H kvs ys from S.obj _ _ _ ha e1)
            obtain ⟨b, rfl, hb⟩ := keyT_rel rk e2
            have ex : Ext X.K m H m (upd H a (.dT (putK xs kk z))) := Ext.updW (.inr (.inr (.inr ⟨_, h1⟩)))
            refine ⟨a, _, rfl, DPut.t h1 hb (by rw [← h2.length]; exact lim_lt c), ex, ?_⟩
            exact S.writeO ha e1 rfl ⟨_, upd_same, (h2.put kk rv).mono ex⟩
          · rw [if_neg c] at e; cases e
      | _ => cases e
  | _ => cases e
theorem js_dput {o i e : Expr} {go gi ge : GE} {pos pos' : Pos} (hu : X.A.units + 1 < cLine) (he : JE X e ge) (ho : JE X o go) (hi : JE X i gi) (hs : swapsWith e (some (.Subscript o i pos')) pos.line X.env = pure false) : JS X (.Assign [.Subscript o i pos'] e pos) (gDPut ge go gi) :=
  JS.of (ps_dput hu pe_SE pe_SE pe_SE hs) fun ρ st σ H m D S R p => by
    refine he.go S R (PostS.of_thn R p) fun v st1 vv m1 H1 p1 e1 S1 rv => ?_
    refine ho.go S1 (R.mono e1) ((PostS.of_thn (m := m) (H := H) R p1).imp e1 fun _ _ q => q) fun d st2 vd m2 H2 p2 e2 S2 rd => ?_
    refine hi.go S2 (R.mono (e1.trans e2)) ((PostS.of_thn (m := m) (H := H) R p2).imp (e1.trans e2) fun _ _ q => q) fun k st3 vk m3 H3 p3 e3 S3 rk => ?_
    have e13 := e1.trans (e2.trans e3)
    cases e4 : putD d k v st3 with
    | none => rw [e4] at p3; exact False.elim p3
    | some st4 =>
      rw [e4] at p3
      obtain ⟨a, H4, f1, f2, f3, f4⟩ := putD_ok (X := X) S3 (RelW.mono e3 _ _ rd) rk (RelW.mono (e2.trans e3) _ _ rv) e4
      exact ⟨a, H4, f1, f2, p3 σ m3 H4 (e13.trans f3) f4 (R.mono (e13.trans f3))⟩
end
end J
namespace J
open PySem PySem.Spec PyProof.Rows PySem.W L2
def DRaw (h : Heap) (d : Addr) (es : Array DictEntry) (ep : Nat) : Prop := ∃ o, h.get? d = some o ∧ o.cls = .type "dict" ∧ o.data = .dict es ep
section
variable {prog : Program} {w : World} {A : Around} {E : Value → Shared → Prop} {s : Shared} {d it : Addr} {es : Array DictEntry} {ep i : Nat}
theorem DRaw.ty (x : DRaw s.heap d es ep) : s.TypeIs (.ref d) "dict" := let ⟨o, h1, h2, _⟩ := x; ⟨o, h1, h2⟩
end
section
variable {X : Cx}
end
section
variable {X : Cx}
end
end J
namespace J
open PySem L2 PyProof.Rows
section
open PySem.SeqAt PySem.MeetsSeq PySem.MeetsSeq2 PySem.MeetsSeq3
end
variable {X : Cx}
def oLe : Op2 := fun x y st => oLe0 x y st
theorem ow_leT (hu : X.A.units + 64 < cLine) : OpW X (compareOp .LtE) oLe := ow_le
def oLt : Op2 := fun x y st => oLt0 x y st
theorem ow_ltT (hu : X.A.units + 64 < cLine) : OpW X (compareOp .Lt) oLt := ow_lt
end J
namespace J
open PySem PySem.Spec PyProof.Rows L2
structure RoomU (k : Nat) (A : Around) : Prop where
  d : A.depth + 3 * k + 5 < recursionLimit
  u : A.units + 16 * k + 200 < cLine
theorem RoomU.of {k : Nat} {A : Around} (r : Room k A) : RoomU k A := ⟨r.dp, r.un⟩
theorem RoomU.less {j k : Nat} {A : Around} (r : RoomU k A) (h : j ≤ k) : RoomU j A := ⟨by have := r.d; omega, by have := r.u; omega⟩
theorem RoomU.down {k : Nat} {A : Around} (r : RoomU (k + 1) A) (env : Env) : RoomU k (A.deeper env) :=
  ⟨by have q := r.d; show A.depth + 1 + 3 * k + 5 < _; omega, by have q := r.u; show A.units + 3 + 16 * k + 200 < _; omega⟩
theorem RoomU.u64 {k : Nat} {A : Around} (r : RoomU k A) : A.units + 64 < cLine := by have := r.u; omega
structure FnOkU (P : Program) (w : World) (K : PySem.W.Frag) (mg : Str → Option Value) (base : Heap) (k : Nat) (f : Addr) (fd : FuncData) (ps : List Str) (sp : Sp) : Prop where
  n : ∀ vs H Q E, sp vs H Q E → vs.length = ps.length
  go : ∀ (A : Around) (outer : List Env) (s : Shared) (H : Hp) (args : Args) (us : List Value) (vs : List V) (Q : VK) (E : XK), RoomU k A → HdA A H → Env0 P w K mg base A outer s H →
    BindsTo s fd args (ps.zip us) → Vals vs us → sp vs H Q E → codeAny (model P w) A (.call (.ref f) args) (CR (CXJ P w) outer P w H s Q E) s
section
variable {P : Program} {w : World} {K : PySem.W.Frag} {mg : Str → Option Value} {base : Heap}
def cxU (P : Program) (w : World) (K : PySem.W.Frag) (mg : Str → Option Value) (base : Heap) (N : List Str) (qual : Str) (scope : Scope) (f : Addr) (cd : Value) (A : Around) (outer : List Env) (s : Shared) (H : Hp) (E : XK) : Cx :=
  { cxOf (CXJ P w) P w K mg base N qual scope f cd A outer s H E with calm := false }
theorem startU {N ps : List Str} {qual : Str} {scope : Scope} {f : Addr} {cd : Value} {A : Around} {outer : List Env} {s s1 : Shared} {H : Hp} {E : XK} {us : List Value} {vs : List V} (S : FnScope N ps scope) (z : Env0 P w K mg base A outer s H) (ln : vs.length = ps.length) (r : Vals vs us)
    (x : InCallC s s.heap.objs.size (bindL (envOfC qual scope s.heap.objs.size f cd).kindOf (ps.zip us) fun _ => none) (cellsFrom (s.heap.objs.size + 1) scope.names []) (bindC (envOfC qual scope s.heap.objs.size f cd).kindOf (ps.zip us) fun _ => none) s1) :
    Inv (cxU P w K mg base N qual scope f cd A outer s H E) [] (start N vs) H s1 := by
  have z' : Env0 P w K mg base { A with handled := none } outer s H := ⟨z.frames, z.mod, z.bs, z.bsz, z.funs, z.frf, z.hok, z.bare⟩
  have I := inv_start (CX := CXJ P w) (E := E) (cd := cd) (A := { A with handled := none }) S rfl z' ln r x
  have o := I.ok
  exact ⟨⟨o.mod, o.kind, o.glob, o.blt, o.above, o.inj, o.has, o.cab, (fun h => by cases h), o.frames, o.stk, o.exf, o.bs, o.bsz, o.noex, o.exfs, o.funs, o.frf⟩, I.os, I.bare, I.base, I.loc, I.cell, I.free, I.freeC, I.pin, I.hok, I.len⟩
theorem out_U {N : List Str} {qual : Str} {scope : Scope} {f : Addr} {cdv : Value} {A : Around} {outer : List Env} {s s' : Shared} {H H' : Hp} {E : XK} {σ : St} {c : PySem.Str} {e : Value}
    (r : Raised (cxU P w K mg base N qual scope f cdv A outer s H E) σ H' c e s') (h : ∀ C, ClsAt K c C → E (.ref C) none H') : (cxU P w K mg base N qual scope f cdv A outer s H E).xe e s' := by
  obtain ⟨C, pins, Hc, sc, hC, I, r⟩ := r
  rcases r with fl | ⟨rfl, a, args, rfl, ho, hg, M⟩
  · exact leave_flown (X := cxU P w K mg base N qual scope f cdv A outer s H E) rfl rfl rfl I fl fun s2 fl2 => ⟨H', C, fl2, h C hC⟩
  · exact leave_made (X := cxU P w K mg base N qual scope f cdv A outer s H E) rfl rfl rfl I ho hg M fun s2 fl2 => ⟨H', C, fl2, h C hC⟩
theorem fn_U {x qual : Str} {st : Stmt} {f : Addr} {fd : FuncData} {N ps : List Str} {k : Nat} {g : GS} (F : Fun K x qual st f fd) (S : FnScope N ps (defScope st))
    (body : ∀ (cdv : Value) (A : Around) (outer : List Env) (s : Shared) (H : Hp) (E : XK), RoomU k (A.deeper (envOfC qual (defScope st) s.heap.objs.size f cdv)) → HdC (cxU P w K mg base N qual (defScope st) f cdv A outer s H E) → JSs (cxU P w K mg base N qual (defScope st) f cdv A outer s H E) (defBody st) g) :
    FnOkU P w K mg base (k + 1) f fd ps (spW K ps.length (fnF N.length g)) := by
  have hpl : ps.length ≤ N.length := by have := congrArg List.length S.pre; rw [List.length_take] at this; omega
  obtain ⟨oc, od, kV, doc, pm, an, cdv, ct, osl, rfl, lk, hcd⟩ := F.ex
  have len : ∀ vs H Q E, spW K ps.length (fnF N.length g) vs H Q E → vs.length = ps.length := fun vs H Q E h => by
    obtain ⟨m, st', ws, _, r, hl, _⟩ := h
    rw [← r.length]; exact hl
  refine ⟨len, fun A outer s H args us vs Q E hr ha z hb r hsp => ?_⟩
  have ln := len _ _ _ _ hsp
  have kx : K.In s.heap := z.mod.kin.keeps fun b o q => (z.bs b o q).1
  have nl : s.heap.NoLimit := z.mod.nolimit.keeps fun b o q => (z.bs b o q).1
  have kinds : ∀ y ∈ ps.zip us, (defScope st).names.lookup y.1 = some .local ∨ ((defScope st).names.lookup y.1 = some .cell ∧ ((cellsFrom (s.heap.objs.size + 1) (defScope st).names []).lookup y.1).isSome = true) := fun y hy => by
    rcases S.par y.1 (List.of_mem_zip hy).1 with t | t
    · exact .inl t
    · exact .inr ⟨t, PySem.W.cellsFrom_some _ _ _ (.inl t)⟩
  refine codeAny_call_function (by have := hr.d; omega) (kx _ _ lk) rfl S.co S.gen rfl (PySem.W.codeRec_of kx hcd) (hb _ _ _ _ ?_)
  refine wpAny_newFunctionEnv_cells S.kind kinds fun env he s1 y => ?_
  subst he
  refine ⟨nl.keeps y.toInCall.keep, codeAny_func ?_⟩
  obtain ⟨m, st', ws, S', rs, hl, p⟩ := hsp
  have I := startU (E := E) (cd := cdv) S z ln r y
  have go : SSs (cxU P w K mg base N qual (defScope st) f cdv A outer s H E) (defBody st) { nx := fun _ H' => Q .non H', rt := Q } (start N vs) H := by
    refine body cdv A outer s H E (hr.down _) ha _ st' _ H m _ S' (startRel rs (by omega)) ?_
    unfold fnF at p
    cases e : g (ws.map some ++ List.replicate (N.length - ws.length) none) st' with
    | nx ρ st2 => rw [e] at p; exact fun σ m' H' e' S2 R2 => p _ m' H' e' S2 (by unfold RelW; rfl)
    | rt w' st2 => rw [e] at p; exact p
    | bk ρ st2 => rw [e] at p; exact False.elim p
    | ct ρ st2 => rw [e] at p; exact False.elim p
    | err c ρ st2 => rw [e] at p; exact fun σ m' H' x s' e' S2 R2 rz => out_U rz fun C hC => p m' H' C e' S2 hC
    | bad => rw [e] at p; exact False.elim p
  refine wpAny_mono (pss_SSs [] s1 (start N vs) H _ I go) (fun fl s' hs => ?_) fun e s' hs => hs
  cases fl with
  | ret u => obtain ⟨v, σ', H', I', rv, q⟩ := hs; exact ⟨v, H', I'.os, I'.bare, I'.base, I'.hok, rv, q⟩
  | next => obtain ⟨σ', H', I', q⟩ := hs; exact ⟨.non, H', I'.os, I'.bare, I'.base, I'.hok, rfl, q⟩
  | brk => obtain ⟨_, _, _, q⟩ := hs; exact False.elim q
  | cont => obtain ⟨_, _, _, q⟩ := hs; exact False.elim q
end
section
variable {X : Cx}
theorem je_callU {k n : Nat} {f : Addr} {fd : FuncData} {ps : List Str} {F : List Wv → Hs → Re Wv} {x : Str} {p pos : Pos} {e : Expr} {es : List Expr} {g : GA}
    (G : FnOkU X.prog X.w X.K X.mg X.base k f fd ps (spW X.K n F)) (hr : RoomU k X.A) (hH : HdC X) (hm : X.mg x = some (.ref f)) (hk : PySem.W.keepIn X.K (.ref f) = true) (hb : Binds X.K fd ps []) (ha : JA X (e :: es) g) (hg : Gl X x)
    (hdb : (x == ("__debug__" : Str)) = false) (he : starEach (e :: es) X.env = (false, eval e X.env) :: starEach es X.env) (hpl : (backTo pos (starEach es X.env)).any (·.1) = false) :
    JE X (.Call (.Name x p) (e :: es) [] pos) (gCall n F g) := by
  intro ρ st σ H m Q S R p pins s I
  have args := ha.go (T := fun vs H1 => ∃ ws st1 m1, PostE X σ m H (if ws.length = n then F ws st1 else .bad) Q ∧ Ext X.K m H m1 H1 ∧ Sim X.K m1 st1 H1 ∧ RelWs X.K m1 H1 ws vs) S R (PostG.bind p)
    fun ws st1 vs m1 H1 p1 e1 S1 rs => ⟨ws, st1, m1, p1, e1, S1, rs⟩
  refine wpAny_Call_Name_kw (ld_glob I hg hm ?_ hdb)
  refine PySem.W.callWith_K (h₀ := X.base) I.ok.mod.kin hk (thn (args pos pins s I) fun us s1 ⟨vs, H1, I1, r, ws, st1, m1, p1, e1, S1, rs⟩ => ⟨I1.kIn, ?_⟩) he hpl
  by_cases c : ws.length = n
  · rw [if_pos c] at p1
    let E : XK := fun cl _ H2 => ∃ c' st2 m2 C, cl = .ref C ∧ ClsAt X.K c' C ∧ F ws st1 = .err c' st2 ∧ Ext X.K m1 H1 m2 H2 ∧ Sim X.K m2 st2 H2
    have sp : spW X.K n F vs H1 Q E := by
      refine ⟨m1, st1, ws, S1, rs, c, ?_⟩
      cases er : F ws st1 with
      | ok w st2 => rw [er] at p1; exact PostE.shift (r := .ok w st2) p1 e1
      | err c' st2 => exact fun m2 H2 C e2 S2 hC => ⟨c', st2, m2, C, rfl, hC, er, e2, S2⟩
      | bad => rw [er] at p1; exact False.elim p1
    have hl : us.length = ps.length := by rw [← r.length]; exact G.n _ _ _ _ sp
    have bd := hb s1 us I1.kIn (by rw [List.append_nil]; exact hl)
    rw [List.append_nil] at bd
    refine wpAny_call (codeAny_mono (G.go X.A X.stack s1 H1 ⟨us, []⟩ us vs Q E hr (hH.at I1) I1.env0 bd r sp) fun rr s2 hq => ?_)
    cases rr with
    | error x =>
      obtain ⟨H2, C, fl, c', st2, m2, C', ec, hC, er, e2, S2⟩ := hq
      cases ec
      rw [er] at p1
      exact p1 m2 H2 x s2 (e1.trans e2) S2 ⟨C, pins, H1, s1, hC, I1, .inl fl.any⟩
    | ok fw =>
      cases fw with
      | ret u => exact I1.after hq
      | next => exact False.elim hq
      | brk => exact False.elim hq
      | cont => exact False.elim hq
  · rw [if_neg c] at p1; exact False.elim p1
end
def HasU (P : Program) (w : World) (K : PySem.W.Frag) (mg : Str → Option Value) (base : Heap) (k : Nat) (x : Str) (n : Nat) (F : List Wv → Hs → Re Wv) : Prop :=
  ∃ f fd ps, FnOkU P w K mg base k f fd ps (spW K n F) ∧ mg x = some (.ref f) ∧ PySem.W.keepIn K (.ref f) = true ∧ Binds K fd ps []
theorem HasU.mono {P : Program} {w : World} {K : PySem.W.Frag} {mg : Str → Option Value} {base : Heap} {j k : Nat} {x : Str} {n : Nat} {F : List Wv → Hs → Re Wv} (h : HasU P w K mg base j x n F) (l : j ≤ k) : HasU P w K mg base k x n F := by
  obtain ⟨f, fd, ps, G, r⟩ := h
  exact ⟨f, fd, ps, ⟨G.n, fun A outer s H args us vs Q E hr => G.go A outer s H args us vs Q E (hr.less l)⟩, r⟩
end J
namespace J
open PySem PySem.Spec PyProof.Rows L2
section
variable {X : Cx}
end
end J
namespace J
open PySem PySem.Spec PyProof.Rows L2
section
variable {X : Cx}
end
end J
namespace J
open PySem PySem.Spec PyProof.Rows L2
abbrev Wk2 := Option (Nat × List Wv) × List Wv
def ck2 (c : Option (Nat × List Wv)) (st : Hs) : Prop := match c with
  | some (l, ws) => lstOf st l = some ws
  | none => True
structure ItFor2 (X : Cx) (w : Wk2) (m1 : Mp) (H1 : Hp) (J' : It) : Prop where
  go : ∀ (k : Nat) (H : Hp) (m' : Mp) (st : Hs), Ext X.K m1 H1 m' H → Sim X.K m' st H → ck2 w.1 st → k < w.2.length → J'.go k H
  stop : ∀ (k : Nat) (H : Hp) (m' : Mp) (st : Hs), Ext X.K m1 H1 m' H → Sim X.K m' st H → ck2 w.1 st → k = w.2.length → J'.stop k H
  yld : ∀ (k : Nat) (hk : k < w.2.length) (H : Hp) (v : V) (H' : Hp) (m' : Mp) (st : Hs), Ext X.K m1 H1 m' H → Sim X.K m' st H → ck2 w.1 st → J'.yld k H v H' → Ext X.K m' H m' H' ∧ Sim X.K m' st H' ∧ RelW X.K m' H' w.2[k] v
abbrev GI2 := Rho → Hs → Re Wk2
def JI2 (X : Cx) (tg iter : Expr) (gi : GI2) : Prop := ∃ wi, PI X tg iter wi ∧ ∀ (ρ : Rho) (st : Hs) (σ : St) (H : Hp) (m : Mp) (R : It → Hp → Prop), Sim X.K m st H → RelEnv X.K m H ρ σ →
  PostG X σ m H (gi ρ st) (fun w st1 => ∀ (m1 : Mp) (H1 : Hp) (J' : It), Ext X.K m H m1 H1 → Sim X.K m1 st1 H1 → ck2 w.1 st1 → ItFor2 X w m1 H1 J' → R J' H1) → wi σ H R
section
variable {X : Cx}
theorem ji2_of {tg iter : Expr} {gi : GI} (h : JI X tg iter gi) : JI2 X tg iter (fun ρ st => (gi ρ st).bind fun w st1 => .ok (w.1.map fun l => (l, w.2), w.2) st1) := by
  obtain ⟨wi, hp, hw⟩ := h
  refine ⟨wi, hp, fun ρ st σ H m R S r p => hw ρ st σ H m R S r ((PostG.bind p).imp Ext.refl fun w st1 q m1 H1 J' e1 S1 c1 it1 => ?_)⟩
  obtain ⟨o, ws⟩ := w
  have cc : ∀ st, ck2 (o.map fun l => (l, ws)) st → ckOf (o, ws) st := fun st c => by cases o <;> exact c
  have cc' : ckOf (o, ws) st1 → ck2 (o.map fun l => (l, ws)) st1 := fun c => by cases o <;> exact c
  refine q m1 H1 J' e1 S1 (cc' c1) ⟨fun k H2 m' st2 e S2 c => it1.go k H2 m' st2 e S2 (cc _ c), fun k H2 m' st2 e S2 c => it1.stop k H2 m' st2 e S2 (cc _ c), fun k hk H2 v H3 m' st2 e S2 c y => ?_⟩
  obtain ⟨rfl, rr⟩ := it1.yld k hk H2 v H3 m' st2 e S2 (cc _ c) y
  exact ⟨Ext.refl, S2, rr⟩
end
open Classical in
noncomputable def forG2 (is : List Nat) (gb : GS) (c : Option (Nat × List Wv)) : List Wv → Rho → Hs → Rs
  | [], ρ, st => .nx ρ st
  | w :: r, ρ, st => match bdT is w ρ with
    | none => .bad
    | some ρ1 => match gb ρ1 st with
      | .nx ρ' st' => if ck2 c st' then forG2 is gb c r ρ' st' else .bad
      | .ct ρ' st' => if ck2 c st' then forG2 is gb c r ρ' st' else .bad
      | .bk ρ' st' => .nx ρ' st'
      | .rt w st' => .rt w st'
      | .err c ρ' st' => .err c ρ' st'
      | .bad => .bad
noncomputable def gForG (is : List Nat) (gi : GI2) (gb : GS) : GS := fun ρ st => (gi ρ st).thn ρ fun w st1 => forG2 is gb w.1 w.2 ρ st1
section
variable {X : Cx}
theorem js_forG {es : List Expr} {is : List Nat} {k : Nat} {iter : Expr} {body : List Stmt} {gi : GI2} {gb : GS} {pos pos' : Pos} (hN : X.N.Nodup) (hp : PassesOwn (model X.prog X.w) X.A X.env X.xe) (hc : X.calm = true) (sl : Slots X es is) (hi : JI2 X (.Tuple es k pos') iter gi) (hb : JSs X body gb)
    (hs : ∀ x, foldedSetIterable iter X.env x = pure x) : JS X (.For (.Tuple es k pos') iter body [] pos) (gForG is gi gb) := by
  obtain ⟨wi, hpi, hw⟩ := hi
  refine JS.of (ps_for hp hc hpi (pg_tup hc (pgs_slots hN sl) (each_len sl) (each_star sl)) pss_SSs hs) fun ρ st σ H m D S R p => ?_
  refine hw ρ st σ H m _ S R ((PostS.of_thn R p).imp Ext.refl fun w st1 p1 m1 H1 J' e1 S1 c1 it1 => ?_)
  obtain ⟨cc, ws⟩ := w
  let Pv : Nat → St → Hp → Prop := fun k σ H => ∃ ρ st m', Ext X.K m1 H1 m' H ∧ Sim X.K m' st H ∧ RelEnv X.K m' H ρ σ ∧ ck2 cc st ∧ PostS X m' H (forG2 is gb cc (ws.drop k) ρ st) D
  refine ⟨fun k n σ H => n = ws.length - k ∧ k ≤ ws.length ∧ Pv k σ H, ⟨ws.length, by simp, Nat.zero_le _, ρ, st1, m1, Ext.refl, S1, R.mono e1, c1, PostS.shift p1 e1⟩, ?_⟩
  rintro k n σ2 H2 ⟨rfl, hk, ρ2, st2, m2, e2, S2, R2, c2, p2⟩
  by_cases hlt : k < ws.length
  · refine .inr ⟨it1.go k H2 m2 st2 e2 S2 c2 hlt, Pv (k + 1), fun σ' H' p' => ⟨ws.length - (k + 1), by omega, rfl, hlt, p'⟩, fun x H' y => ?_⟩
    obtain ⟨eY, S2', rx'⟩ := it1.yld k hlt H2 x H' m2 st2 e2 S2 c2 y
    have ed : ws.drop k = ws[k] :: ws.drop (k + 1) := List.drop_eq_getElem_cons hlt
    rw [ed] at p2
    unfold forG2 at p2
    replace p2 := PostS.shift p2 eY
    have R2' := R2.mono eY
    have e2' := e2.trans eY
    have rx2 : RelW X.K m2 H' ws[k] x := rx'
    cases eb : ws[k] with
    | tup us =>
      rw [eb] at p2 rx2
      dsimp only [bdT] at p2
      cases e5 : setL is us ρ2 with
      | none => rw [e5] at p2; exact False.elim p2
      | some ρ5 =>
        rw [e5] at p2
        dsimp only at p2
        unfold RelW at rx2
        obtain ⟨b, ys, rfl, f1, f2⟩ := rx2
        refine ⟨b, ys, rfl, SqT.of f1, by rw [← f2.length]; exact setL_len e5, setL_run f2 R2' e5 fun σ5 R5 => ?_⟩
        refine hb _ st2 _ _ m2 _ S2' R5 ?_
        cases eg : gb ρ5 st2 with
        | nx ρ3 st3 =>
          rw [eg] at p2
          by_cases c : ck2 cc st3
          · simp only [if_pos c] at p2
            exact fun σ3 m3 H3 e3 S3 R3 => ⟨ρ3, st3, m3, e2'.trans e3, S3, R3, c, PostS.shift p2 e3⟩
          · simp only [if_neg c] at p2; exact False.elim p2
        | ct ρ3 st3 =>
          rw [eg] at p2
          by_cases c : ck2 cc st3
          · simp only [if_pos c] at p2
            exact fun σ3 m3 H3 e3 S3 R3 => ⟨ρ3, st3, m3, e2'.trans e3, S3, R3, c, PostS.shift p2 e3⟩
          · simp only [if_neg c] at p2; exact False.elim p2
        | bk ρ3 st3 => rw [eg] at p2; exact p2
        | rt w3 st3 => rw [eg] at p2; exact p2
        | err c3 ρ3 st3 => rw [eg] at p2; exact p2
        | bad => rw [eg] at p2; exact p2
    | _ => rw [eb] at p2; exact False.elim p2
  · have e : k = ws.length := by omega
    subst e
    rw [List.drop_length] at p2
    exact .inl ⟨it1.stop _ H2 m2 st2 e2 S2 c2 rfl, p2 σ2 m2 H2 Ext.refl S2 R2⟩
end
end J
namespace J
open PySem PySem.Spec PyProof.Rows L2
open Classical in
structure CScope2 (X : Cx) (scope : Scope) (x : Str) (xr : List Str) (cs : Caps) : Prop where
  one : CScope X scope x cs
  var : ∀ y ∈ x :: xr, scope.names.lookup y = some .local
  nd : ((x :: xr) ++ cs.map (·.1)).Nodup
inductive NamesAre : List Expr → List Str → Prop
  | nil : NamesAre [] []
  | cons {x : Str} {p : Pos} {es : List Expr} {xs : List Str} : NamesAre es xs → NamesAre (.Name x p :: es) (x :: xs)
section
variable {X : Cx} {pins : List (Addr × Obj)} {σ : St} {H : Hp} {s : Shared} {scope : Scope} {x : Str} {xr : List Str} {cs : Caps}
end
section
variable {prog : Program} {w : World} {A : Around} {R : Result → Shared → Prop} {s : Shared}
end
section
variable {X : Cx}
end
end J
namespace J
open PySem PySem.Spec PyProof.Rows L2
section
variable {X : Cx}
end
section
open PySem.SeqAt PySem.MeetsSeq PySem.MeetsSeq2 PySem.MeetsSeq3
end
section
variable {X : Cx}
end
end J
namespace J
open PySem PySem.Spec PyProof.Rows L2
section
variable {X : Cx}
inductive JEs (X : Cx) : List Expr → List GE → Prop
  | nil : JEs X [] []
  | cons {e : Expr} {g : GE} {es : List Expr} {gs : List GE} : JE X e g → JEs X es gs → JEs X (e :: es) (g :: gs)
end
section
variable {X : Cx}
def gDcGet (kvs : Dc) (gk gx : GE) : GE := fun ρ st => (gk ρ st).bind fun k st1 => (gx ρ st1).bind fun x st2 => match k with
  | .str z => .ok ((kvs.lookup z).getD x) st2
  | _ => .bad
theorem je_dcGet {e f : Expr} {gk gx : GE} {x : Str} {p apos cpos : Pos} {kvs : Dc} (he : JE X e gk) (hf : JE X f gx) (M : M2 X (.Name x p) "get" apos e f cpos) (hg : Gl X x) (hd : (x == ("__debug__" : Str)) = false) (D : DcAt X.K X.w X.mg x kvs) : JE X (.Call (.Attribute (.Name x p) "get" apos) [e, f] [] cpos) (gDcGet kvs gk gx) := by
  intro ρ st σ H m Q S R pp pins s I
  obtain ⟨a, es, ep, g1, g2, g3, g4, g5⟩ := D
  have k1 := he.go (T := fun y H2 => ∃ k st1 m1, PostE X σ m H ((gx ρ st1).bind fun x st2 => match k with | .str z => .ok ((kvs.lookup z).getD x) st2 | _ => .bad) Q ∧ Ext X.K m H m1 H2 ∧ Sim X.K m1 st1 H2 ∧ RelW X.K m1 H2 k y) S R (PostG.bind pp) fun w st1 v m1 H1 p1 e1 S1 rw' => ⟨w, st1, m1, p1, e1, S1, rw'⟩
  refine wpAny_Call_method M.base M.few M.line PySem.F.plainAttrs_dict PySem.F.slot_dict_get PySem.F.type_dict_get (thn (pe_glob (v := .ref a) hg g1 rfl hd pins s σ H (fun v H2 => v = .ref a ∧ H2 = H) I ⟨rfl, rfl⟩) fun u s1 ⟨v, H1, I1, rv, ev, eH⟩ => ?_)
  subst ev
  cases eH
  obtain rfl : u = Value.ref a := rv
  refine ⟨⟨_, I1.kIn _ _ g2, rfl⟩, fun a' e => by cases e; exact ⟨_, I1.kIn _ _ g2, rfl⟩, ?_⟩
  rw [M.trees]
  refine Calls.callWith_builtin rfl (Calls.evalArgs_plain (Calls.spliced_cons (thn (k1 pins s1 I1) fun iv s2 ⟨y, H2, I2, ry, k, st1, m1, p1, e1, S1, rk⟩ => ?_)))
  have k2 := hf.go (T := fun z H3 => ∃ x' st2 m2, PostE X σ m H (match k with | .str z => .ok ((kvs.lookup z).getD x') st2 | _ => .bad) Q ∧ Ext X.K m H m2 H3 ∧ Sim X.K m2 st2 H3 ∧ RelW X.K m2 H3 x' z) S1 (R.mono e1) ((PostG.bind p1).imp e1 fun _ _ q => q) fun w st2 v m2 H3 p2 e2 S2 rw' => ⟨w, st2, m2, p2, e1.trans e2, S2, rw'⟩
  refine Calls.spliced_cons (thn (k2 pins s2 I2) fun fv s3 ⟨z, H3, I3, rz, x', st2, m2, p2, e2, S2, rx⟩ => Calls.spliced_nil ?_)
  cases k with
  | str zs =>
    obtain ⟨rfl, _⟩ := relStr rk
    obtain ⟨t, rfl⟩ := (show ∃ t, iv = Value.str zs t from ry)
    obtain ⟨vs, dd, look⟩ := dc_dict (P := X.prog) (w := X.w) I3.kIn g2 g4 g5
    refine call_meetsIn PySem.F.slot_dict_get dd.typeIs PySem.F.entry_dict_get (PySem.F.args_dict_get_3 _ _ _) (meets_dict_get_default (PySem.strKind X.prog X.w) a (strKind_is X.prog X.w zs t) g3 fv) ⟨_, dd.mapOf, ?_⟩
    have p2' : okE X.K m H Q ((kvs.lookup zs).getD x') st2 := p2
    cases e : kvs.lookup zs with
    | none =>
      rw [e] at p2'
      have q := (look zs).1 e
      show EP X pins σ Q ((valueAt vs zs).getD fv) _
      rw [q]
      exact ⟨z, H3, I3.tok _, rz, p2' z m2 H3 e2 S2 rx⟩
    | some u =>
      rw [e] at p2'
      obtain ⟨u', q1, q2⟩ := (look zs).2 u e
      show EP X pins σ Q ((valueAt vs zs).getD fv) _
      rw [q1]
      cases u with
      | int i => exact ⟨.int i, H3, I3.tok _, q2, p2' _ m2 H3 e2 S2 (by unfold RelW; rfl)⟩
      | str y => exact ⟨.str y, H3, I3.tok _, q2.1, p2' _ m2 H3 e2 S2 (by unfold RelW; exact ⟨rfl, q2.2⟩)⟩
      | _ => exact False.elim q2
  | _ => exact False.elim p2
end
def fBad : List Wv → Hs → Re Wv := fun _ _ => .bad
theorem has_bad {P : Program} {w : World} {K : PySem.W.Frag} {mg : Str → Option Value} {base : Heap} {h : Heap} {k : Nat} {x : Str} {st : Stmt} {ps : List Str} (KX : K.In h) (NS : h.Ns mainGlobals mg) (D : DefAt K x st)
    (hb : ∀ (kV doc pm : Value) (an : Option Addr) (cdv ct : Value) (us : List Value), us.length = ps.length → bindArgs (PySem.W.fnOf x x (defArgs st) (defBody st) (defScope st) .none kV doc pm an cdv ct) ⟨us, []⟩ = pure (ps.zip us)) :
    Has P w K mg base k x ps.length fBad := by
  obtain ⟨f, fd, a, F⟩ := D
  exact ⟨f, fd, ps, ⟨fun vs H Q E ⟨_, _, _, _, _, _, p⟩ => False.elim p, fun A outer s H args us vs Q E hr e0 hb r ⟨_, _, _, _, _, _, p⟩ => False.elim p⟩, PySem.W.mg_of KX NS a, F.kp, F.binds hb⟩
section
variable {X : Cx}
theorem op_mulS1 : OpR X (binaryOp .Mult) (fun x y H Q => ∃ z n, x = .str z ∧ y = .int n ∧ (n = 0 ∨ n = 1) ∧ Q (.str (if n = 0 then PySem.Str.empty else z)) H) := by
  intro pins s σ H x y v u Q I rx ry h
  obtain ⟨z, n, rfl, rfl, hn, q⟩ := h
  obtain ⟨t, rfl⟩ := rx
  obtain ⟨t', rfl⟩ := ry
  rcases hn with rfl | rfl
  · exact PySem.P.mul_str_none (by omega) (by omega) ⟨.str PySem.Str.empty, H, I.tok _, ⟨_, rfl⟩, q⟩
  · refine PySem.P.mul_str (by decide) (fun _ h => by cases h) (fun _ h => by cases h) ?_
    rw [if_neg (by omega), if_pos (by rfl)]
    exact ⟨.str z, H, I, ⟨t, rfl⟩, q⟩
noncomputable def oMulL : Op2 := fun x y st => match x, y with
  | .str z, .int n => if n = 0 ∨ n = 1 then .ok (.str (if n = 0 then PySem.Str.empty else z)) st else oMulL0 (.str z) (.int n) st
  | x, y => oMulL0 x y st
theorem ow_mulL1 : OpW X (binaryOp .Mult) oMulL := by
  obtain ⟨r, h1, h2⟩ := ow_mulL (X := X)
  refine ⟨_, OpR.or op_mulS1 h1, fun x y a b st H m Q S rx ry p => ?_⟩
  cases x with
  | str z =>
    cases y with
    | int n =>
      have p' : PostO X.K m H (if n = 0 ∨ n = 1 then .ok (.str (if n = 0 then PySem.Str.empty else z)) st else oMulL0 (.str z) (.int n) st) Q := p
      by_cases c : n = 0 ∨ n = 1
      · rw [if_pos c] at p'
        obtain ⟨rfl, ok⟩ := relStr rx
        refine .inl ⟨z, n, rfl, relInt ry, c, p' _ m H Ext.refl S (mkStr ?_)⟩
        by_cases c0 : n = 0
        · rw [if_pos c0]; decide +kernel
        · rw [if_neg c0]; exact ok
      · rw [if_neg c] at p'
        exact .inr (h2 _ _ _ _ st H m Q S rx ry p')
    | _ => exact .inr (h2 _ _ _ _ st H m Q S rx ry p)
  | _ => exact .inr (h2 _ _ _ _ st H m Q S rx ry p)
end
end J
namespace J
open PySem PySem.Spec PyProof.Rows L2
abbrev LF := List Wv → List Wv → Hs → Re Wv
section
variable {X : Cx} {pins : List (Addr × Obj)} {σ : St} {H : Hp} {s : Shared}
end
def spL (K : PySem.W.Frag) (n : Nat) (p : Lm) (L : LF) : Sp := fun vs H Q E => ∃ m st ws caps, Sim K m st H ∧ RelWs K m H ws vs ∧ RelWs K m H caps p.xs ∧ H p.c = some (.ext (CodeX p.c p.q)) ∧ ws.length = n ∧ PostF K m H (L caps ws st) Q E
def HasL (P : Program) (w : World) (K : PySem.W.Frag) (mg : Str → Option Value) (base : Heap) (k : Nat) (p : Lm) (n : Nat) (L : LF) : Prop :=
  ∃ fd ps ob, FnOk P w K mg base (CXJ P w) k p.a fd ps (spL K n p L) ∧ base.get? p.a = some ob ∧ ob.data = .func fd ∧ Binds K fd ps []
open Classical in
section
variable {X : Cx}
end
def freeOf (sc : Scope) : List Str := (sc.names.filter fun p => decide (p.2 = .free)).map (·.1)
structure LamSc (sc : Scope) (x1 x2 x3 y : Str) : Prop where
  kind : sc.kind = .function
  co : sc.isCoroutine = false
  gen : sc.isGenerator = false
  nocell : ∀ p ∈ sc.names, p.2 ≠ .cell
  p1 : sc.names.lookup x1 = some .local
  p2 : sc.names.lookup x2 = some .local
  p3 : sc.names.lookup x3 = some .local
  fr : freeOf sc = [y]
  fy : sc.names.lookup y = some .free
  nd : [x1, x2, x3, y].Nodup
end J
namespace J
open PySem PySem.Spec PyProof.Rows L2
section
variable {P : Program} {w : World} {K : PySem.W.Frag} {mg : Str → Option Value} {base : Heap} {p : Lm} {scope : Scope} {x1 x2 x3 y : Str} {cy : Addr}
end
end J
namespace J
open PySem PySem.Spec PyProof.Rows L2
structure LamAt (X : Cx) (q : Str) (P : Addr) : Prop where
  code : ∃ c, X.env.code = .ref c ∧ PySem.W.CodeHd X.base c P
  qual : X.env.qual = q ++ ".<locals>."
  tab : tabFree X.K q = some P
  mem : q ∈ lamDefs
  uniq : ∀ q', q' ∈ lamDefs → tabFree X.K q' = some P → q' = q
  bm : ∃ bm ob, X.mg "__builtins__" = some (.ref bm) ∧ bm ≠ builtinsNs ∧ bm ≠ mainGlobals ∧ X.base.get? bm = some ob ∧ ob.cls = .type "module" ∧ ob.dict = some builtinsNs ∧ ob.data = .plain
section
variable {X : Cx} {pins : List (Addr × Obj)} {σ : St} {H : Hp} {s : Shared} {q : Str} {P : Addr}
end
end J
namespace J
open PySem PySem.Spec PyProof.Rows L2
abbrev FLt := Lm → LF → List Wv → Hs → Re Wv
def BmOk (mg : Str → Option Value) (base : Heap) : Prop := ∃ bm ob, mg "__builtins__" = some (.ref bm) ∧ bm ≠ builtinsNs ∧ bm ≠ mainGlobals ∧ base.get? bm = some ob ∧ ob.cls = .type "module" ∧ ob.dict = some builtinsNs ∧ ob.data = .plain
def ModB (K : PySem.W.Frag) (mg : Str → Option Value) (base : Heap) : Prop := Mod K mg base ∧ BmOk mg base
def FnL (P : Program) (w : World) (K : PySem.W.Frag) (mg : Str → Option Value) (k j : Nat) (x : Str) (FL : FLt) : Prop :=
  (∃ f, mg x = some (.ref f) ∧ PySem.W.keepIn K (.ref f) = true) ∧ ∀ (base : Heap) (p : Lm) (L : LF), ModB K mg base → HasL P w K mg base (j + 1) p 3 L → Has P w K mg base k x 2 (FL p L)
section
variable {X : Cx}
end
end J
namespace J
open PySem PySem.Spec PyProof.Rows L2
section
variable {P : Program} {w : World} {A : Around} {E : Value → Shared → Prop} {s : Shared}
structure Zd (z T O j1 j2 j3 t1 t2 t3 : Addr) : Prop where
  nd : [z, T, O, j1, j2, j3].Nodup
  a1 : t1 ∉ [z, O, j1, j2, j3]
  a2 : t2 ∉ [z, O, j1, j2, j3]
  a3 : t3 ∉ [z, O, j1, j2, j3]
end
end J
namespace J
open PySem PySem.Spec PyProof.Rows L2
abbrev zA (h : Heap) (t1 : Addr) : Heap := h.push { cls := .type "tuple_iterator", data := .fields #[.ref t1, .int 0 0] }
abbrev zB (h : Heap) (t1 t2 : Addr) : Heap := zA (zA h t1) t2
abbrev zC (h : Heap) (t1 t2 t3 : Addr) : Heap := zA (zB h t1 t2) t3
abbrev zD (h : Heap) (t1 t2 t3 : Addr) : Heap := (zC h t1 t2 t3).push { cls := .type "tuple", data := .seq #[.ref h.objs.size, .ref (zA h t1).objs.size, .ref (zB h t1 t2).objs.size] }
section
variable {P : Program} {w : World} {A : Around} {E : Value → Shared → Prop} {s : Shared}
end
section
variable {P : Program} {w : World} {A : Around} {E : Value → Shared → Prop} {s : Shared}
end
end J
namespace J
open PySem PySem.Spec PyProof.Rows L2
section
variable {X : Cx}
end
end J
namespace J
open PySem PySem.Spec PyProof.Rows L2
def CRs (a b c : Int) : Prop := 0 ≤ a ∧ a < 2 ^ 30 ∧ 0 ≤ b ∧ b < 2 ^ 30 ∧ 1 ≤ c ∧ c < 2 ^ 30
noncomputable instance {a b c} : Decidable (CRs a b c) := Classical.propDecidable _
section
variable {X : Cx} {tg : Expr}
end
end J
namespace J
open PySem PySem.Spec PyProof.Rows L2
def gTryN (cat : PySem.Str → Option Bool) (gb gs : GS) : GS := fun ρ st => match gb ρ st with
  | .err c ρ' st' => (match cat c with
    | some true => (match gs ρ' st' with
      | .nx ρ2 st2 => .nx ρ2 st2
      | .rt w st2 => .rt w st2
      | _ => .bad)
    | _ => .bad)
  | r => r
section
variable {X : Cx}
theorem js_tryN {x : Str} {D : Addr} {body suite : List Stmt} {b₀ : Stmt} {gb gs : GS} {np hp pos : Pos} {tb : Tab} {tt : TabT} {tc : Tab} (K0 : Stk X) (hc : X.calm = true) (O : TabOk X.K tb tt tc)
    (hg : Gl X x) (hm : X.mg x = some (.ref D)) (hD : ClsAt X.K x D) (hd : (x == ("__debug__" : Str)) = false)
    (hb : ∀ (pn : List (Addr × Obj)) (E : Value → Shared → Prop), JSs (reX X X.A true pn E) body gb) (hs : ∀ (a : Addr) (o : Obj) (u : HO) (pn : List (Addr × Obj)) (E : Value → Shared → Prop), NoCx o → JSs (suX X a (.frz o u) pn E) (b₀ :: suite) gs) :
    JS X (.Try body [.ExceptHandler (some (.Name x np)) none (b₀ :: suite) hp] [] [] pos) (gTryN (fun c => tc.lookup (c, x)) gb gs) := by
  intro ρ st σ H m D' S R p pins s I
  refine wpAny_Try_except ?_
  let hx' : Value → Shared → Prop := fun e s1 => wpAny (model X.prog X.w) X.A (noteFrame e X.env) (fun _ s2 => wpAny (model X.prog X.w) X.A (setFlight e none) (fun _ s3 =>
    wpAny (model X.prog X.w) X.A (handleBy e X.env [.ExceptHandler (some (.Name x np)) none (b₀ :: suite) hp]) (SP X pins D') X.xe s3) X.xe s2) X.xe s1
  have hA : X.A.handled = none := I.ok.hd hc
  have Ib : Inv (reX X X.A true (X.pn ++ pins) hx') [] σ H s := inv_re I rfl fun _ => hA
  have post : PostS (reX X X.A true (X.pn ++ pins) hx') m H (gb ρ st) D' := by
    unfold gTryN at p
    cases eb : gb ρ st with
    | nx ρ1 st1 => rw [eb] at p; exact p
    | rt w1 st1 => rw [eb] at p; exact p
    | bk ρ1 st1 => rw [eb] at p; exact p
    | ct ρ1 st1 => rw [eb] at p; exact p
    | bad => rw [eb] at p; exact p
    | err c ρ1 st1 =>
      rw [eb] at p
      dsimp only at p
      cases ec : tc.lookup (c, x) with
      | none => rw [ec] at p; exact False.elim p
      | some bc =>
        cases bc with
        | false => rw [ec] at p; exact False.elim p
        | true =>
          rw [ec] at p
          dsimp only at p
          intro σ1 m1 H1 e s1 e1 S1 R1 rz
          obtain ⟨C, pins', Hc, sc, hC, Ic, rz⟩ := rz
          obtain ⟨zC, zD, hmro⟩ := O.cat c x true C D ec hC hD
          refine land K0 (inv_er I.ok Ic) (rz.imp FlownA.er id) fun a a0 B h5 ea fl5 inv hn hnew => ?_
          subst ea
          obtain ⟨ox, _, I5⟩ := inv h5 s1.toks fl5 (Heap.UpToSlots.refl _)
          obtain ⟨o5, ho5, hc5, _⟩ := (I5.hok a _ upd_same).2.1
          have Im := inv_re (A' := X.A.mark (some (.ref a))) (cm := false) (E := fun _ _ => False) I5 rfl (fun z => by cases z)
          refine wpAny_handleBy_cons (codeAny_handlers_test (ld_glob Im hg hm ?_ hd)) (by intro q; cases q)
          refine catch_own (b := true) Im.kIn zC zD hmro ho5 hc5 ?_
          refine codeAny_handlers_suite ?_
          refine landX fl5 fun h6 fl6 up6 => ?_
          obtain ⟨oy, nx, I6⟩ := inv h6 s1.toks fl6 up6
          have e6 : Ext X.K m1 H1 m1 (upd H1 a (.frz oy (.ext (ExnAt a C)))) := Ext.upd (.inl hn)
          have S6 : Sim X.K m1 st1 (upd H1 a (.frz oy (.ext (ExnAt a C)))) := S1.fresh hn
          have I7' := inv_su (E := fun _ _ => False) I6 upd_same hnew.1
          cases es : gs ρ1 st1 with
          | nx ρ2 st2 =>
            rw [es] at p
            let D2 : Ends := { nx := D'.nx, rt := fun _ _ => False, bk := fun _ _ => False, ct := fun _ _ => False }
            have go := hs a oy (.ext (ExnAt a C)) (X.pn ++ pins) (fun _ _ => False) nx ρ1 st1 σ1 _ m1 D2 S6 (R1.mono e6) (by
              rw [es]
              exact fun σ' m' H' e' S' R' => p σ' m' H' (e1.trans (e6.trans e')) S' R') [] _ I7'
            refine wpAny_mono go (fun f s8 h8 => ?_) fun _ _ z => z.elim
            cases f with
            | next =>
              obtain ⟨σ8, H8, I8, q8⟩ := h8
              exact ⟨_, H8, inv_us I.ok hnew I8, q8⟩
            | brk => obtain ⟨_, _, _, q8⟩ := h8; exact q8.elim
            | cont => obtain ⟨_, _, _, q8⟩ := h8; exact q8.elim
            | ret u => obtain ⟨_, _, _, _, _, q8⟩ := h8; exact q8.elim
          | rt w2 st2 =>
            rw [es] at p
            let D2 : Ends := { nx := fun _ _ => False, rt := D'.rt, bk := fun _ _ => False, ct := fun _ _ => False }
            have go := hs a oy (.ext (ExnAt a C)) (X.pn ++ pins) (fun _ _ => False) nx ρ1 st1 σ1 _ m1 D2 S6 (R1.mono e6) (by
              rw [es]
              exact fun v' m' H' e' S' R' => p v' m' H' (e1.trans (e6.trans e')) S' R') [] _ I7'
            refine wpAny_mono go (fun f s8 h8 => ?_) fun _ _ z => z.elim
            cases f with
            | next => obtain ⟨_, _, _, q8⟩ := h8; exact q8.elim
            | brk => obtain ⟨_, _, _, q8⟩ := h8; exact q8.elim
            | cont => obtain ⟨_, _, _, q8⟩ := h8; exact q8.elim
            | ret u =>
              obtain ⟨v8, σ8, H8, I8, r8, q8⟩ := h8
              exact ⟨v8, _, H8, inv_us I.ok hnew I8, r8, q8⟩
          | bk ρ2 st2 => rw [es] at p; exact False.elim p
          | ct ρ2 st2 => rw [es] at p; exact False.elim p
          | err c2 ρ2 st2 => rw [es] at p; exact False.elim p
          | bad => rw [es] at p; exact False.elim p
  refine wpAny_mono (hb (X.pn ++ pins) hx' ρ st σ H m D' S R post [] s Ib) (fun f s1 h1 => ?_) fun e s1 h1 => h1
  have h2 := sp_er I.ok h1
  cases f with
  | next => exact wpAny_execs_nil h2
  | brk => exact h2
  | cont => exact h2
  | ret u => exact h2
end
end J
namespace J
open PySem PySem.Spec PyProof.Rows L2
def whl (gt : GT) (gb : GS) : Nat → Rho → Hs → Rs
  | 0, _, _ => .bad
  | n + 1, ρ, st => (gt ρ st).thn ρ fun b st1 => if b = true then (match gb ρ st1 with
      | .nx ρ' st' => whl gt gb n ρ' st'
      | .ct ρ' st' => whl gt gb n ρ' st'
      | .bk ρ' st' => .nx ρ' st'
      | .rt w st' => .rt w st'
      | .err c ρ' st' => .err c ρ' st'
      | .bad => .bad) else .nx ρ st1
def gWhile (n : Nat) (gt : GT) (gb : GS) : GS := fun ρ st => whl gt gb n ρ st
section
variable {X : Cx}
theorem js_while (n : Nat) {c : Expr} {body : List Stmt} {gt : GT} {gb : GS} {pos : Pos} (hp : PassesOwn (model X.prog X.w) X.A X.env X.xe) (hc : JT X c gt) (hb : JSs X body gb) : JS X (.While c body [] pos) (gWhile n gt gb) := by
  refine JS.of (ps_while hp pt_ST pss_SSs) fun ρ st σ H m D S R p => ?_
  refine ⟨fun k σ' H' => ∃ ρ' st' m', Ext X.K m H m' H' ∧ Sim X.K m' st' H' ∧ RelEnv X.K m' H' ρ' σ' ∧ PostS X m' H' (whl gt gb k ρ' st') D, ⟨n, ρ, st, m, Ext.refl, S, R, p⟩, ?_⟩
  rintro k σ1 H1 ⟨ρ1, st1, m1, e1, S1, R1, p1⟩
  cases k with
  | zero => exact False.elim p1
  | succ k =>
    refine hc.go S1 R1 (PostS.of_thn R1 p1) fun b st2 m2 H2 p2 e2 S2 => ?_
    cases b with
    | false =>
      rw [if_neg Bool.false_ne_true] at p2 ⊢
      exact p2 σ1 m2 H2 e2 S2 (R1.mono e2)
    | true =>
      rw [if_pos rfl] at p2 ⊢
      refine ⟨fun σ' H' => ∃ ρ' st' m', Ext X.K m H m' H' ∧ Sim X.K m' st' H' ∧ RelEnv X.K m' H' ρ' σ' ∧ PostS X m' H' (whl gt gb k ρ' st') D, fun σ' H' q => ⟨k, Nat.lt_succ_self k, q⟩, ?_⟩
      refine hb ρ1 st2 σ1 H2 m2 _ S2 (R1.mono e2) ?_
      have e12 := e1.trans e2
      cases eg : gb ρ1 st2 with
      | nx ρ3 st3 => rw [eg] at p2; exact fun σ3 m3 H3 e3 S3 R3 => ⟨ρ3, st3, m3, e12.trans e3, S3, R3, PostS.shift p2 (e2.trans e3)⟩
      | ct ρ3 st3 => rw [eg] at p2; exact fun σ3 m3 H3 e3 S3 R3 => ⟨ρ3, st3, m3, e12.trans e3, S3, R3, PostS.shift p2 (e2.trans e3)⟩
      | bk ρ3 st3 => rw [eg] at p2; exact fun σ3 m3 H3 e3 S3 R3 => p2 σ3 m3 H3 (e2.trans e3) S3 R3
      | rt w3 st3 => rw [eg] at p2; exact PostS.shift (r := .rt w3 st3) p2 e2
      | err c3 ρ3 st3 => rw [eg] at p2; exact fun σ' m' H' x s' e' => p2 σ' m' H' x s' (e2.trans e')
      | bad => rw [eg] at p2; exact p2
end
end J
namespace J
open PySem PySem.Spec PyProof.Rows L2
section
variable {X : Cx}
end
section
variable {X : Cx}
end
end J
namespace J
open PySem PySem.Spec PyProof.Rows L2
theorem entry_unchain : entryFor table "proto.unchain" = some Builtin.«proto.unchain» := entryFor_of_fast (by kernel_rfl)
section
variable {prog : Program} {w : World} {A : Around} {E : Value → Shared → Prop} {s : Shared}
theorem unchain_ok {b : Addr} {o : Obj} {vs : Array Value} {e : Value} {Q : Value → Shared → Prop} (h1 : s.heap.get? b = some o) (h2 : o.data = .fields vs) (h3 : vs[2]? = some Value.none) (k : Q .none s) :
    wpAny (model prog w) A (runValue (.builtin "proto.unchain" ⟨[e, .ref b, .ref b, .bool false], []⟩)) Q E s := by
  refine wpAny_runValue (codeAny_builtin entry_unchain ?_)
  unfold Builtin.«proto.unchain»
  refine (show wpAny _ _ (field (.ref b) 2 >>= _) _ _ s from wpAny_bind (wpAny_field h1 h2 h3 ?_))
  rw [if_pos (by rfl)]
  exact wpAny_pure k
theorem range_endH {it b : Addr} {o : Obj} {vs : Array Value} {x left step : Int} {Q : Option Value → Shared → Prop} (hh : A.handled = some (.ref b)) (h1 : s.heap.get? b = some o) (h2 : o.data = .fields vs) (h3 : vs[2]? = some Value.none) (hit : IsRangeIter s.heap it x left step) (hl : left ≤ 0)
    (k : ∀ h', Heap.ExtBut it s.heap h' → Q none { s with heap := h' }) : wpAny (model prog w) A (pyNext (.ref it)) Q E s := by
  have ty : s.TypeIs (.ref it) "range_iterator" := ⟨_, hit, rfl⟩
  unfold pyNext
  refine wpAny_bind (wpAny_attempt (wpAny_callSpecial?_slot (name := Str.ofString "__next__") ty PySem.F.slot_range_iterator_next (wpAny_call_entry PySem.F.slot_range_iterator_next ty PySem.F.entry_range_iterator_next ?_ (PySem.F.args_range_iterator_next_1 _))))
  refine (show wpAny _ _ (field (.ref it) 0 >>= _) _ _ s from wpAny_bind (wpAny_field hit rfl (x := rawInt x) rfl ?_))
  refine (show wpAny _ _ (field (.ref it) 1 >>= _) _ _ s from wpAny_bind (wpAny_field hit rfl (x := rawInt left) rfl ?_))
  refine (show wpAny _ _ (field (.ref it) 2 >>= _) _ _ s from wpAny_bind (wpAny_field hit rfl (x := rawInt step) rfl ?_))
  refine (show wpAny _ _ (if left ≤ 0 then _ else _) _ _ s from ?_)
  rw [if_pos hl]
  refine wpAny_bind (wpAny_rule (wpAny_bind ?_))
  refine (show wpAny _ _ (newExc (.type "StopIteration") [] >>= _) _ _ _ from ?_)
  simp only [newExc, newTuple, raiseNew]
  refine wpAny_bind (wpAny_bind (wpAny_newObj_type (wpAny_bind (m := firstArgMember _ _) (wpAny_of_eq (a := Value.none) (by first | rfl | (simp only [firstArgMember]; rfl)) (wpAny_newObj_type ?_ (by size_fits)))) (by size_fits)))
  refine (wpAny_bind (wpAny_handled ?_))
  rw [show A.in1.handled = some (.ref b) from hh]
  dsimp only
  have lt : b ≠ (s.heap.push { cls := .type "tuple", data := .seq #[] }).objs.size := fun z => by
    have q := Heap.lt_size (Heap.get?_push_of_some (h := s.heap) { cls := .type "tuple", data := .seq #[] } h1)
    rw [← z] at q
    exact Nat.lt_irrefl _ q
  rw [if_pos (by simpa using lt)]
  refine wpAny_bind (wpAny_holding (unchain_ok (Heap.get?_push_of_some _ (Heap.get?_push_of_some _ h1)) h2 h3 ?_))
  refine wpAny_bind ((show wpAny (model prog w) A.in1 (setField (.ref (s.heap.push { cls := .type "tuple", data := .seq #[] }).objs.size) 2 (.ref b)) _ _ _ from wpAny_setField (Heap.get?_push_size _ rfl) rfl (by simp [ownMembersOf]) (wpAny_throw ?_)))
  refine wpAny_bind (wpAny_isInstance (b := true) (T := "StopIteration") ⟨_, Heap.get?_update_self _ (Heap.get?_push_size _ rfl) rfl, rfl⟩ isSubtype_stop (wpAny_pure ?_))
  refine k _ fun c q hc e => ?_
  have e' : ((s.heap.push { cls := .type "tuple", data := .seq #[] }).push { cls := Value.type "StopIteration", data := .fields (#[.ref s.heap.objs.size, .none, .none, .none, .bool false, .none] ++ ownMembersOf (.type "StopIteration") []) }).get? c = some q := (((Heap.ExtBut.refl it s.heap).push _).push _) c q hc e
  have ne : c ≠ (s.heap.push { cls := .type "tuple", data := .seq #[] }).objs.size := fun z => by
    have q' := Heap.lt_size (Heap.get?_push_of_some (h := s.heap) { cls := .type "tuple", data := .seq #[] } e)
    rw [← z] at q'
    exact Nat.lt_irrefl _ q'
  exact (Heap.get?_update_other _ _ (Ne.symm ne)).trans e'
end
theorem yin_hd {X : Cx} (h : HdC X) : YIn HdC X := fun _ _ _ _ _ _ _ _ I => h.at I
theorem turn_rangeU {P : Program} {w : World} {K : PySem.W.Frag} {tg : Expr} (it : Addr) (lo : Int) (n : Nat) : TurnY HdC P w K tg (Itr lo n) [it] it (fun i h => IsRangeIter h it (lo + (i : Nat) * 1) ((n : Int) - (i : Nat)) 1) where
  obj := (turn_range (P := P) (w := w) (K := K) (tg := tg) it lo n).obj
  keep := (turn_range (P := P) (w := w) (K := K) (tg := tg) it lo n).keep
  self := (turn_range (P := P) (w := w) (K := K) (tg := tg) it lo n).self
  item := by
    intro X hP hw hK hc i pins s σ H E I hf st hg
    subst hP hw hK
    have hg' : i < n := hg
    obtain ⟨f0, f1, f2, f3, f4, f5⟩ := hf it (by simp)
    refine wpAny_pyNext_range_item st (by omega) fun h' st' sb => ?_
    have st2 : IsRangeIter h' it (lo + ((i + 1 : Nat) : Int) * 1) ((n : Int) - ((i + 1 : Nat) : Int)) 1 := by
      have e1 : lo + ((i + 1 : Nat) : Int) * 1 = lo + (i : Int) * 1 + 1 := by push_cast; omega
      have e2 : (n : Int) - ((i + 1 : Nat) : Int) = (n : Int) - (i : Int) - 1 := by push_cast; omega
      rw [e1, e2]; exact st'
    have I1 : Inv X pins σ H { s with heap := h', toks := s.toks + 1 } := I.turned (fun b o hb e => sb.extBut b o hb e) f0 f1 f3 f4 f5
    exact ⟨_, rfl, go_of (s := { s with heap := h', toks := s.toks + 1 }) (n := "range_iterator") st2 rfl rfl (by decide) ⟨.int (lo + i), H, I1, ⟨s.toks, by rw [Int.mul_one]⟩, ⟨rfl, rfl⟩, st2, fun b hb => (hf b hb).1⟩⟩
  done := by
    intro X hP hw hK hc i pins s σ H E I hf st hg
    subst hP hw hK
    have hg' : n ≤ i := hg
    obtain ⟨f0, f1, f2, f3, f4, f5⟩ := hf it (by simp)
    rcases hc.at I with h0 | ⟨b, o, u, h1, ⟨vs, d1, d2⟩, h3⟩
    · exact wpAny_pyNext_range_end h0 st (by omega) fun h' eb => ⟨rfl, I.turned (t' := s.toks) (fun b o hb e => eb b o hb e) f0 f1 f3 f4 f5⟩
    exact range_endH h1 (I.hok _ _ h3).1 d1 d2 st (by omega) fun h' eb => ⟨rfl, I.turned (t' := s.toks) (fun b o hb e => eb b o hb e) f0 f1 f3 f4 f5⟩
section
variable {X : Cx} {tg : Expr}
theorem pi_range1U {a : Expr} {ta : TA} {p pos : Pos} (hg : Gl X "range") (hm : X.mg "range" = none) (ha : PA X [a] ta) (hs : starEach [a] X.env = [(false, eval a X.env)]) : PIY HdC X tg (.Call (.Name "range" p) [a] [] pos) (iRng1 ta) := by
  intro pins s σ H R I h
  refine Call_ (ld_blt I hg hm boot_range (PyProof.Rows.callWith_type1 (thn (ha pos pins s σ H _ I h) fun us s1 ⟨vs, H1, I1, r1, j, e, q1, q2, q⟩ => ?_) hs rfl))
  subst e
  obtain ⟨u, rfl, t, rfl⟩ := vals1 r1
  refine call_range_1 (wpAny_pyIter_range (IsRange.new ..) (small_one (by omega) (by omega) q1 q2) ?_)
  generalize hh : s1.heap.push { cls := .type "range", data := .fields _ } = h2
  have I2 : ∀ tk, Inv X pins σ H1 { s1 with heap := h2, toks := tk } := fun tk => I1.kept fun b o e => by rw [← hh]; exact Heap.get?_push_of_some _ e
  refine ⟨h2.objs.size, [h2.objs.size], _, Itr 0 j.toNat, H1, rfl, (I2 _).kept (t' := _) fun b o e => Heap.get?_push_of_some _ e, turn_rangeU _ 0 j.toNat, ?_, fun b hb => ?_, q⟩
  · have e2 : ((j.toNat : Nat) : Int) - ((0 : Nat) : Int) = Builtin.Range.rangeSize 0 j 1 := by rw [rangeSize_one]; split <;> omega
    refine (show IsRangeIter _ _ ((0 : Int) + ((0 : Nat) : Int) * 1) (((j.toNat : Nat) : Int) - ((0 : Nat) : Int)) 1 from ?_)
    rw [e2]
    exact Heap.get?_push_size _ rfl
  · rw [List.mem_singleton.mp hb]
    exact (I2 s1.toks).fpOk (Nat.le_refl _) ((I2 s1.toks).hok.fresh (Nat.le_refl _))
theorem jiy_r1 {a : Expr} {ga : GA} {p q : Pos} (hg : Gl X "range") (hm : X.mg "range" = none) (ha : JA X [a] ga) (hst : starEach [a] X.env = [(false, eval a X.env)]) : JIY HdC X tg (.Call (.Name "range" p) [a] [] q) (giR1 ga) := by
  refine ⟨_, pi_range1U hg hm pa_SA hst, fun ρ st σ H m Q S R p => ?_⟩
  refine ha.go S R (PostG.bind p) fun ws st1 vs m1 H1 p1 e1 S1 rs => ?_
  match ws, rs, p1 with
  | [], rs, p1 => exact False.elim p1
  | x :: y :: t, rs, p1 => cases x <;> exact False.elim p1
  | [x], rs, p1 =>
    obtain ⟨v, rfl, r1⟩ := rel1 rs
    cases x with
    | int j =>
      cases relInt r1
      unfold rng1W at p1
      by_cases c : CRng j
      · simp only [if_pos c] at p1
        exact ⟨j, rfl, c.1, c.2, p1 m1 H1 _ e1 S1 trivial it_rng⟩
      · simp only [if_neg c] at p1; exact False.elim p1
    | _ => exact False.elim p1
end
section
variable {X : Cx} {a b c d : Expr} {pos : Pos}
def tChain3 (r r' r'' : R2) (ta tb tc td : TE) : TE := fun σ H Q => ta σ H fun x H1 => tb σ H1 fun y H2 => r x y H2 fun z H3 => ∃ k, z = .bl k ∧ (if k = true then tc σ H3 fun u H4 => r' y u H4 fun z' H5 => ∃ k', z' = .bl k' ∧ (if k' = true then td σ H5 fun q H6 => r'' u q H6 Q else Q (.bl false) H5) else Q (.bl false) H3)
theorem pe_chain3 {o o' o'' : CmpOp} {r r' r'' : R2} {ta tb tc td : TE} (ho : OpR X (compareOp o) r) (ho' : OpR X (compareOp o') r') (ho'' : OpR X (compareOp o'') r'') (ha : PE X a ta) (hb : PE X b tb) (hc : PE X c tc) (hd : PE X d td) (hm : lastMarks [o, o', o''] [b, c, d] = false) : PE X (.Compare a [o, o', o''] [b, c, d] pos) (tChain3 r r' r'' ta tb tc td) := by
  intro pins s σ H Q I h
  refine Compare_chain (thn (ha pins s σ H _ I h) fun v s1 ⟨x, H1, I1, r1, q1⟩ => chain_link (thn (hb pins s1 σ H1 _ I1 q1) fun u s2 ⟨y, H2, I2, r2, q2⟩ => thn (ho pins s2 σ H2 x y v u _ I2 r1 r2 q2) fun _ s3 ⟨z, H3, I3, r3, k, e, q3⟩ => ?_)) hm
  subst e
  cases r3
  refine wpAny_truthy_bool ?_
  cases k with
  | false => exact ite_ff ⟨.bl false, H3, I3, rfl, q3⟩
  | true =>
    refine ite_tt (chain_link (thn (hc pins s3 σ H3 _ I3 q3) fun u' s4 ⟨y', H4, I4, r4, q4⟩ => thn (ho' pins s4 σ H4 y y' u u' _ I4 r2 r4 q4) fun _ s5 ⟨z', H5, I5, r5, k', e', q5⟩ => ?_))
    subst e'
    cases r5
    refine wpAny_truthy_bool ?_
    cases k' with
    | false => exact ite_ff ⟨.bl false, H5, I5, rfl, q5⟩
    | true => exact ite_tt (chain_last (thn (hd pins s5 σ H5 _ I5 q5) fun u'' s6 ⟨y'', H6, I6, r6, q6⟩ => ho'' pins s6 σ H6 y' y'' u' u'' Q I6 r4 r6 q6))
theorem pt_chain3 {o o' o'' : CmpOp} {r r' r'' : R2} {ta tb tc td : TE} (ho : OpR X (compareOp o) r) (ho' : OpR X (compareOp o') r') (ho'' : OpR X (compareOp o'') r'') (ha : PE X a ta) (hb : PE X b tb) (hc : PE X c tc) (hd : PE X d td) (hm : lastMarks [o, o', o''] [b, c, d] = false) : PT X (.Compare a [o, o', o''] [b, c, d] pos) (tTest (tChain3 r r' r'' ta tb tc td)) := by
  intro pins s σ H Q I h
  refine isTrue_chain (thn (ha pins s σ H _ I h) fun v s1 ⟨x, H1, I1, r1, q1⟩ => test_link (thn (hb pins s1 σ H1 _ I1 q1) fun u s2 ⟨y, H2, I2, r2, q2⟩ => thn (ho pins s2 σ H2 x y v u _ I2 r1 r2 q2) fun _ s3 ⟨z, H3, I3, r3, k, e, q3⟩ => ?_)) hm
  subst e
  cases r3
  refine wpAny_truthy_bool ?_
  cases k with
  | false =>
    obtain ⟨_, e', q'⟩ := q3
    cases e'
    exact ite_ff ⟨H3, I3, q'⟩
  | true =>
    refine ite_tt (test_link (thn (hc pins s3 σ H3 _ I3 q3) fun u' s4 ⟨y', H4, I4, r4, q4⟩ => thn (ho' pins s4 σ H4 y y' u u' _ I4 r2 r4 q4) fun _ s5 ⟨z', H5, I5, r5, k', e', q5⟩ => ?_))
    subst e'
    cases r5
    refine wpAny_truthy_bool ?_
    cases k' with
    | false =>
      obtain ⟨_, e', q'⟩ := q5
      cases e'
      exact ite_ff ⟨H5, I5, q'⟩
    | true =>
      refine ite_tt (test_last (thn (hd pins s5 σ H5 _ I5 q5) fun u'' s6 ⟨y'', H6, I6, r6, q6⟩ => thn (ho'' pins s6 σ H6 y' y'' u' u'' _ I6 r4 r6 q6) fun _ s7 ⟨z'', H7, I7, r7, k'', e'', q7⟩ => ?_))
      subst e''
      cases r7
      exact wpAny_truthy_bool ⟨H7, I7, q7⟩
def gChain3 (op op' op'' : Op2) (ga gb gc gd : GE) : GE := fun ρ st => (ga ρ st).bind fun x st1 => (gb ρ st1).bind fun y st2 => (op x y st2).nox.bind fun z st3 => match z with
  | .bl true => (gc ρ st3).bind fun u st4 => (op' y u st4).nox.bind fun z' st5 => (match z' with
    | .bl true => (gd ρ st5).bind fun q st6 => (op'' u q st6).nox
    | .bl false => .ok (.bl false) st5
    | _ => .bad)
  | .bl false => .ok (.bl false) st3
  | _ => .bad
theorem readC3 {ga gb gc gd : GE} {op op' op'' : Op2} {r r' r'' : R2} (h2 : ReadW X op r) (h2' : ReadW X op' r') (h2'' : ReadW X op'' r'') (ha : JE X a ga) (hb : JE X b gb) (hc : JE X c gc) (hd : JE X d gd) {ρ : Rho} {st : Hs} {σ : St} {H : Hp} {m : Mp} {Q : VK}
    (S : Sim X.K m st H) (R : RelEnv X.K m H ρ σ) (p : PostE X σ m H (gChain3 op op' op'' ga gb gc gd ρ st) Q) : tChain3 r r' r'' (SE X a) (SE X b) (SE X c) (SE X d) σ H Q := by
  refine ha.go S R (PostG.bind p) fun x st1 v m1 H1 p1 e1 S1 rx => ?_
  refine hb.go S1 (R.mono e1) ((PostG.bind p1).imp e1 fun _ _ q => q) fun y st2 u m2 H2 p2 e2 S2 ry => ?_
  refine h2 x y v u st2 H2 m2 _ S2 (RelW.mono e2 _ _ rx) ry (PostN.imp (PostG.nox (PostG.bind p2)) fun z st3 p3 => ?_)
  intro z' m3 H3 e3 S3 rz
  have e03 := e1.trans (e2.trans e3)
  cases z with
  | bl k =>
    unfold RelW at rz
    refine ⟨k, rz, ?_⟩
    cases k with
    | true =>
      rw [if_pos rfl]
      refine hc.go S3 (R.mono e03) ((PostG.bind p3).imp e03 fun _ _ q => q) fun q st4 u' m4 H4 p4 e4 S4 rq => ?_
      refine h2' y q u u' st4 H4 m4 _ S4 (RelW.mono (e3.trans e4) _ _ ry) rq (PostN.imp (PostG.nox (PostG.bind p4)) fun z2 st5 p5 => ?_)
      intro z2' m5 H5 e5 S5 rz2
      have e05 := e03.trans (e4.trans e5)
      cases z2 with
      | bl k2 =>
        unfold RelW at rz2
        refine ⟨k2, rz2, ?_⟩
        cases k2 with
        | true =>
          rw [if_pos rfl]
          refine hd.go S5 (R.mono e05) ((PostG.bind p5).imp e05 fun _ _ q => q) fun q2 st6 u2 m6 H6 p6 e6 S6 rq2 => ?_
          exact h2'' q q2 u' u2 st6 H6 m6 Q S6 (RelW.mono (e5.trans e6) _ _ rq) rq2 (PostO.shift (PostG.nox p6) (e05.trans e6))
        | false =>
          rw [if_neg Bool.false_ne_true]
          exact p5 (.bl false) m5 H5 e05 S5 (by unfold RelW; rfl)
      | _ => exact False.elim p5
    | false =>
      rw [if_neg Bool.false_ne_true]
      exact p3 (.bl false) m3 H3 e03 S3 (by unfold RelW; rfl)
  | _ => exact False.elim p3
theorem je_chain3 {ga gb gc gd : GE} {o o' o'' : CmpOp} {op op' op'' : Op2} (ho : OpW X (compareOp o) op) (ho' : OpW X (compareOp o') op') (ho'' : OpW X (compareOp o'') op'') (ha : JE X a ga) (hb : JE X b gb) (hc : JE X c gc) (hd : JE X d gd) (hm : lastMarks [o, o', o''] [b, c, d] = false) : JE X (.Compare a [o, o', o''] [b, c, d] pos) (gChain3 op op' op'' ga gb gc gd) := by
  obtain ⟨r, h1, h2⟩ := ho
  obtain ⟨r', h1', h2'⟩ := ho'
  obtain ⟨r'', h1'', h2''⟩ := ho''
  exact JE.of (pe_chain3 h1 h1' h1'' pe_SE pe_SE pe_SE pe_SE hm) fun ρ st σ H m Q S R p => readC3 h2 h2' h2'' ha hb hc hd S R p
theorem jt_chain3 {ga gb gc gd : GE} {o o' o'' : CmpOp} {op op' op'' : Op2} (ho : OpW X (compareOp o) op) (ho' : OpW X (compareOp o') op') (ho'' : OpW X (compareOp o'') op'') (ha : JE X a ga) (hb : JE X b gb) (hc : JE X c gc) (hd : JE X d gd) (hm : lastMarks [o, o', o''] [b, c, d] = false) : JT X (.Compare a [o, o', o''] [b, c, d] pos) (gTst (gChain3 op op' op'' ga gb gc gd)) := by
  obtain ⟨r, h1, h2⟩ := ho
  obtain ⟨r', h1', h2'⟩ := ho'
  obtain ⟨r'', h1'', h2''⟩ := ho''
  exact JT.of (pt_chain3 h1 h1' h1'' pe_SE pe_SE pe_SE pe_SE hm) fun ρ st σ H m Q S R p => readC3 h2 h2' h2'' ha hb hc hd S R (post_tst p)
end
end J
namespace J
open PySem PySem.Spec PyProof.Rows L2
def putsT (p : Addr) : List (V × V) → Hp → (Hp → Prop) → Prop
  | [], H, Q => Q H
  | (x, y) :: r, H, Q => ∃ H', DPut H p x y H' ∧ putsT p r H' Q
section
variable {X : Cx} {pins : List (Addr × Obj)} {σ : St} {E : Value → Shared → Prop} {p : Addr}
theorem dset_ok {H H' : Hp} {s : Shared} {x y : V} {u r : Value} {Q : Unit → Shared → Prop} (hu : X.A.units + 1 < cLine) (I : Inv X pins σ H s) (g : DPut H p x y H') (ru : RelV x u) (rv : RelV y r) (k : ∀ s', Inv X pins σ H' s' → Q () s') : wpAny (model X.prog X.w) X.A (dictSet p u r) Q E s := by
  rcases g with ⟨kvs, kk, e, ey, l, eH⟩ | ⟨kvs, kk, b, e, ey, eb, l, eH⟩
  · subst ey eH
    obtain ⟨z, hd, vs, rel, dd⟩ := dk_of I.hok e
    have hl : (putK kvs kk y).length ≤ sizeLine := by have := length_putK kvs kk y; omega
    refine wpAny_dictSet_pairs (hsz := by rw [← rel.length]; exact z) (kV_is ru) dd fun h' dd' hs => k _ ?_
    exact d_write I (by rw [e]; exact True.intro) hs (let ⟨q, _, _, hq, _⟩ := dd'; ⟨q, hq⟩) (dk_new hl hd (rel.put kk rv) dd')
  · subst ey eH
    cases (show u = Value.ref b from ru)
    obtain ⟨z, hd, xs, rel, dd⟩ := dt_of I.hok e
    have hl : (putK kvs kk y).length ≤ sizeLine := by have := length_putK kvs kk y; omega
    refine wpAny_dictSet_heap (knd := tupleKind (mixKind X.prog X.w)) (hsz := by rw [← Paired.length rel]; exact z) (show X.A.units < cLine by omega) (key_of I.hok eb) dd fun h' dd' hs => k _ ?_
    obtain ⟨q, es, ep, hq, h2, h3, h4, _, h5⟩ := dd'
    refine d_write I (by rw [e]; exact True.intro) hs ⟨q, hq⟩ ⟨hl, hd, _, (rel.put kk eb rv).keeps fun c ys ec => ?_, q, es, ep, hq, h2, h3, h4, h5⟩
    rw [upd_ne (ne_of ec e (fun z => nomatch z))]
    exact ec
theorem puts_ok {Q : PUnit → Shared → Prop} (hu : X.A.units + 1 < cLine) : ∀ {ps : List (V × V)} {vs : List (Value × Value)} {H : Hp} {s : Shared} {T : Hp → Prop}, VV ps vs → Inv X pins σ H s → putsT p ps H T → (∀ s' H', Inv X pins σ H' s' → T H' → Q PUnit.unit s') →
    wpAny (model X.prog X.w) X.A (forIn vs PUnit.unit fun (x : Value × Value) (_ : PUnit) => (do dictSet p x.1 x.2; pure (ForInStep.yield PUnit.unit) : Sem (ForInStep PUnit))) Q E s
  | _, _, H, s, T, .nil, I, t, k => by rw [List.forIn_nil]; exact wpAny_pure (k s H I t)
  | _, _, H, s, T, .cons (a := a) (b := b) h r, I, t, k => by
    obtain ⟨x, y⟩ := a
    obtain ⟨u, v⟩ := b
    obtain ⟨H', g, t⟩ := t
    rw [List.forIn_cons]
    exact wpAny_bind (wpAny_bind (dset_ok hu I g h.1 h.2 fun s1 I1 => wpAny_pure (puts_ok hu r I1 t k)))
end
section
variable {X : Cx} {pos : Pos}
def tDispT (trs : List (TE × TE)) : TE := fun σ H Q => ∀ p, H p = none → tPairs trs σ (upd H p (.dT [])) fun ps H2 => putsT p ps H2 (Q (.ref p))
theorem pe_dispT {ks : List (Option Expr)} {vs : List Expr} {trs : List (TE × TE)} (hu : X.A.units + 1 < cLine) (h : PPs X pos ks vs trs) (ha : ks.all (·.isSome) = true) (hl : ks.length = vs.length) (h0 : ks ≠ []) (h15 : ks.length ≤ 15) : PE X (.Dict ks vs pos) (tDispT trs) := by
  intro pins s σ H Q I q
  have I1 := I.laid (a := s.heap.objs.size) (o := .dT []) (h' := s.heap.push { cls := .type "dict", data := .dict #[] }) (t' := s.toks) (fun _ _ q => Heap.get?_push_of_some _ q) (Nat.le_refl _) (dt_empty s.heap I.big)
  have hn := pairTrees_length ks vs X.env pos ha hl
  have go := h pins _ σ _ _ I1 (q _ (I.hok.fresh (Nat.le_refl _)))
  have ne : pairTrees ks vs X.env pos ≠ [] := fun z => by
    rw [z] at hn
    exact h0 (List.length_eq_zero_iff.mp hn.symm)
  rw [arm_eval_Dict, zip_pairTrees ks vs X.env pos ha hl, dictDisplay_pairs _ ne (by omega)]
  refine wpAny_bind (wpAny_standAt (wpAny_bind ?_))
  unfold subDict
  refine wpAny_bind (wpAny_alloc (wpAny_bind (wpAny_holding ?_)))
  rw [if_pos (by omega)]
  refine wpAny_bind (thn go fun ws s2 ⟨ps, H2, I2, rel, t⟩ => wpAny_holding ?_)
  refine wpAny_bind (puts_ok hu rel I2 t fun s3 H3 I3 q3 => wpAny_pure (wpAny_pure (wpAny_pure ⟨.ref s.heap.objs.size, H3, I3, rfl, q3⟩)))
def pairsV : List (GE × GE) → Rho → Hs → Re (List (Wv × Wv))
  | [] => fun _ st => .ok [] st
  | (gk, gv) :: r => fun ρ st => (gk ρ st).bind fun k st1 => (gv ρ st1).bind fun v st2 => (pairsV r ρ st2).bind fun l st3 => .ok ((k, v) :: l) st3
def putsW (d : Wv) : List (Wv × Wv) → Hs → Option Hs
  | [], st => some st
  | (k, v) :: r, st => (match putD d k v st with | some st1 => putsW d r st1 | none => none)
def gDispT (gs : List (GE × GE)) : GE := fun ρ st => (pairsV gs ρ (st ++ [.dcT []])).bind fun kvs st2 => match putsW (.ref st.length) kvs st2 with
  | some st3 => .ok (.ref st.length) st3
  | none => .bad
abbrev RelVV (K : PySem.W.Frag) (m : Mp) (H : Hp) : List (Wv × Wv) → List (V × V) → Prop := Paired fun p q => RelW K m H p.1 q.1 ∧ RelW K m H p.2 q.2
theorem RelVV.mono {K : PySem.W.Frag} {m m1 : Mp} {H H1 : Hp} (e : Ext K m H m1 H1) : ∀ {a : List (Wv × Wv)} {b : List (V × V)}, RelVV K m H a b → RelVV K m1 H1 a b
  | _, _, .nil => .nil
  | _, _, .cons h t => .cons ⟨RelW.mono e _ _ h.1, RelW.mono e _ _ h.2⟩ (RelVV.mono e t)
theorem jps_readV {ks : List (Option Expr)} {vs : List Expr} {gs : List (GE × GE)} (h : JPs X pos ks vs gs) : ∀ {ρ : Rho} {st : Hs} {σ : St} {H : Hp} {m : Mp} {ok : List (Wv × Wv) → Hs → Prop} {T : List (V × V) → Hp → Prop}, Sim X.K m st H → RelEnv X.K m H ρ σ → PostG X σ m H (pairsV gs ρ st) ok →
    (∀ (kvs : List (Wv × Wv)) (st1 : Hs) (xs : List (V × V)) (m1 : Mp) (H1 : Hp), ok kvs st1 → Ext X.K m H m1 H1 → Sim X.K m1 st1 H1 → RelVV X.K m1 H1 kvs xs → T xs H1) → tPairs (trsOf X ks vs) σ H T := by
  induction h with
  | nil => intro ρ st σ H m ok T S R p k; exact k [] st [] m H p Ext.refl S .nil
  | cons hk hv _ ih =>
    intro ρ st σ H m ok T S R p k
    unfold pairsV at p
    refine hk.go S R (PostG.bind p) fun w st1 v m1 H1 p1 e1 S1 r1 => ?_
    refine hv.go S1 (R.mono e1) ((PostG.bind p1).imp e1 fun _ _ q => q) fun w2 st2 v2 m2 H2 p2 e2 S2 r2 => ?_
    refine ih S2 (R.mono (e1.trans e2)) ((PostG.bind p2).imp (e1.trans e2) fun _ _ q => q) fun kvs st3 xs m3 H3 p3 e3 S3 r3 => ?_
    exact k ((w, w2) :: kvs) st3 ((v, v2) :: xs) m3 H3 p3 (e1.trans (e2.trans e3)) S3 (.cons ⟨RelW.mono (e2.trans e3) _ _ r1, RelW.mono e3 _ _ r2⟩ r3)
theorem putsW_ok {d : Wv} {a : Addr} : ∀ {kvs : List (Wv × Wv)} {xs : List (V × V)} {m : Mp} {st st' : Hs} {H : Hp} {T : Hp → Prop}, Sim X.K m st H → RelW X.K m H d (.ref a) → RelVV X.K m H kvs xs → putsW d kvs st = some st' → (∀ H', Ext X.K m H m H' → Sim X.K m st' H' → T H') → putsT a xs H T
  | _, _, m, st, st', H, T, S, rd, .nil, e, k => by cases e; exact k H Ext.refl S
  | _, _, m, st, st', H, T, S, rd, .cons (a := p) (b := q) h t, e, k => by
    obtain ⟨kw, vw⟩ := p
    obtain ⟨x, y⟩ := q
    unfold putsW at e
    cases e1 : putD d kw vw st with
    | none => rw [e1] at e; cases e
    | some st1 =>
      rw [e1] at e
      obtain ⟨a', H', f1, f2, f3, f4⟩ := putD_ok (X := X) S rd h.1 h.2 e1
      cases f1
      exact ⟨H', f2, putsW_ok f4 (RelW.mono f3 _ _ rd) (RelVV.mono f3 t) e fun H2 e2 S2 => k H2 (f3.trans e2) S2⟩
theorem je_dispT {ks : List (Option Expr)} {vs : List Expr} {gs : List (GE × GE)} (hu : X.A.units + 1 < cLine) (h : JPs X pos ks vs gs) (h0 : ks ≠ []) (h15 : ks.length ≤ 15) : JE X (.Dict ks vs pos) (gDispT gs) :=
  JE.of (pe_dispT hu (jps_pps h) (jps_all h).1 (jps_all h).2.1 h0 h15) fun ρ st σ H m Q S R p => by
    intro q hq
    have ex : Ext X.K m H (m ++ [q]) (upd H q (.dT [])) := Ext.more.trans (Ext.updW (.inl hq))
    have S0 : Sim X.K (m ++ [q]) (st ++ [.dcT []]) (upd H q (.dT [])) := S.allocO hq ⟨[], upd_same, RelK.nil⟩
    refine jps_readV h S0 (R.mono ex) ((PostG.bind p).imp ex fun _ _ q => q) fun kvs st2 xs m2 H2 p2 e2 S2 r2 => ?_
    have hm : m2[st.length]? = some q := e2.pre _ _ (by rw [← S.len, List.getElem?_append_right (Nat.le_refl _), Nat.sub_self]; rfl)
    have rd : RelW X.K m2 H2 (.ref st.length) (.ref q) := by unfold RelW; exact ⟨q, rfl, hm⟩
    cases e : putsW (.ref st.length) kvs st2 with
    | none => rw [e] at p2; exact False.elim p2
    | some st3 =>
      rw [e] at p2
      exact putsW_ok S2 rd r2 e fun H3 e3 S3 => p2 (.ref q) m2 H3 (ex.trans (e2.trans e3)) S3 (RelW.mono e3 _ _ rd)
end
def getD (d k : Wv) (st : Hs) : Option Wv := match d with
  | .ref l => (match st[l]? with
    | some (.dct kvs) => (match keyOf k with | some kk => valW kvs kk | none => none)
    | some (.dcT kvs) => (match keyT k with | some kk => valW kvs kk | none => none)
    | _ => none)
  | _ => none
def ixD (d k : Wv) (st : Hs) : Re Wv := match getD d k st with
  | some w => .ok w st
  | none => .bad
def gDGet (gd gk : GE) : GE := fun ρ st => (gd ρ st).bind fun d st1 => (gk ρ st1).bind fun k st2 => ixD d k st2
section
variable {X : Cx}
theorem getD_ok {m : Mp} {st : Hs} {H : Hp} {d k w : Wv} {x y : V} (S : Sim X.K m st H) (rd : RelW X.K m H d x) (rk : RelW X.K m H k y) (e : getD d k st = some w) : ∃ a v, x = .ref a ∧ DGet H a y (some v) ∧ RelW X.K m H w v := by
  unfold getD at e
  cases d with
  | ref l =>
    dsimp only at e
    unfold RelW at rd
    obtain ⟨a, rfl, ha⟩ := rd
    cases e1 : st[l]? with
    | none => rw [e1] at e; cases e
    | some o =>
      rw [e1] at e
      cases o with
      | dct kvs =>
        dsimp only at e
        cases e2 : keyOf k with
        | none => rw [e2] at e; cases e
        | some kk =>
          rw [e2] at e
          obtain ⟨xs, h1, h2⟩ := (show ∃ ys, H a = some (.dK ys) ∧ RelK X.K m H kvs ys from S.obj _ _ _ ha e1)
          obtain ⟨u, j1, j2⟩ := (h2.val kk).2 w e
          exact ⟨a, u, rfl, by rw [keyOf_rel rk e2, ← j1]; exact DGet.k h1, j2⟩
      | dcT kvs =>
        dsimp only at e
        cases e2 : keyT k with
        | none => rw [e2] at e; cases e
        | some kk =>
          rw [e2] at e
          obtain ⟨xs, h1, h2⟩ := (show ∃ ys, H a = some (.dT ys) ∧ RelK X.K m H kvs ys from S.obj _ _ _ ha e1)
          obtain ⟨b, rfl, hb⟩ := keyT_rel rk e2
          obtain ⟨u, j1, j2⟩ := (h2.val kk).2 w e
          exact ⟨a, u, rfl, by rw [← j1]; exact DGet.t h1 hb, j2⟩
      | _ => cases e
  | _ => cases e
theorem je_dget {o i : Expr} {go gi : GE} {pos : Pos} (hu : X.A.units + 1 < cLine) (ho : JE X o go) (hi : JE X i gi) (hs : NoSl i) : JE X (.Subscript o i pos) (gDGet go gi) :=
  JE.of (pe_dget hu pe_SE pe_SE hs) fun ρ st σ H m Q S R p => by
    refine ho.go S R (PostG.bind p) fun d st1 v m1 H1 p1 e1 S1 rd => ?_
    refine hi.go S1 (R.mono e1) ((PostG.bind p1).imp e1 fun _ _ q => q) fun k st2 u m2 H2 p2 e2 S2 rk => ?_
    unfold ixD at p2
    cases e : getD d k st2 with
    | none => rw [e] at p2; exact False.elim p2
    | some w =>
      rw [e] at p2
      obtain ⟨a, v', ex, g, rw'⟩ := getD_ok (X := X) S2 (RelW.mono e2 _ _ rd) rk e
      exact ⟨a, v', ex, g, p2 v' m2 H2 (e1.trans e2) S2 rw'⟩
end
end J
namespace J
open PySem PySem.Spec PyProof.Rows L2
structure Ct where
  N : List Str
  names : List (Str × NameKind)
  consts : List (Str × Wv)
  bl : List Str
  fns : List (Str × Nat × (List Wv → Hs → Re Wv))
  tb : Tab := []
  tt : TabT := []
  clss : List Str := []
  cln : List Str := []
  tc : Tab := []
  dcs : List (Str × Dc) := []
  dts : List Str := []
  dks : List Str := []
  dis : List Str := []
  fnu : List Str := []
  loop : Bool := true
  free : Bool := true
  top : Bool := true
  lam : Option (Lm × LF) := none
  fnL : List (Str × FLt) := []
  lfn : List Str := []
  lj : Nat := 0
  self : Str := ""
def ixOf (x : Str) : List Str → Option Nat
  | [] => none
  | y :: r => if x = y then some 0 else match ixOf x r with
    | some i => some (i + 1)
    | none => none
theorem ixOf_get {x : Str} : ∀ {N : List Str} {i : Nat}, ixOf x N = some i → N[i]? = some x
  | [], i, h => by cases h
  | y :: r, i, h => by
    unfold ixOf at h
    by_cases e : x = y
    · rw [if_pos e] at h; cases h; subst e; rfl
    · rw [if_neg e] at h
      cases q : ixOf x r with
      | none => rw [q] at h; cases h
      | some j => rw [q] at h; cases h; simpa using ixOf_get q
def okN (x : Str) : Bool := !(x == ("__debug__" : Str)) && !(x == ("__classdict__" : Str)) && !(decide (x = "__name__"))
theorem okN_d {x : Str} (h : okN x = true) : (x == ("__debug__" : Str)) = false := by unfold okN at h; revert h; cases (x == ("__debug__" : Str)) <;> simp
theorem okN_c {x : Str} (h : okN x = true) : (x == ("__classdict__" : Str)) = false := by unfold okN at h; revert h; cases (x == ("__classdict__" : Str)) <;> simp
theorem okN_n {x : Str} (h : okN x = true) : x ≠ "__name__" := by
  intro e
  subst e
  unfold okN at h
  simp at h
def FlatL : List Wv → List V → Prop
  | [], [] => True
  | .int i :: r, .int j :: t => i = j ∧ FlatL r t
  | .str x :: r, .str y :: t => (x = y ∧ PyData.strOk x = true) ∧ FlatL r t
  | _, _ => False
theorem FlatL.rel {K : PySem.W.Frag} {m : Mp} {H : Hp} : ∀ {ws : List Wv} {vs : List V}, FlatL ws vs → RelWs K m H ws vs
  | [], [], _ => RelWs.nil
  | .int i :: r, .int j :: t, h => by
    obtain ⟨rfl, h⟩ := h
    exact RelWs.cons (by unfold RelW; rfl) h.rel
  | .str x :: r, .str y :: t, h => by
    obtain ⟨⟨rfl, hx⟩, h⟩ := h
    exact RelWs.cons (by unfold RelW; exact ⟨rfl, hx⟩) h.rel
  | [], _ :: _, h => False.elim h
  | .int i :: r, [], h => False.elim h
  | .str i :: r, [], h => False.elim h
  | .int i :: r, .str _ :: _, h => False.elim h
  | .str i :: r, .int _ :: _, h => False.elim h
def CstOk (K : PySem.W.Frag) (mg : Str → Option Value) (x : Str) : Wv → Prop
  | .int i => ∃ t, mg x = some (.int i t)
  | .str y => (∃ t, mg x = some (.str y t)) ∧ PyData.strOk y = true
  | .ktp ws => ∃ (a : Addr) (vs : List V) (o : Obj) (its : Array Value) (n : Nat), mg x = some (.ref a) ∧ K.lookup a = some o ∧ o.cls = .type "tuple" ∧ o.data = .seq its n ∧ its.size ≤ sizeLine ∧ Vals vs its.toList ∧ FlatL ws vs
  | _ => False
structure GoodX (c : Ct) (k : Nat) (X : Cx) : Prop where
  lam : ∀ p L, c.lam = some (p, L) → HasL X.prog X.w X.K X.mg X.base k p 3 L
  fnL : ∀ x F, c.fnL.lookup x = some F → FnL X.prog X.w X.K X.mg k c.lj x F
  fnJ : ∀ x n F, c.fns.lookup x = some (n, F) → c.lfn.contains x = true → ∀ base, ModB X.K X.mg base → Has X.prog X.w X.K X.mg base c.lj x n F
  at' : c.top = true → c.self ∈ lamDefs → ∃ P, LamAt X c.self P
structure Good (c : Ct) (k : Nat) (X : Cx) : Prop where
  N : X.N = c.N
  sc : X.env.scope.names = c.names
  nd : c.N.Nodup
  un : X.A.units + 64 < cLine
  free : c.free = true → Room k X.A ∧ X.calm = true
  loop : c.loop = true → X.calm = true ∧ PassesOwn (model X.prog X.w) X.A X.env X.xe
  cst : ∀ x w, c.consts.lookup x = some w → CstOk X.K X.mg x w
  bl : ∀ x, c.bl.contains x = true → X.mg x = none
  fns : ∀ x n F, c.fns.lookup x = some (n, F) → Has X.prog X.w X.K X.mg X.base k x n F
  stk : c.top = true → Stk X
  fn : c.top = true → ∀ x, X.fn x = true
  kind : X.env.scope.kind = .function
  tab : TabOk X.K c.tb c.tt c.tc
  cls : ∀ x, c.clss.contains x = true → ∃ C, X.mg x = some (.ref C) ∧ ExcC X.K x C
  cln : ∀ x, c.cln.contains x = true → ∃ C, X.mg x = some (.ref C) ∧ ClsAt X.K x C
  dcs : ∀ x kvs, c.dcs.lookup x = some kvs → DcAt X.K X.w X.mg x kvs
  rm : RoomU k X.A
  fnu : ∀ x n F, c.fnu.contains x = true → c.fns.lookup x = some (n, F) → HasU X.prog X.w X.K X.mg X.base k x n F
  x : GoodX c k X
  fr : FrOk X
  hd : HdC X
theorem room_un {k : Nat} {A : Around} (hr : Room k A) : A.units + 64 < cLine := by have := hr.un; omega
def Ct.inTry (c : Ct) : Ct := { c with loop := false }
def Ct.inSuite (c : Ct) : Ct := { c with loop := false, free := false }
abbrev Ct.un (c : Ct) : Ct := c.inSuite
theorem Good.body {c : Ct} {k : Nat} {X : Cx} (G : Good c k X) (hf : c.free = true) (pn : List (Addr × Obj)) (E : Value → Shared → Prop) : Good c.inTry k (reX X X.A true pn E) :=
  ⟨G.N, G.sc, G.nd, G.un, fun _ => ⟨(G.free hf).1, rfl⟩, (fun z => by cases z), G.cst, G.bl, G.fns, fun z => ⟨(G.stk z).st, (G.stk z).fr, (G.stk z).ex⟩, G.fn, G.kind, G.tab, G.cls, G.cln, G.dcs, ⟨G.rm.d, G.rm.u⟩, G.fnu, ⟨G.x.lam, G.x.fnL, G.x.fnJ, fun t m => (G.x.at' t m).imp fun P L => ⟨L.code, L.qual, L.tab, L.mem, L.uniq, L.bm⟩⟩, G.fr, G.hd⟩
theorem Good.suite {c : Ct} {k : Nat} {X : Cx} (G : Good c k X) {a : Addr} {o : Obj} {u : HO} (nx : NoCx o) (pn : List (Addr × Obj)) (E : Value → Shared → Prop) : Good c.inSuite k (suX X a (.frz o u) pn E) :=
  ⟨G.N, G.sc, G.nd, G.un, (fun z => by cases z), (fun z => by cases z), G.cst, G.bl, G.fns, fun z => ⟨(G.stk z).st, (G.stk z).fr, (G.stk z).ex⟩, G.fn, G.kind, G.tab, G.cls, G.cln, G.dcs, ⟨G.rm.d, G.rm.u⟩, G.fnu, ⟨G.x.lam, G.x.fnL, G.x.fnJ, fun t m => (G.x.at' t m).imp fun P L => ⟨L.code, L.qual, L.tab, L.mem, L.uniq, L.bm⟩⟩, G.fr, .inr ⟨a, o, u, rfl, nx, upd_same⟩⟩
theorem boot_tyV : bootBuiltins "ValueError" = some (.type "ValueError") := by decide +kernel
def tyOf (x : Str) : Option String :=
  if x = "int" then some "int" else if x = "str" then some "str" else if x = "bool" then some "bool" else if x = "tuple" then some "tuple" else if x = "list" then some "list" else if x = "ValueError" then some "ValueError" else none
theorem tyOf_ok {x : Str} {T : String} (h : tyOf x = some T) : bootBuiltins x = some (.type T) := by
  unfold tyOf at h
  by_cases e : x = "int"
  · rw [if_pos e] at h; cases h; subst e; exact boot_tyI
  rw [if_neg e] at h
  by_cases e : x = "str"
  · rw [if_pos e] at h; cases h; subst e; exact boot_tyS
  rw [if_neg e] at h
  by_cases e : x = "bool"
  · rw [if_pos e] at h; cases h; subst e; exact boot_tyB
  rw [if_neg e] at h
  by_cases e : x = "tuple"
  · rw [if_pos e] at h; cases h; subst e; exact boot_tyT
  rw [if_neg e] at h
  by_cases e : x = "list"
  · rw [if_pos e] at h; cases h; subst e; exact boot_tyL
  rw [if_neg e] at h
  by_cases e : x = "ValueError"
  · rw [if_pos e] at h; cases h; subst e; exact boot_tyV
  rw [if_neg e] at h
  cases h
section
variable {X : Cx}
def oBad : Op2 := fun _ _ _ => .bad
theorem ow_bad {f : Value → Value → Sem Value} : OpW X f oBad := ⟨fun _ _ _ _ => False, fun _ _ _ _ _ _ _ _ _ _ _ _ h => h.elim, fun _ _ _ _ _ _ _ _ _ _ _ p => p⟩
noncomputable def binO : Operator → Op2
  | .Add => oAdd
  | .Sub => oSub
  | .Mult => oMulL
  | .FloorDiv => oFdiv
  | .Mod => oMod
  | .Pow => oPow
  | _ => oBad
theorem binO_ok (o : Operator) : OpW X (binaryOp o) (binO o) := by
  cases o <;> first | exact ow_add | exact ow_sub | exact ow_mulL1 | exact ow_fdiv | exact ow_mod | exact ow_pow | exact ow_bad
def cmpO : CmpOp → Op2
  | .Eq => oEq
  | .NotEq => oNe
  | .Lt => oLt
  | .LtE => oLe
  | .Gt => oGt
  | .GtE => oGe
  | .Is => oIs
  | .IsNot => oIsNot
  | .In => oIn2
  | .NotIn => oNotIn2
theorem cmpO_ok (hu : X.A.units + 64 < cLine) (o : CmpOp) : OpW X (compareOp o) (cmpO o) := by
  cases o <;> first | exact ow_eq hu | exact ow_ne hu | exact ow_ltT hu | exact ow_leT hu | exact ow_gt | exact ow_ge | exact ow_is | exact ow_isnot | exact ow_in2 | exact ow_notIn2
def cName (c : Ct) (x : Str) : GE := if okN x = true then
    match c.names.lookup x with
    | some .local => (match ixOf x c.N with | some i => gVar i | none => gBad)
    | some .cell => (match ixOf x c.N with | some i => gVar i | none => gBad)
    | some .free => (match ixOf x c.N with | some i => gVar i | none => gBad)
    | some .globalImplicit => (match c.consts.lookup x with
      | some w => gC w
      | none => if c.clss.contains x = true then gC (.cls x) else if c.cln.contains x = true then gC (.cls x) else if c.bl.contains x = true then (match tyOf x with | some T => gC (.ty T) | none => gBad) else gBad)
    | _ => gBad
  else gBad
theorem cName_ok {c : Ct} {k : Nat} (G : Good c k X) (x : Str) (pos : Pos) : JE X (.Name x pos) (cName c x) := by
  unfold cName
  by_cases hx : okN x = true
  · rw [if_pos hx]
    cases e : c.names.lookup x with
    | none => exact je_bad
    | some kd =>
      have el : X.env.scope.names.lookup x = some kd := by rw [G.sc]; exact e
      cases kd with
      | «local» =>
        dsimp only
        cases e2 : ixOf x c.N with
        | none => exact je_bad
        | some i => exact je_var i (by rw [G.N]; exact ixOf_get e2) (Or.inl el) (okN_d hx) (okN_c hx)
      | cell =>
        dsimp only
        cases e2 : ixOf x c.N with
        | none => exact je_bad
        | some i => exact je_var i (by rw [G.N]; exact ixOf_get e2) (Or.inr (Or.inl el)) (okN_d hx) (okN_c hx)
      | free =>
        dsimp only
        cases e2 : ixOf x c.N with
        | none => exact je_bad
        | some i => exact je_var i (by rw [G.N]; exact ixOf_get e2) (Or.inr (Or.inr el)) (okN_d hx) (okN_c hx)
      | globalImplicit =>
        dsimp only
        have hg : Gl X x := el
        cases e2 : c.consts.lookup x with
        | some w =>
          have q := G.cst x w e2
          cases w with
          | int i => obtain ⟨t, q⟩ := q; exact je_globI hg q (okN_d hx)
          | str y => obtain ⟨⟨t, q⟩, z⟩ := q; exact je_globS hg q z (okN_d hx)
          | ktp ws =>
            obtain ⟨a, vs, o, its, n, q1, q2, q3, q4, q5, q6, q7⟩ := q
            exact JE.of (pe_glob (v := .ref a) hg q1 rfl (okN_d hx)) fun ρ st σ H m Q S R p => p (.ref a) m H Ext.refl S (by unfold RelW; exact ⟨a, vs, rfl, ⟨o, its, n, q2, q3, q4, q5, q6⟩, q7.rel⟩)
          | _ => exact False.elim q
        | none =>
          dsimp only
          by_cases e5 : c.clss.contains x = true
          · rw [if_pos e5]
            obtain ⟨C, q1, q2⟩ := G.cls x e5
            exact JE.of (pe_glob (v := .ref C) hg q1 rfl (okN_d hx)) fun ρ st σ H m Q S R p => p (.ref C) m H Ext.refl S (by unfold RelW; exact ⟨C, rfl, q2.cls⟩)
          rw [if_neg e5]
          by_cases e6 : c.cln.contains x = true
          · rw [if_pos e6]
            obtain ⟨C, q1, q2⟩ := G.cln x e6
            exact JE.of (pe_glob (v := .ref C) hg q1 rfl (okN_d hx)) fun ρ st σ H m Q S R p => p (.ref C) m H Ext.refl S (by unfold RelW; exact ⟨C, rfl, q2⟩)
          rw [if_neg e6]
          by_cases e3 : c.bl.contains x = true
          · rw [if_pos e3]
            cases e4 : tyOf x with
            | none => exact je_bad
            | some T => exact je_ty hg (G.bl x e3) (tyOf_ok e4) (okN_n hx) (okN_d hx)
          · rw [if_neg e3]; exact je_bad
      | _ => exact je_bad
  · rw [if_neg hx]; exact je_bad
def cConst : Const → GE
  | .none => gC .non
  | .bool b => gC (.bl b)
  | .int i => gC (.int i)
  | .str x => if PyData.strOk x = true then gC (.str x) else gBad
  | _ => gBad
theorem cConst_ok (k : Const) (j : Nat) (pos : Pos) : JE X (.Constant k j pos) (cConst k) := by
  cases k with
  | none => exact je_non
  | bool b => exact je_bl
  | int i => exact je_int
  | str x =>
    show JE X _ (if PyData.strOk x = true then gC (.str x) else gBad)
    by_cases h : PyData.strOk x = true
    · rw [if_pos h]; exact je_str h
    · rw [if_neg h]; exact je_bad
  | _ => exact je_bad
def plain : Expr → Bool
  | .Starred .. => false
  | _ => true
theorem star_plain {e : Expr} {es : List Expr} {env : Env} (h : plain e = true) : starEach (e :: es) env = (false, eval e env) :: starEach es env := by
  cases e <;> first | rfl | cases h
theorem any_plain {pos : Pos} {env : Env} : ∀ {es : List Expr}, es.all plain = true → (backTo pos (starEach es env)).any (·.1) = false
  | [], _ => rfl
  | e :: es, h => by
    rw [List.all_cons, Bool.and_eq_true] at h
    rw [star_plain h.1]
    have q := any_plain (pos := pos) (env := env) h.2
    unfold backTo at q ⊢
    rw [List.map_cons, List.any_cons, q]
    rfl
def argsG (f : Expr → GE) : List Expr → GA
  | [] => gNil
  | e :: es => gCons (f e) (argsG f es)
theorem args_ok {f : Expr → GE} (h : ∀ e, JE X e (f e)) : ∀ es : List Expr, es.all plain = true → JA X es (argsG f es)
  | [], _ => ja_nil
  | e :: es, g => by
    rw [List.all_cons, Bool.and_eq_true] at g
    exact ja_cons (h e) (args_ok h es g.2) (star_plain g.1)
def blO (c : Ct) (x : Str) : Option (Value × (List Wv → Hs → Re Wv)) :=
  if x = "len" then some (.builtin "len", oLen) else if x = "isinstance" then some (.builtin "isinstance", oIsA c.tb c.tt) else if x = "sum" ∧ c.free = true then some (.builtin "sum", oSum) else if x = "sorted" then some (.builtin "sorted", oSrt2) else none
theorem boot_sum' : bootBuiltins "sum" = some (.builtin "sum") := by decide +kernel
theorem boot_srt' : bootBuiltins "sorted" = some (.builtin "sorted") := by decide +kernel
theorem blO_ok {c : Ct} {x : Str} {v : Value} {op : List Wv → Hs → Re Wv} (O : TabOk X.K c.tb c.tt c.tc) (hc : c.free = true → X.calm = true) (h : blO c x = some (v, op)) : bootBuiltins x = some v ∧ CallW X v op ∧ ((∃ id, v = .builtin id) ∨ ∃ T, v = .type T) := by
  unfold blO at h
  by_cases e : x = "len"
  · rw [if_pos e] at h; cases h; subst e; exact ⟨boot_lenJ, cw_len, .inl ⟨_, rfl⟩⟩
  rw [if_neg e] at h
  by_cases e : x = "isinstance"
  · rw [if_pos e] at h; cases h; subst e; exact ⟨boot_isI, cw_isA O, .inl ⟨_, rfl⟩⟩
  rw [if_neg e] at h
  by_cases e : x = "sum" ∧ c.free = true
  · rw [if_pos e] at h; cases h; obtain ⟨rfl, e2⟩ := e; exact ⟨boot_sum', cw_sum (hc e2), .inl ⟨_, rfl⟩⟩
  rw [if_neg e] at h
  by_cases e : x = "sorted"
  · rw [if_pos e] at h; cases h; subst e; exact ⟨boot_srt', cw_srt2, .inl ⟨_, rfl⟩⟩
  rw [if_neg e] at h
  cases h
noncomputable def cCallN (c : Ct) (fE : Expr → GE) (x : Str) (es : List Expr) : GE := if okN x = true ∧ es.all plain = true ∧ c.names.lookup x = some .globalImplicit then
      (match c.fns.lookup x with
      | some (n, F) => if c.free = true then gCall n F (argsG fE es) else if c.fnu.contains x = true then gCall n F (argsG fE es) else gBad
      | none => if c.bl.contains x = true then (match blO c x with | some (_, op) => gCallB op (argsG fE es) | none => gBad) else gBad)
    else gBad
def cMeth (fE : Expr → GE) (o : Expr) (name : Str) (e : Expr) (apos cpos : Pos) : GE := if plain e = true ∧ (apos.endLine == cpos.line) = true then
      (if name = "append" then gMeth mApp (fE o) (fE e) else gBad)
    else gBad
def cMethL (fE : Expr → GE) (o : Expr) (name : Str) (e : Expr) (apos cpos : Pos) : GE := if plain e = true ∧ (apos.endLine == cpos.line) = true then
      (if name = "count" then gMeth mLCount (fE o) (fE e) else if name = "index" then gMeth mLIndex (fE o) (fE e) else gBad)
    else gBad
theorem cMethL_ok {fE : Expr → GE} (h : ∀ e, JE X e (fE e)) (x name : Str) (e : Expr) (p apos cpos : Pos) : JE X (.Call (.Attribute (.Name x p) name apos) [e] [] cpos) (cMethL fE (.Name x p) name e apos cpos) := by
  unfold cMethL
  by_cases g : plain e = true ∧ (apos.endLine == cpos.line) = true
  · rw [if_pos g]
    by_cases n1 : name = "count"
    · rw [if_pos n1]
      subst n1
      exact je_meth mw_lcount PySem.F.slot_list_count PySem.F.type_list_count (h _) (h e) (star_plain g.1) g.2
    rw [if_neg n1]
    by_cases n2 : name = "index"
    · rw [if_pos n2]
      subst n2
      exact je_meth mw_lindex PySem.F.slot_list_index PySem.F.type_list_index (h _) (h e) (star_plain g.1) g.2
    rw [if_neg n2]
    exact je_bad
  · rw [if_neg g]; exact je_bad
def isBase : Expr → Bool
  | .Name .. => true
  | .Constant (.str _) _ _ => true
  | .Subscript .. => true
  | _ => false
def cMethS (fE : Expr → GE) (o : Expr) (name : Str) (es : List Expr) (apos cpos : Pos) : GE := if isBase o = true ∧ es.all plain = true ∧ es.length < 20 ∧ (apos.endLine == cpos.line) = true then
      (if name = "count" then gMethS mCount (fE o) (argsG fE es) else gBad)
    else gBad
theorem base_ok {o : Expr} {name : Str} {env : Env} (h : isBase o = true) : attributeBase o name env (eval o env) = eval o env := by
  cases o with
  | Constant k j p => cases k <;> first | rfl | cases h
  | _ => first | rfl | cases h
theorem all_plain {pos : Pos} {env : Env} : ∀ {es : List Expr}, es.all plain = true → (backTo pos (starEach es env)).all (fun x => !x.1) = true
  | [], _ => rfl
  | e :: es, h => by
    rw [List.all_cons, Bool.and_eq_true] at h
    rw [star_plain h.1]
    have q := all_plain (pos := pos) (env := env) h.2
    unfold backTo at q ⊢
    rw [List.map_cons, List.all_cons, q]
    rfl
theorem cMethS_ok {fE : Expr → GE} (h : ∀ e, JE X e (fE e)) (o : Expr) (name : Str) (e : Expr) (es : List Expr) (apos cpos : Pos) : JE X (.Call (.Attribute o name apos) (e :: es) [] cpos) (cMethS fE o name (e :: es) apos cpos) := by
  unfold cMethS
  by_cases g : isBase o = true ∧ (e :: es).all plain = true ∧ (e :: es).length < 20 ∧ (apos.endLine == cpos.line) = true
  · rw [if_pos g]
    obtain ⟨g1, g2, g3, g4⟩ := g
    have gp : plain e = true ∧ es.all plain = true := by rw [List.all_cons, Bool.and_eq_true] at g2; exact g2
    have hfew : ((backTo cpos (starEach (e :: es) X.env)).all (fun x => !x.1) && (backToKw cpos (keywordEach [] X.env)).all (fun x => x.1.isSome) && decide ((e :: es).length + ([] : List Keyword).length + (if ([] : List Keyword).isEmpty then 0 else 1) < 30)) = true := by
      rw [all_plain g2]
      have g5 : (e :: es).length + ([] : List Keyword).length + (if ([] : List Keyword).isEmpty then 0 else 1) < 30 := by
        show (e :: es).length + 0 + 0 < 30
        omega
      rw [decide_eq_true g5]
      rfl
    by_cases n1 : name = "count"
    · rw [if_pos n1]
      subst n1
      exact je_methS ms_count PySem.F.slot_str_count PySem.F.type_str_count (h o) (args_ok h (e :: es) g2) (base_ok g1) hfew g4 (star_plain gp.1) (any_plain gp.2)
    rw [if_neg n1]
    exact je_bad
  · rw [if_neg g]; exact je_bad
def cGet2 (fE : Expr → GE) (o : Expr) (e f : Expr) (apos cpos : Pos) : GE := gBad
theorem cGet2_ok {c : Ct} {k : Nat} (G : Good c k X) {fE : Expr → GE} (h : ∀ e, JE X e (fE e)) (o : Expr) (ho : attributeBase o "get" X.env (eval o X.env) = eval o X.env) (e f : Expr) (apos cpos : Pos) : JE X (.Call (.Attribute o "get" apos) [e, f] [] cpos) (cGet2 fE o e f apos cpos) := by
  exact je_bad
def dcOf (c : Ct) (x : Str) : Option Dc := if okN x = true ∧ c.names.lookup x = some .globalImplicit then c.dcs.lookup x else none
theorem dcOf_ok {c : Ct} {k : Nat} (G : Good c k X) {x : Str} {kvs : Dc} (h : dcOf c x = some kvs) : Gl X x ∧ (x == ("__debug__" : Str)) = false ∧ DcAt X.K X.w X.mg x kvs := by
  unfold dcOf at h
  by_cases g : okN x = true ∧ c.names.lookup x = some .globalImplicit
  · rw [if_pos g] at h
    refine ⟨?_, okN_d g.1, G.dcs x kvs h⟩
    show X.env.scope.names.lookup x = _
    rw [G.sc]; exact g.2
  · rw [if_neg g] at h; cases h
noncomputable def cCall (c : Ct) (fE : Expr → GE) (cpos : Pos) : Expr → List Expr → List Keyword → GE
  | .Name x _, e :: es, [] => cCallN c fE x (e :: es)
  | .Attribute (.Name x p) name apos, [e], [] => if name = "append" ∨ name = "extend" then cMeth fE (.Name x p) name e apos cpos else if name = "count" ∨ name = "index" then gAlt (cMethS fE (.Name x p) name [e] apos cpos) (cMethL fE (.Name x p) name e apos cpos) else cMethS fE (.Name x p) name [e] apos cpos
  | .Attribute (.Name x p) name apos, [e, f], [] => if name = "get" then (match dcOf c x with | some kvs => (if plain e = true ∧ plain f = true ∧ (apos.endLine == cpos.line) = true then gDcGet kvs (fE e) (fE f) else gBad) | none => cGet2 fE (.Name x p) e f apos cpos) else cMethS fE (.Name x p) name [e, f] apos cpos
  | .Attribute o name apos, e :: es, [] => cMethS fE o name (e :: es) apos cpos
  | _, _, _ => gBad
theorem cCallN_ok {c : Ct} {k : Nat} (G : Good c k X) {fE : Expr → GE} (h : ∀ e, JE X e (fE e)) (x : Str) (e : Expr) (es : List Expr) (p pos : Pos) : JE X (.Call (.Name x p) (e :: es) [] pos) (cCallN c fE x (e :: es)) := by
  unfold cCallN
  by_cases g : okN x = true ∧ (e :: es).all plain = true ∧ c.names.lookup x = some .globalImplicit
  · rw [if_pos g]
    obtain ⟨g1, g2, g3⟩ := g
    have hg : Gl X x := by
      show X.env.scope.names.lookup x = _
      rw [G.sc]; exact g3
    have gp : plain e = true ∧ es.all plain = true := by rw [List.all_cons, Bool.and_eq_true] at g2; exact g2
    have ha := args_ok h (e :: es) g2
    cases e1 : c.fns.lookup x with
    | some nF =>
      obtain ⟨n, F⟩ := nF
      dsimp only
      by_cases cf : c.free = true
      · rw [if_pos cf]
        obtain ⟨a, fd, ps, G1, G2, G3, G4⟩ := G.fns x n F e1
        exact je_call G1 (G.free cf).1 G2 G3 G4 ha hg (okN_d g1) (star_plain gp.1) (any_plain gp.2)
      · rw [if_neg cf]
        by_cases cu : c.fnu.contains x = true
        · rw [if_pos cu]
          obtain ⟨a, fd, ps, G1, G2, G3, G4⟩ := G.fnu x n F cu e1
          exact je_callU G1 G.rm G.hd G2 G3 G4 ha hg (okN_d g1) (star_plain gp.1) (any_plain gp.2)
        · rw [if_neg cu]; exact je_bad
    | none =>
      dsimp only
      by_cases e3 : c.bl.contains x = true
      · rw [if_pos e3]
        cases e4 : blO c x with
        | none => exact je_bad
        | some io =>
          obtain ⟨v, op⟩ := io
          obtain ⟨b1, b2, b3⟩ := blO_ok (X := X) G.tab (fun z => (G.free z).2) e4
          rcases b3 with ⟨id, rfl⟩ | ⟨T, rfl⟩
          · exact je_callB b2 hg (G.bl x e3) b1 ha (okN_n g1) (okN_d g1) (star_plain gp.1) (any_plain gp.2)
          · exact je_callTy b2 hg (G.bl x e3) b1 ha (okN_n g1) (okN_d g1) (star_plain gp.1) (any_plain gp.2)
      · rw [if_neg e3]
        exact je_bad
  · rw [if_neg g]; exact je_bad
theorem cMeth_ok {fE : Expr → GE} (h : ∀ e, JE X e (fE e)) (x name : Str) (e : Expr) (p apos cpos : Pos) : JE X (.Call (.Attribute (.Name x p) name apos) [e] [] cpos) (cMeth fE (.Name x p) name e apos cpos) := by
  unfold cMeth
  by_cases g : plain e = true ∧ (apos.endLine == cpos.line) = true
  · rw [if_pos g]
    by_cases n1 : name = "append"
    · rw [if_pos n1]
      subst n1
      exact je_meth mw_app PySem.F.slot_list_append PySem.F.type_list_append (h _) (h e) (star_plain g.1) g.2
    rw [if_neg n1]
    exact je_bad
  · rw [if_neg g]; exact je_bad
theorem cCall_ok {c : Ct} {k : Nat} (G : Good c k X) {fE : Expr → GE} (h : ∀ e, JE X e (fE e)) (f : Expr) (as : List Expr) (ks : List Keyword) (pos : Pos) : JE X (.Call f as ks pos) (cCall c fE pos f as ks) := by
  unfold cCall
  split
  · exact cCallN_ok G h _ _ _ _ _
  · rename_i x p name apos e
    by_cases g : name = "append" ∨ name = "extend"
    · rw [if_pos g]; exact cMeth_ok h _ _ _ _ _ _
    · rw [if_neg g]
      by_cases g2 : name = "count" ∨ name = "index"
      · rw [if_pos g2]; exact je_alt (cMethS_ok h _ _ _ _ _ _) (cMethL_ok h _ _ _ _ _ _)
      · rw [if_neg g2]; exact cMethS_ok h _ _ _ _ _ _
  · rename_i x p name apos e f
    by_cases g : name = "get"
    · rw [if_pos g]
      subst g
      cases ed : dcOf c x with
      | none => exact cGet2_ok G h _ rfl _ _ _ _
      | some kvs =>
        dsimp only
        by_cases g : plain e = true ∧ plain f = true ∧ (apos.endLine == pos.line) = true
        · rw [if_pos g]
          obtain ⟨g1, g2, g3⟩ := g
          obtain ⟨q1, q2, q3⟩ := dcOf_ok G ed
          refine je_dcGet (h e) (h f) ⟨rfl, ?_, g3, ?_⟩ q1 q2 q3
          · rw [all_plain (es := [e, f]) (by simp [g1, g2])]
            rfl
          · rw [star_plain g1, star_plain g2]
            rfl
        · rw [if_neg g]; exact je_bad
    · rw [if_neg g]; exact cMethS_ok h _ _ _ _ _ _
  · exact cMethS_ok h _ _ _ _ _ _
  · exact je_bad
def isSl : Expr → Bool
  | .Slice .. => true
  | _ => false
def partG (f : Expr → GE) : Option Expr → GO
  | none => gNoPart
  | some e => gPart (f e)
theorem part_ok {f : Expr → GE} (h : ∀ e, JE X e (f e)) (o : Option Expr) : JO X o (partG f o) := by
  cases o with
  | none => exact jo_none
  | some e => exact jo_some (h e)
def subG (f : Expr → GE) (a : Expr) : Expr → GE
  | .Slice lo hi none _ => gSlice2 (f a) (partG f lo) (partG f hi)
  | .Slice .. => gBad
  | b => gBin oIx (f a) (f b)
theorem sub_ok {f : Expr → GE} (h : ∀ e, JE X e (f e)) (a b : Expr) (pos : Pos) : JE X (.Subscript a b pos) (subG f a b) := by
  unfold subG
  split
  · exact je_slice2 (h a) (part_ok h _) (part_ok h _)
  · exact je_bad
  · rename_i n1 n2
    refine je_ix (h a) (h b) ?_
    intro o i
    cases b <;> first | rfl | (rename_i lo hi st p; exact (n2 _ _ _ _ rfl).elim)
def cmpG (f : Expr → GE) (a : Expr) : List CmpOp → List Expr → GE
  | [o], [b] => if behindInMarks o b = false then gBin (cmpO o) (f a) (f b) else gBad
  | [o, o'], [b, b'] => if lastMarks [o, o'] [b, b'] = false then gChain (cmpO o) (cmpO o') (f a) (f b) (f b') else gBad
  | [o, o', o''], [b, b', b''] => if lastMarks [o, o', o''] [b, b', b''] = false then gChain3 (cmpO o) (cmpO o') (cmpO o'') (f a) (f b) (f b') (f b'') else gBad
  | _, _ => gBad
theorem cmp_ok (hu : X.A.units + 64 < cLine) {f : Expr → GE} (h : ∀ e, JE X e (f e)) (a : Expr) (os : List CmpOp) (bs : List Expr) (pos : Pos) : JE X (.Compare a os bs pos) (cmpG f a os bs) := by
  unfold cmpG
  split
  · rename_i o b
    by_cases g : behindInMarks o b = false
    · rw [if_pos g]; exact je_cmp (cmpO_ok hu o) (h a) (h b) g
    · rw [if_neg g]; exact je_bad
  · rename_i o o' b b'
    by_cases g : lastMarks [o, o'] [b, b'] = false
    · rw [if_pos g]; exact je_chain (cmpO_ok hu o) (cmpO_ok hu o') (h a) (h b) (h b') g
    · rw [if_neg g]; exact je_bad
  · rename_i o o' o'' b b' b''
    by_cases g : lastMarks [o, o', o''] [b, b', b''] = false
    · rw [if_pos g]; exact je_chain3 (cmpO_ok hu o) (cmpO_ok hu o') (cmpO_ok hu o'') (h a) (h b) (h b') (h b'') g
    · rw [if_neg g]; exact je_bad
  · exact je_bad
def cmpT (f : Expr → GE) (a : Expr) : List CmpOp → List Expr → GT
  | [o], [b] => if behindInMarks o b = false then gTst (gBin (cmpO o) (f a) (f b)) else gBadT
  | [o, o'], [b, b'] => if lastMarks [o, o'] [b, b'] = false then gTst (gChain (cmpO o) (cmpO o') (f a) (f b) (f b')) else gBadT
  | [o, o', o''], [b, b', b''] => if lastMarks [o, o', o''] [b, b', b''] = false then gTst (gChain3 (cmpO o) (cmpO o') (cmpO o'') (f a) (f b) (f b') (f b'')) else gBadT
  | _, _ => gBadT
theorem cmpT_ok (hu : X.A.units + 64 < cLine) {f : Expr → GE} (h : ∀ e, JE X e (f e)) (a : Expr) (os : List CmpOp) (bs : List Expr) (pos : Pos) : JT X (.Compare a os bs pos) (cmpT f a os bs) := by
  unfold cmpT
  split
  · rename_i o b
    by_cases g : behindInMarks o b = false
    · rw [if_pos g]; exact jt_cmp (cmpO_ok hu o) (h a) (h b) g
    · rw [if_neg g]; exact jt_bad
  · rename_i o o' b b'
    by_cases g : lastMarks [o, o'] [b, b'] = false
    · rw [if_pos g]; exact jt_chain (cmpO_ok hu o) (cmpO_ok hu o') (h a) (h b) (h b') g
    · rw [if_neg g]; exact jt_bad
  · rename_i o o' o'' b b' b''
    by_cases g : lastMarks [o, o', o''] [b, b', b''] = false
    · rw [if_pos g]; exact jt_chain3 (cmpO_ok hu o) (cmpO_ok hu o') (cmpO_ok hu o'') (h a) (h b) (h b') (h b'') g
    · rw [if_neg g]; exact jt_bad
  · exact jt_bad
def isDn (c : Ct) : Expr → Bool
  | .Name x _ => c.dts.contains x || c.dks.contains x
  | _ => false
def subD (c : Ct) (f : Expr → GE) : Expr → Expr → GE
  | .Name x p, b => (match dcOf c x with | some kvs => if isSl b = false then gDcIx kvs (f b) else gBad | none => if isDn c (.Name x p) = true ∧ isSl b = false then gDGet (f (.Name x p)) (f b) else subG f (.Name x p) b)
  | a, b => subG f a b
theorem subD_ok {c : Ct} {k : Nat} (G : Good c k X) {f : Expr → GE} (h : ∀ e, JE X e (f e)) (a b : Expr) (pos : Pos) : JE X (.Subscript a b pos) (subD c f a b) := by
  unfold subD
  split
  · rename_i x p
    cases e : dcOf c x with
    | none =>
      dsimp only
      by_cases g : isDn c (.Name x p) = true ∧ isSl b = false
      · rw [if_pos g]
        refine je_dget (by have := G.un; omega) (h _) (h b) ?_
        intro o i
        cases b <;> first | rfl | cases g.2
      · rw [if_neg g]; exact sub_ok h _ b pos
    | some kvs =>
      dsimp only
      by_cases g : isSl b = false
      · rw [if_pos g]
        obtain ⟨g1, g2, g3⟩ := dcOf_ok G e
        refine je_dcIx (h b) ?_ g1 g2 g3
        intro o i
        cases b <;> first | rfl | cases g
      · rw [if_neg g]; exact je_bad
  · exact sub_ok h _ b pos
def pairsOf (f : Expr → GE) : List (Option Expr) → List Expr → Option (List (GE × GE))
  | [], [] => some []
  | some k :: ks, v :: vs => (match pairsOf f ks vs with | some r => some ((f k, f v) :: r) | none => none)
  | _, _ => none
theorem pairsOf_ok {f : Expr → GE} (h : ∀ e, JE X e (f e)) {pos : Pos} : ∀ {ks : List (Option Expr)} {vs : List Expr} {gs : List (GE × GE)}, pairsOf f ks vs = some gs → JPs X pos ks vs gs
  | [], [], gs, e => by cases e; exact .nil
  | some k :: ks, v :: vs, gs, e => by
    unfold pairsOf at e
    cases q : pairsOf f ks vs with
    | none => rw [q] at e; cases e
    | some r => rw [q] at e; cases e; exact .cons (h k) (h v) (pairsOf_ok h q)
  | [], _ :: _, gs, e => by cases e
  | none :: _, _, gs, e => by unfold pairsOf at e; cases e
  | some _ :: _, [], gs, e => by cases e
def isKT : List (Option Expr) → Bool
  | some (.Tuple ..) :: _ => true
  | _ => false
def dispG (f : Expr → GE) (ks : List (Option Expr)) (vs : List Expr) : GE := if (!ks.isEmpty && decide (ks.length ≤ 15)) = true then (match pairsOf f ks vs with | some gs => if isKT ks = true then gDispT gs else gDisp gs | none => gBad) else gBad
theorem disp_ok (hu : X.A.units + 1 < cLine) {f : Expr → GE} (h : ∀ e, JE X e (f e)) (ks : List (Option Expr)) (vs : List Expr) (pos : Pos) : JE X (.Dict ks vs pos) (dispG f ks vs) := by
  unfold dispG
  by_cases g : (!ks.isEmpty && decide (ks.length ≤ 15)) = true
  · rw [if_pos g]
    simp only [Bool.and_eq_true, decide_eq_true_eq] at g
    cases e : pairsOf f ks vs with
    | none => exact je_bad
    | some gs =>
      dsimp only
      by_cases t : isKT ks = true
      · rw [if_pos t]; exact je_dispT hu (pairsOf_ok h e) (by intro z; subst z; simp at g) g.2
      · rw [if_neg t]; exact je_disp (pairsOf_ok h e) (by intro z; subst z; simp at g) g.2
  · rw [if_neg g]; exact je_bad
def andV (f : Expr → GE) : List Expr → GE
  | [] => gBad
  | [a] => f a
  | a :: b :: r => gAndV (f a) (andV f (b :: r))
def orV (f : Expr → GE) : List Expr → GE
  | [] => gBad
  | [a] => f a
  | a :: b :: r => gOrV (f a) (orV f (b :: r))
theorem andV_ok {f : Expr → GE} (h : ∀ e, JE X e (f e)) (pos : Pos) : ∀ es, JE X (.BoolOp .And es pos) (andV f es)
  | [] => je_bad
  | [a] => je_one (h a)
  | a :: b :: r => je_and (h a) (andV_ok h pos (b :: r))
theorem orV_ok {f : Expr → GE} (h : ∀ e, JE X e (f e)) (pos : Pos) : ∀ es, JE X (.BoolOp .Or es pos) (orV f es)
  | [] => je_bad
  | [a] => je_one (h a)
  | a :: b :: r => je_or (h a) (orV_ok h pos (b :: r))
def andT (f : Expr → GT) : List Expr → GT
  | [] => gBadT
  | [a] => f a
  | a :: b :: r => gAnd (f a) (andT f (b :: r))
def orT (f : Expr → GT) : List Expr → GT
  | [] => gBadT
  | [a] => f a
  | a :: b :: r => gOr (f a) (orT f (b :: r))
theorem jw_bad {e : Expr} : JW X e gBadT := fun ρ st σ H m Q S R p => False.elim p
theorem andT_ok {f : Expr → GT} (h : ∀ e, JT X e (f e)) (pos : Pos) : ∀ es, JW X (.BoolOp .And es pos) (andT f es)
  | [] => jw_bad
  | [a] => jw_and1 (h a)
  | a :: b :: r => jw_and (h a) (andT_ok h pos (b :: r))
theorem orT_ok {f : Expr → GT} (h : ∀ e, JT X e (f e)) (pos : Pos) : ∀ es, JW X (.BoolOp .Or es pos) (orT f es)
  | [] => jw_bad
  | [a] => jw_or1 (h a)
  | a :: b :: r => jw_or (h a) (orT_ok h pos (b :: r))
def unG (f : Expr → GE) : UnaryOp → Expr → GE
  | .USub, a => gUn opNeg (f a)
  | .Not, a => gNotV (f a)
  | _, _ => gBad
def seqG (f : Expr → GE) (g : GA → GE) (es : List Expr) : GE := if es.all plain = true then g (argsG f es) else gBad
def isSet : Expr → Bool
  | .Set .. => true
  | _ => false
theorem fold_no {e : Expr} {env : Env} (h : isSet e = false) (x : Value) : foldedSetIterable e env x = pure x := by
  cases e <;> first | rfl | cases h
def isRange (c : Ct) (x : Str) : Bool := decide (x = "range") && decide (c.names.lookup x = some .globalImplicit) && c.bl.contains x && (match c.fns.lookup x with | some _ => false | none => true)
theorem range_ok {c : Ct} {k : Nat} (G : Good c k X) (y : Str) (hy : isRange c y = true) : y = "range" ∧ Gl X y ∧ X.mg y = none := by
  unfold isRange at hy
  simp only [Bool.and_eq_true, decide_eq_true_eq] at hy
  refine ⟨hy.1.1.1, ?_, G.bl y hy.1.2⟩
  show X.env.scope.names.lookup y = _
  rw [G.sc]; exact hy.1.1.2
noncomputable def iterG (c : Ct) (f : Expr → GE) : Expr → GI
  | .Call (.Name x p) [a] [] q => if isRange c x = true then (if plain a = true then giR1 (argsG f [a]) else gBadI) else giSeq2 (f (.Call (.Name x p) [a] [] q))
  | .Call (.Name x p) [a, b] [] q => if isRange c x = true then (if plain a = true ∧ plain b = true then giR2 (argsG f [a, b]) else gBadI) else giSeq2 (f (.Call (.Name x p) [a, b] [] q))
  | e => if isSet e = false then giSeq2 (f e) else gBadI
theorem iter_ok {c : Ct} {k : Nat} (G : Good c k X) {f : Expr → GE} (h : ∀ e, JE X e (f e)) (tg e : Expr) : JI X tg e (iterG c f e) := by
  unfold iterG
  split
  · rename_i y p a q
    by_cases g : isRange c y = true
    · rw [if_pos g]
      obtain ⟨rfl, g2, g3⟩ := range_ok G y g
      by_cases ga : plain a = true
      · rw [if_pos ga]
        exact ji_r1 g2 g3 (args_ok h [a] (by simp [ga])) (star_plain ga)
      · rw [if_neg ga]; exact ji_bad
    · rw [if_neg g]; exact ji_seq2 (h _)
  · rename_i y p a b q
    by_cases g : isRange c y = true
    · rw [if_pos g]
      obtain ⟨rfl, g2, g3⟩ := range_ok G y g
      by_cases ga : plain a = true ∧ plain b = true
      · rw [if_pos ga]
        exact ji_r2 g2 g3 (args_ok h [a, b] (by simp [ga])) (by rw [star_plain ga.1, star_plain ga.2]; rfl) (by rw [star_plain ga.2]; rfl)
      · rw [if_neg ga]; exact ji_bad
    · rw [if_neg g]; exact ji_seq2 (h _)
  · by_cases g : isSet e = false
    · rw [if_pos g]; exact ji_seq2 (h _)
    · rw [if_neg g]; exact ji_bad
def isR1 (c : Ct) : Expr → Bool
  | .Call (.Name x _) [a] [] _ => isRange c x && plain a
  | _ => false
theorem iterU_ok {c : Ct} {k : Nat} (G : Good c k X) {f : Expr → GE} (h : ∀ e, JE X e (f e)) (tg e : Expr) (g : isR1 c e = true) : JIY HdC X tg e (iterG c f e) := by
  unfold isR1 at g
  split at g
  · rename_i y p a q
    simp only [Bool.and_eq_true] at g
    obtain ⟨rfl, g2, g3⟩ := range_ok G y g.1
    unfold iterG
    dsimp only
    rw [if_pos g.1, if_pos g.2]
    exact jiy_r1 g2 g3 (args_ok h [a] (by simp [g.2])) (star_plain g.2)
  · cases g
def isEn (c : Ct) (x : Str) : Bool := decide (x = "enumerate") && decide (c.names.lookup x = some .globalImplicit) && c.bl.contains x && (match c.fns.lookup x with | some _ => false | none => true)
def giOf (gi : GI) : GI2 := fun ρ st => (gi ρ st).bind fun w st1 => .ok (w.1.map fun l => (l, w.2), w.2) st1
noncomputable def iterG2 (c : Ct) (f : Expr → GE) : Expr → GI2
  | e => giOf (iterG c f e)
theorem iter2_ok {c : Ct} {k : Nat} (G : Good c k X) {f : Expr → GE} (h : ∀ e, JE X e (f e)) (es : List Expr) (kt : Nat) (pt : Pos) (e : Expr) : JI2 X (.Tuple es kt pt) e (iterG2 c f e) := by
  unfold iterG2
  exact ji2_of (iter_ok G h _ _)
def isEnC (c : Ct) : Expr → Bool
  | .Call (.Name x _) [_] [] _ => isEn c x
  | _ => false
def capsL (c : Ct) : List (Str × NameKind) → Option Caps
  | [] => some []
  | (n, .free) :: r => if c.names.lookup n = some .cell ∨ c.names.lookup n = some .free then (match ixOf n c.N, capsL c r with | some i, some l => some ((n, i) :: l) | _, _ => none) else none
  | _ :: r => capsL c r
theorem capsL_ok {c : Ct} : ∀ {ns : List (Str × NameKind)} {cs : Caps}, capsL c ns = some cs → (∀ y ∈ ns, y.2 = .free → c.names.lookup y.1 = some .cell ∨ c.names.lookup y.1 = some .free) ∧ ∀ p ∈ cs, (p.1, NameKind.free) ∈ ns ∧ c.N[p.2]? = some p.1
  | [], cs, h => by cases h; exact ⟨(fun _ z => by cases z), (fun _ z => by cases z)⟩
  | (n, k) :: r, cs, h => by
    unfold capsL at h
    split at h
    · cases ‹_ :: _ = []›
    · rename_i n' r' he
      cases he
      by_cases g : c.names.lookup n = some .cell ∨ c.names.lookup n = some .free
      · rw [if_pos g] at h
        cases e1 : ixOf n c.N with
        | none => rw [e1] at h; cases h
        | some i =>
          cases e2 : capsL c r with
          | none => rw [e1, e2] at h; cases h
          | some l =>
            rw [e1, e2] at h
            cases h
            obtain ⟨q1, q2⟩ := capsL_ok e2
            refine ⟨fun y hy e => ?_, fun p hp => ?_⟩
            · rcases List.mem_cons.mp hy with z | z
              · subst z; exact g
              · exact q1 y z e
            · rcases List.mem_cons.mp hp with z | z
              · subst z; exact ⟨List.mem_cons_self, ixOf_get e1⟩
              · exact ⟨List.mem_cons_of_mem _ (q2 p z).1, (q2 p z).2⟩
      · rw [if_neg g] at h; cases h
    · rename_i kk r' hk he
      cases he
      obtain ⟨q1, q2⟩ := capsL_ok h
      refine ⟨fun y hy e => ?_, fun p hp => ⟨List.mem_cons_of_mem _ (q2 p hp).1, (q2 p hp).2⟩⟩
      rcases List.mem_cons.mp hy with z | z
      · subst z
        have e' : k = .free := e
        subst e'
        exact (hk n rfl).elim
      · exact q1 y z e
def relabN (c : Ct) (ns : List (Str × NameKind)) : List (Str × NameKind) := ns.map fun (n, k) => if (k == .free && c.names.lookup n == some .cell) then (n, .cell) else (n, k)
def isFnK : ScopeKind → Bool
  | .function => true
  | _ => false
def scopeOk (scope : Scope) (x : Str) : Bool := isFnK scope.kind && scope.names.all (fun y => decide (scope.names.lookup y.1 = some y.2)) && scope.names.all (fun y => decide (y.2 ≠ .cell)) && decide (scope.names.lookup x = some .local)
def Ct.block (c : Ct) (scope : Scope) (x : Str) (cs : Caps) : Ct := { c with N := x :: cs.map (·.1), names := relabN c scope.names, loop := false, top := false }
noncomputable def compC (c : Ct) (sub : Ct → (Expr → GE) × (Expr → GT)) (f : Expr → GE) (elt : Expr) (x : Str) (iter : Expr) (gts : Ct → GT) (scope : Scope) : GE :=
  if scopeOk scope x = true ∧ (c.free = true ∨ isR1 c iter = true) ∧ isSet iter = false then (match capsL c scope.names with
    | some cs => if (x :: cs.map (·.1)).Nodup then gComp cs (iterG c f iter) (gts (c.block scope x cs)) ((sub (c.block scope x cs)).1 elt) else gBad
    | none => gBad) else gBad
noncomputable def coG (c : Ct) (sub : Ct → (Expr → GE) × (Expr → GT)) (f : Expr → GE) (elt : Expr) (scope : Scope) : List Comprehension → GE
  | [⟨.Name x _, iter, [], 0⟩] => compC c sub f elt x iter (fun _ => fun _ st => .ok true st) scope
  | [⟨.Name x _, iter, [q], 0⟩] => compC c sub f elt x iter (fun c' => (sub c').2 q) scope
  | _ => gBad
theorem block_good {c : Ct} {k : Nat} (G : Good c k X) {scope : Scope} {x : Str} {cs : Caps} (hs : scopeOk scope x = true) (nd : (x :: cs.map (·.1)).Nodup) (C : Addr) (s0 : Shared) (H0 : Hp) (fp : List Addr) (pn : List (Addr × Obj)) (E : Value → Shared → Prop) (hA : HdA X.A H0) :
    Good (c.block scope x cs) k (compX X scope x cs C s0 H0 fp pn E) := by
  unfold scopeOk at hs
  simp only [Bool.and_eq_true, decide_eq_true_eq] at hs
  have hk : scope.kind = .function := by
    have := hs.1.1.1
    revert this
    cases scope.kind <;> intro z <;> first | rfl | cases z
  refine ⟨rfl, ?_, nd, G.un, G.free, (fun z => by cases z), G.cst, G.bl, G.fns, (fun z => by cases z), (fun z => by cases z), hk, G.tab, G.cls, G.cln, G.dcs, ⟨G.rm.d, G.rm.u⟩, G.fnu, ⟨G.x.lam, G.x.fnL, G.x.fnJ, (fun z => by cases z)⟩, G.fr, hA⟩
  show (relabel scope X.env).names = relabN c scope.names
  unfold relabel relabN Env.kindOf
  rw [G.kind, G.sc]
  simp
theorem scope_cs {c : Ct} {k : Nat} (G : Good c k X) {scope : Scope} {x : Str} {cs : Caps} (hs : scopeOk scope x = true) (hcs : capsL c scope.names = some cs) (nd : (x :: cs.map (·.1)).Nodup) : CScope X scope x cs := by
  unfold scopeOk at hs
  simp only [Bool.and_eq_true, decide_eq_true_eq, List.all_eq_true] at hs
  obtain ⟨⟨⟨h1, h2⟩, h3⟩, h4⟩ := hs
  have hk : scope.kind = .function := by
    revert h1
    cases scope.kind <;> intro z <;> first | rfl | cases z
  obtain ⟨q1, q2⟩ := capsL_ok hcs
  refine ⟨hk, h2, h3, h4, fun y hy e => ?_, fun p hp => ⟨by rw [G.N]; exact (q2 p hp).2, h2 _ (q2 p hp).1⟩, nd⟩
  show X.env.scope.names.lookup y.1 = _ ∨ X.env.scope.names.lookup y.1 = _
  rw [G.sc]; exact q1 y hy e
def JAs (X : Cx) (e : Expr) (g : GE) : Prop := ∀ (i : Nat) (y : Str) (py spos : Pos), X.N.Nodup → X.N[i]? = some y → Loc X.env.scope y → (X.fn y = true ∨ X.env.scope.names.lookup y = some .local) → JS X (.Assign [.Name y py] e spos) (gSet i g)
theorem js_setBad {i : Nat} {s : Stmt} : JS X s (gSet i gBad) := fun ρ st σ H m D S R p => False.elim p
theorem jas_bad {e : Expr} : JAs X e gBad := fun i y py spos _ _ _ _ => js_setBad
theorem co_both {c : Ct} {k : Nat} (G : Good c k X) {sub : Ct → (Expr → GE) × (Expr → GT)} (hb : ∀ c X, Good c k X → (∀ e, JE X e ((sub c).1 e)) ∧ ∀ e, JT X e ((sub c).2 e)) {f : Expr → GE} (h : ∀ e, JE X e (f e)) (elt : Expr) (scope : Scope) (gens : List Comprehension) (pos : Pos) :
    JE X (.ListComp elt gens scope pos) (coG c sub f elt scope gens) ∧ JAs X (.ListComp elt gens scope pos) (coG c sub f elt scope gens) := by
  have core : ∀ (x : Str) (px : Pos) (iter : Expr) (ifs : List Expr) (gts : Ct → GT), (∀ c X, Good c k X → JTs X ifs (gts c)) →
      JE X (.ListComp elt [⟨.Name x px, iter, ifs, 0⟩] scope pos) (compC c sub f elt x iter gts scope) ∧ JAs X (.ListComp elt [⟨.Name x px, iter, ifs, 0⟩] scope pos) (compC c sub f elt x iter gts scope) := by
    intro x px iter ifs gts hg
    unfold compC
    by_cases g : scopeOk scope x = true ∧ (c.free = true ∨ isR1 c iter = true) ∧ isSet iter = false
    · rw [if_pos g]
      obtain ⟨g1, g2, g3⟩ := g
      cases ec : capsL c scope.names with
      | none => exact ⟨je_bad, jas_bad⟩
      | some cs =>
        dsimp only
        by_cases nd : (x :: cs.map (·.1)).Nodup
        · rw [if_pos nd]
          have CS := scope_cs G g1 ec nd
          have hE : ∀ C s0 H0 fp pn E, HdA X.A H0 → JE (compX X scope x cs C s0 H0 fp pn E) elt ((sub (c.block scope x cs)).1 elt) := fun C s0 H0 fp pn E z => (hb _ _ (block_good G g1 nd C s0 H0 fp pn E z)).1 elt
          have hT : ∀ C s0 H0 fp pn E, HdA X.A H0 → JTs (compX X scope x cs C s0 H0 fp pn E) ifs (gts (c.block scope x cs)) := fun C s0 H0 fp pn E z => hg _ _ (block_good G g1 nd C s0 H0 fp pn E z)
          rcases g2 with g2 | g2
          · exact ⟨je_comp G.fr CS (yin_calm (G.free g2).2) G.hd (iter_ok G h _ iter).y hE hT (fold_no g3), fun i y py spos hN hi hl hf => js_setC i hN G.fr CS (yin_calm (G.free g2).2) G.hd (iter_ok G h _ iter).y hE hT (fold_no g3) hi hl hf⟩
          · exact ⟨je_comp G.fr CS (yin_hd G.hd) G.hd (iterU_ok G h _ iter g2) hE hT (fold_no g3), fun i y py spos hN hi hl hf => js_setC i hN G.fr CS (yin_hd G.hd) G.hd (iterU_ok G h _ iter g2) hE hT (fold_no g3) hi hl hf⟩
        · rw [if_neg nd]; exact ⟨je_bad, jas_bad⟩
    · rw [if_neg g]; exact ⟨je_bad, jas_bad⟩
  unfold coG
  split
  · exact core _ _ _ _ _ fun _ _ _ => jts_nil
  · exact core _ _ _ _ _ fun c X G' => jts_one ((hb c X G').2 _)
  · exact ⟨je_bad, jas_bad⟩
noncomputable def stepE (c : Ct) (sub : Ct → (Expr → GE) × (Expr → GT)) (f : Expr → GE) (t : Expr → GT) : Expr → GE
  | .Name x _ => cName c x
  | .Constant k _ _ => cConst k
  | .BinOp a o b _ => gBin (binO o) (f a) (f b)
  | .UnaryOp o a _ => unG f o a
  | .BoolOp .And es _ => andV f es
  | .BoolOp .Or es _ => orV f es
  | .Compare a os bs _ => cmpG f a os bs
  | .IfExp q a b _ => gIfE (t q) (f a) (f b)
  | .Tuple es _ _ => seqG f gTup es
  | .List es _ => seqG f gLst es
  | .Subscript a b _ => subD c f a b
  | .Dict [] [] _ => gNewK
  | .Dict ks vs _ => dispG f ks vs
  | .Call g as ks p => cCall c f p g as ks
  | .ListComp elt gens scope _ => coG c sub f elt scope gens
  | _ => gBad
def stepT (c : Ct) (f : Expr → GE) (t : Expr → GT) : Expr → GT
  | .UnaryOp .Not a _ => gNot (t a)
  | .BoolOp .And es _ => andT t es
  | .BoolOp .Or es _ => orT t es
  | .Compare a os bs _ => cmpT f a os bs
  | .Name x p => gTru (f (.Name x p))
  | .Call g as ks p => gTru (f (.Call g as ks p))
  | .Subscript a b p => gTru (f (.Subscript a b p))
  | .Constant k j p => gTru (f (.Constant k j p))
  | .BinOp a o b p => gTru (f (.BinOp a o b p))
  | _ => gBadT
theorem stepE_ok {c : Ct} {k : Nat} (G : Good c k X) {sub : Ct → (Expr → GE) × (Expr → GT)} (hb : ∀ k c X, Good c k X → (∀ e, JE X e ((sub c).1 e)) ∧ ∀ e, JT X e ((sub c).2 e)) {f : Expr → GE} {t : Expr → GT} (h : ∀ e, JE X e (f e)) (ht : ∀ e, JT X e (t e)) (e : Expr) : JE X e (stepE c sub f t e) := by
  have hu : X.A.units + 64 < cLine := G.un
  cases e with
  | Name x p => exact cName_ok G x p
  | Constant v j p => exact cConst_ok v j p
  | BinOp a o b p => exact je_bin (binO_ok o) (h a) (h b)
  | UnaryOp o a p =>
    cases o with
    | USub => exact je_neg (h a)
    | Not => exact je_not (h a)
    | _ => exact je_bad
  | BoolOp o es p =>
    cases o with
    | And => exact andV_ok h p es
    | Or => exact orV_ok h p es
  | Compare a os bs p => exact cmp_ok G.un h a os bs p
  | IfExp q a b p => exact je_if (ht q) (h a) (h b)
  | Tuple es j p =>
    show JE X _ (seqG f gTup es)
    unfold seqG
    by_cases g : es.all plain = true
    · rw [if_pos g]; exact je_tup (args_ok h es g)
    · rw [if_neg g]; exact je_bad
  | List es p =>
    show JE X _ (seqG f gLst es)
    unfold seqG
    by_cases g : es.all plain = true
    · rw [if_pos g]; exact je_lst (args_ok h es g)
    · rw [if_neg g]; exact je_bad
  | Subscript a b p => exact subD_ok G h a b p
  | Dict ks vs p =>
    cases ks with
    | cons k ks => exact disp_ok (by have := G.un; omega) h (k :: ks) vs p
    | nil =>
      cases vs with
      | nil => exact je_newK
      | cons v vs => exact disp_ok (by have := G.un; omega) h [] (v :: vs) p
  | Call g as ks p => exact cCall_ok G h g as ks p
  | ListComp elt gens scope p => exact (co_both G (hb k) h elt scope gens p).1
  | _ => exact je_bad
def isCo : Expr → Bool
  | .ListComp .. => true
  | .SetComp .. => true
  | .DictComp .. => true
  | .Set .. => true
  | _ => false
theorem swap_no {e : Expr} {t : Option Expr} {n : Nat} {env : Env} (h : isCo e = false) : swapsWith e t n env = pure false := by
  cases e <;> first | rfl | cases h
theorem stepE_as {c : Ct} {k : Nat} (G : Good c k X) {sub : Ct → (Expr → GE) × (Expr → GT)} (hb : ∀ k c X, Good c k X → (∀ e, JE X e ((sub c).1 e)) ∧ ∀ e, JT X e ((sub c).2 e)) {f : Expr → GE} {t : Expr → GT} (h : ∀ e, JE X e (f e)) (ht : ∀ e, JT X e (t e)) (e : Expr) : JAs X e (stepE c sub f t e) := by
  by_cases g : isCo e = false
  · exact fun i y py spos hN hi hl hf => js_set i hN (stepE_ok G hb h ht e) hi hl (swap_no g) hf
  · cases e with
    | ListComp elt gens scope p => exact (co_both G (hb k) h elt scope gens p).2
    | SetComp => exact jas_bad
    | DictComp => exact jas_bad
    | Set => exact jas_bad
    | _ => exact absurd rfl g
theorem stepT_ok {c : Ct} {k : Nat} (G : Good c k X) {f : Expr → GE} {t : Expr → GT} (h : ∀ e, JE X e (f e)) (ht : ∀ e, JT X e (t e)) (e : Expr) : JT X e (stepT c f t e) := by
  have hu : X.A.units + 64 < cLine := G.un
  cases e with
  | UnaryOp o a p =>
    cases o with
    | Not => exact jt_not (ht a)
    | _ => exact jt_bad
  | BoolOp o es p =>
    cases o with
    | And => exact (andT_ok ht p es).jt
    | Or => exact (orT_ok ht p es).jt
  | Compare a os bs p => exact cmpT_ok G.un h a os bs p
  | Name x p => exact jt_tru (h _) (fun _ => rfl)
  | Call g as ks p => exact jt_tru (h _) (fun _ => rfl)
  | Subscript a b p => exact jt_tru (h _) (fun _ => rfl)
  | Constant v j p => exact jt_tru (h _) (fun _ => rfl)
  | BinOp a o b p => exact jt_tru (h _) (fun _ => rfl)
  | _ => exact jt_bad
end
noncomputable def compE : Nat → Ct → (Expr → GE) × (Expr → GT)
  | 0, _ => (fun _ => gBad, fun _ => gBadT)
  | n + 1, c => (stepE c (compE n) (compE n c).1 (compE n c).2, stepT c (compE n c).1 (compE n c).2)
section
variable {X : Cx}
theorem compE_ok : ∀ (n : Nat) (k : Nat) (c : Ct) (X : Cx), Good c k X → (∀ e, JE X e ((compE n c).1 e)) ∧ ∀ e, JT X e ((compE n c).2 e)
  | 0, _, _, _, _ => ⟨fun _ => je_bad, fun _ => jt_bad⟩
  | n + 1, k, c, X, G => ⟨fun e => stepE_ok G (fun k c X G => compE_ok n k c X G) (compE_ok n k c X G).1 (compE_ok n k c X G).2 e, fun e => stepT_ok G (compE_ok n k c X G).1 (compE_ok n k c X G).2 e⟩
theorem compE_as {k : Nat} : ∀ (n : Nat) (c : Ct) (X : Cx), Good c k X → ∀ e, JAs X e ((compE n c).1 e)
  | 0, _, _, _, _ => jas_bad
  | n + 1, c, X, G, e => stepE_as G (fun k c X G => compE_ok n k c X G) (compE_ok n k c X G).1 (compE_ok n k c X G).2 e
def slot (c : Ct) (x : Str) : Option Nat := if c.names.lookup x = some .local ∨ (c.names.lookup x = some .cell ∧ c.top = true) then ixOf x c.N else none
def slotL (c : Ct) (x : Str) : Option Nat := if c.names.lookup x = some .local then ixOf x c.N else none
theorem slotL_ok {c : Ct} {k : Nat} (G : Good c k X) {x : Str} {i : Nat} (h : slotL c x = some i) : X.N[i]? = some x ∧ X.env.scope.names.lookup x = some .local := by
  unfold slotL at h
  by_cases e : c.names.lookup x = some .local
  · rw [if_pos e] at h
    exact ⟨by rw [G.N]; exact ixOf_get h, by rw [G.sc]; exact e⟩
  · rw [if_neg e] at h; cases h
theorem slot_ok {c : Ct} {k : Nat} (G : Good c k X) {x : Str} {i : Nat} (h : slot c x = some i) : X.N[i]? = some x ∧ (Loc X.env.scope x ∧ (X.fn x = true ∨ X.env.scope.names.lookup x = some .local)) := by
  unfold slot at h
  by_cases e : c.names.lookup x = some .local ∨ (c.names.lookup x = some .cell ∧ c.top = true)
  · rw [if_pos e] at h
    refine ⟨by rw [G.N]; exact ixOf_get h, ?_⟩
    rcases e with e | ⟨e, e2⟩
    · have q : X.env.scope.names.lookup x = some .local := by rw [G.sc]; exact e
      exact ⟨.inl q, .inr q⟩
    · have q : X.env.scope.names.lookup x = some .cell := by rw [G.sc]; exact e
      exact ⟨.inr q, .inl (G.fn e2 x)⟩
  · rw [if_neg e] at h; cases h
def slots (c : Ct) : List Expr → Option (List Nat)
  | [] => some []
  | .Name x _ :: es => (match slot c x, slots c es with | some i, some is => some (i :: is) | _, _ => none)
  | _ => none
theorem slots_ok {c : Ct} {k : Nat} (G : Good c k X) : ∀ {es : List Expr} {is : List Nat}, slots c es = some is → Slots X es is
  | [], is, h => by cases h; exact .nil
  | e :: es, is, h => by
    cases e with
    | Name x p =>
      have h : (match slot c x, slots c es with | some i, some is => some (i :: is) | _, _ => none) = some is := h
      cases e1 : slot c x with
      | none => rw [e1] at h; cases h
      | some i =>
        cases e2 : slots c es with
        | none => rw [e1, e2] at h; cases h
        | some js =>
          rw [e1, e2] at h
          cases h
          obtain ⟨q1, q2⟩ := slot_ok G e1
          exact .cons q1 q2 (slots_ok G e2)
    | _ => cases h
def isTp : Expr → Bool
  | .Tuple .. => true
  | _ => false
def tpOk (es : List Expr) (v : Expr) : Bool := !isTp v || decide (4 ≤ es.length)
def isE0 : Expr → Bool
  | .Dict [] [] _ => true
  | _ => false
theorem swap_none {es : List Expr} {k : Nat} {p : Pos} {v : Expr} (h : tpOk es v = true) : swappedStores [.Tuple es k p] v X.env = pure none := by
  cases v with
  | Tuple vs k2 p2 =>
    have h4 : 4 ≤ es.length := by simpa [tpOk, isTp] using h
    unfold swappedStores
    have : (!(es.length == 2 || es.length == 3) || vs.length != es.length || X.env.blockKind != .function) = true := by
      have h2 : (es.length == 2) = false := by simp; omega
      have h3 : (es.length == 3) = false := by simp; omega
      rw [h2, h3]; rfl
    dsimp only
    rw [if_pos this]
  | _ => rfl
def asgG (c : Ct) (f : Expr → GE) (v : Expr) : List Expr → GS
  | [.Name x _] => (match slot c x with | some i => if isE0 v = true ∧ c.dts.contains x = true then gSet i gNewT else gSet i (f v) | none => gNever)
  | [.Subscript o i _] => if isCo v = false ∧ isSl i = false then (if isDn c o = true then gDPut (f v) (f o) (f i) else gSetI (f v) (f o) (f i)) else gNever
  | [.Tuple es _ _] => if isCo v = false ∧ tpOk es v = true ∧ c.free = true then (match slots c es with | some is => gSetT is (f v) | none => gNever) else gNever
  | _ => gNever
theorem asg_ok {c : Ct} {k : Nat} (G : Good c k X) {f : Expr → GE} (h : ∀ e, JE X e (f e)) (ha : ∀ e, JAs X e (f e)) (v : Expr) (ts : List Expr) (pos : Pos) : JS X (.Assign ts v pos) (asgG c f v ts) := by
  unfold asgG
  split
  · rename_i x p
    cases e : slot c x with
    | none => exact js_never
    | some i =>
      obtain ⟨e1, e2⟩ := slot_ok G e
      dsimp only
      by_cases g : isE0 v = true ∧ c.dts.contains x = true
      · rw [if_pos g]
        have gv := g.1
        unfold isE0 at gv
        split at gv
        · exact js_set i (by rw [G.N]; exact G.nd) je_newT e1 e2.1 rfl e2.2
        · cases gv
      · rw [if_neg g]; exact ha v i x _ _ (by rw [G.N]; exact G.nd) e1 e2.1 e2.2
  · rename_i o i p
    by_cases g : isCo v = false ∧ isSl i = false
    · rw [if_pos g]
      have g2 := g.2
      by_cases gd : isDn c o = true
      · rw [if_pos gd]; exact js_dput (by have := G.un; omega) (h v) (h o) (h i) (swap_no g.1)
      rw [if_neg gd]
      refine js_setI (h v) (h o) (h i) (by unfold swapsWithSole; exact swap_no g.1) ?_ rfl ?_
      · cases v <;> rfl
      · intro _
        cases i <;> first | rfl | cases g2
    · rw [if_neg g]; exact js_never
  · rename_i es kk p
    by_cases g : isCo v = false ∧ tpOk es v = true ∧ c.free = true
    · rw [if_pos g]
      cases e1 : slots c es with
      | none => exact js_never
      | some is =>
        have g2 := g.2.1
        refine js_setT (by rw [G.N]; exact G.nd) (G.free g.2.2).2 (slots_ok G e1) (h v) (swap_no g.1) ?_
        exact swap_none g2
    · rw [if_neg g]; exact js_never
  · exact js_never
noncomputable def forG (c : Ct) (f : Expr → GE) (i : Nat) (gb : GS) : Expr → GS
  | .Call (.Name x p) [a] [] q => if isRange c x = true then (if plain a = true then gForR1 i (argsG f [a]) gb else gNever) else gFor i (f (.Call (.Name x p) [a] [] q)) gb
  | .Call (.Name x p) [a, b] [] q => if isRange c x = true then (if plain a = true ∧ plain b = true then gForR2 i (argsG f [a, b]) gb else gNever) else gFor i (f (.Call (.Name x p) [a, b] [] q)) gb
  | e => if isSet e = false then gFor i (f e) gb else gNever
theorem for_ok {c : Ct} {k : Nat} (G : Good c k X) (hl : c.loop = true) {f : Expr → GE} (h : ∀ e, JE X e (f e)) {x : Str} {i : Nat} (hx : slot c x = some i) {body : List Stmt} {gb : GS} (hb : JSs X body gb) (e : Expr) (pos pos' : Pos) : JS X (.For (.Name x pos') e body [] pos) (forG c f i gb e) := by
  have nd : X.N.Nodup := by rw [G.N]; exact G.nd
  obtain ⟨e1, e2⟩ := slot_ok G hx
  have rg := range_ok G
  unfold forG
  split
  · rename_i y p a q
    by_cases g : isRange c y = true
    · rw [if_pos g]
      obtain ⟨rfl, g2, g3⟩ := rg y g
      by_cases ga : plain a = true
      · rw [if_pos ga]
        exact js_forR1 i nd (G.loop hl).2 (G.loop hl).1 g2 g3 (args_ok h [a] (by simp [ga])) hb e1 e2.1 e2.2 (star_plain ga)
      · rw [if_neg ga]; exact js_never
    · rw [if_neg g]; exact js_for i nd (G.loop hl).2 (G.loop hl).1 (h _) hb e1 e2.1 e2.2 (fold_no rfl)
  · rename_i y p a b q
    by_cases g : isRange c y = true
    · rw [if_pos g]
      obtain ⟨rfl, g2, g3⟩ := rg y g
      by_cases ga : plain a = true ∧ plain b = true
      · rw [if_pos ga]
        exact js_forR2 i nd (G.loop hl).2 (G.loop hl).1 g2 g3 (args_ok h [a, b] (by simp [ga])) hb e1 e2.1 e2.2 (by rw [star_plain ga.1, star_plain ga.2]; rfl) (by rw [star_plain ga.2]; rfl)
      · rw [if_neg ga]; exact js_never
    · rw [if_neg g]; exact js_for i nd (G.loop hl).2 (G.loop hl).1 (h _) hb e1 e2.1 e2.2 (fold_no rfl)
  · by_cases g : isSet e = false
    · rw [if_pos g]; exact js_for i nd (G.loop hl).2 (G.loop hl).1 (h _) hb e1 e2.1 e2.2 (fold_no g)
    · rw [if_neg g]; exact js_never
def raiseG (c : Ct) (f : Expr → GE) : Expr → GS
  | .Call (.Name x _) (e :: es) [] _ => if okN x = true ∧ (e :: es).all plain = true ∧ c.names.lookup x = some .globalImplicit ∧ c.clss.contains x = true ∧ c.free = true then gRaise x (argsG f (e :: es)) else gNever
  | _ => gNever
theorem raise_ok {c : Ct} {k : Nat} (G : Good c k X) {f : Expr → GE} (h : ∀ e, JE X e (f e)) (e : Expr) (pos : Pos) : JS X (.Raise (some e) none pos) (raiseG c f e) := by
  unfold raiseG
  split
  · rename_i x p e es q
    by_cases g : okN x = true ∧ (e :: es).all plain = true ∧ c.names.lookup x = some .globalImplicit ∧ c.clss.contains x = true ∧ c.free = true
    · rw [if_pos g]
      obtain ⟨g1, g2, g3, g4, g5⟩ := g
      have hg : Gl X x := by
        show X.env.scope.names.lookup x = _
        rw [G.sc]; exact g3
      have gp : plain e = true ∧ es.all plain = true := by rw [List.all_cons, Bool.and_eq_true] at g2; exact g2
      obtain ⟨C, q1, q2⟩ := G.cls x g4
      exact js_raise (G.free g5).2 q2 hg q1 (args_ok h (e :: es) g2) (okN_d g1) (star_plain gp.1) (any_plain gp.2)
    · rw [if_neg g]; exact js_never
  · exact js_never
def tryG (c : Ct) (b : Ct → List Stmt → GS) (body : List Stmt) : List ExceptHandler → GS
  | [.ExceptHandler (some (.Name x _)) (some n) (b0 :: suite) _] => if okN x = true ∧ c.names.lookup x = some .globalImplicit ∧ c.clss.contains x = true ∧ c.free = true ∧ c.top = true then
      (match slotL c n with
      | some i => gTry (fun y => c.tc.lookup (y, x)) i (b c.inTry body) (b c.inSuite (b0 :: suite))
      | none => gNever) else gNever
  | [.ExceptHandler (some (.Name x _)) none (b0 :: suite) _] => if okN x = true ∧ c.names.lookup x = some .globalImplicit ∧ c.clss.contains x = true ∧ c.free = true ∧ c.top = true then
      gTryN (fun y => c.tc.lookup (y, x)) (b c.inTry body) (b c.inSuite (b0 :: suite)) else gNever
  | _ => gNever
theorem try_ok {c : Ct} {k : Nat} (G : Good c k X) {b : Ct → List Stmt → GS} (hb : ∀ c X, Good c k X → ∀ s, JSs X s (b c s)) (body : List Stmt) (hs : List ExceptHandler) (pos : Pos) : JS X (.Try body hs [] [] pos) (tryG c b body hs) := by
  unfold tryG
  split
  · rename_i x p n b0 suite q
    by_cases g : okN x = true ∧ c.names.lookup x = some .globalImplicit ∧ c.clss.contains x = true ∧ c.free = true ∧ c.top = true
    · rw [if_pos g]
      obtain ⟨g1, g3, g4, g5, g6⟩ := g
      have hg : Gl X x := by
        show X.env.scope.names.lookup x = _
        rw [G.sc]; exact g3
      obtain ⟨D, q1, q2⟩ := G.cls x g4
      cases e1 : slotL c n with
      | none => exact js_never
      | some i =>
        obtain ⟨e2, e3⟩ := slotL_ok G e1
        exact js_try (G.stk g6) (by rw [G.N]; exact G.nd) e2 e3 (G.free g5).2 G.tab hg q1 q2.cls (okN_d g1) (fun pn E => hb _ _ (G.body g5 pn E) _) fun a o u pn E nx => hb _ _ (G.suite nx pn E) _
    · rw [if_neg g]; exact js_never
  · rename_i x p b0 suite q
    by_cases g : okN x = true ∧ c.names.lookup x = some .globalImplicit ∧ c.clss.contains x = true ∧ c.free = true ∧ c.top = true
    · rw [if_pos g]
      obtain ⟨g1, g3, g4, g5, g6⟩ := g
      have hg : Gl X x := by
        show X.env.scope.names.lookup x = _
        rw [G.sc]; exact g3
      obtain ⟨D, q1, q2⟩ := G.cls x g4
      exact js_tryN (G.stk g6) (G.free g5).2 G.tab hg q1 q2.cls (okN_d g1) (fun pn E => hb _ _ (G.body g5 pn E) _) fun a o u pn E nx => hb _ _ (G.suite nx pn E) _
    · rw [if_neg g]; exact js_never
  · exact js_never
def wTurns : Nat := 100000
noncomputable def stepS (c : Ct) (f : Expr → GE) (t : Expr → GT) (b : Ct → List Stmt → GS) : Stmt → GS
  | .Return (some e) _ => gRet (f e)
  | .Return none _ => gRet (gC .non)
  | .Expr e _ => if isCo e = false then gExpr (f e) else gNever
  | .If q x y _ => gIf (t q) (b c x) (b c y)
  | .Assign ts v _ => asgG c f v ts
  | .For (.Name x _) e body [] _ => if c.loop = true then (match slot c x with | some i => forG c f i (b c body) e | none => gNever) else gNever
  | .For (.Tuple es _ _) e body [] _ => if c.loop = true ∧ isSet e = false then (match slots c es with | some is => (if isEnC c e = true then gForG is (iterG2 c f e) (b c body) else gForB is (f e) (b c body)) | none => gNever) else gNever
  | .While q body [] _ => if c.loop = true then gWhile wTurns (t q) (b c body) else gNever
  | .Raise (some e) none _ => raiseG c f e
  | .Try body hs [] [] _ => tryG c b body hs
  | .Pass _ => gNext
  | _ => gNever
theorem stepS_ok {c : Ct} {k : Nat} (G : Good c k X) {f : Expr → GE} {t : Expr → GT} {b : Ct → List Stmt → GS} (h : ∀ e, JE X e (f e)) (ha : ∀ e, JAs X e (f e)) (ht : ∀ e, JT X e (t e)) (hb : ∀ c X, Good c k X → ∀ s, JSs X s (b c s)) (s : Stmt) : JS X s (stepS c f t b s) := by
  unfold stepS
  split
  · exact js_ret (h _)
  · exact js_retN
  · rename_i e p
    by_cases g : isCo e = false
    · rw [if_pos g]; exact js_expr (h _) (swap_no g)
    · rw [if_neg g]; exact js_never
  · exact js_if (ht _) (hb c X G _) (hb c X G _)
  · exact asg_ok G h ha _ _ _
  · rename_i x p e body q
    by_cases g : c.loop = true
    · rw [if_pos g]
      cases e1 : slot c x with
      | none => exact js_never
      | some i => exact for_ok G g h e1 (hb c X G body) e _ _
    · rw [if_neg g]; exact js_never
  · rename_i es kk p e body q
    by_cases g : c.loop = true ∧ isSet e = false
    · rw [if_pos g]
      cases e1 : slots c es with
      | none => exact js_never
      | some is =>
        dsimp only
        by_cases ge : isEnC c e = true
        · rw [if_pos ge]; exact js_forG (by rw [G.N]; exact G.nd) (G.loop g.1).2 (G.loop g.1).1 (slots_ok G e1) (iter2_ok G h es kk p e) (hb c X G body) (fold_no g.2)
        · rw [if_neg ge]; exact js_forB (by rw [G.N]; exact G.nd) (G.loop g.1).2 (G.loop g.1).1 (slots_ok G e1) (h e) (hb c X G body) (fold_no g.2)
    · rw [if_neg g]; exact js_never
  · rename_i q body p
    by_cases g : c.loop = true
    · rw [if_pos g]; exact js_while wTurns (G.loop g).2 (ht _) (hb c X G body)
    · rw [if_neg g]; exact js_never
  · exact raise_ok G h _ _
  · exact try_ok G hb _ _ _
  · exact js_pass
  · exact js_never
end
def stmtsG (f : Stmt → GS) : List Stmt → GS
  | [] => gNext
  | [s] => f s
  | s :: s' :: r => gSeq (f s) (stmtsG f (s' :: r))
theorem stmts_ok {X : Cx} {f : Stmt → GS} (h : ∀ s, JS X s (f s)) : ∀ ss, JSs X ss (stmtsG f ss)
  | [] => jss_nil
  | [s] => jss_one (h s)
  | s :: s' :: r => jss_cons (h s) (stmts_ok h (s' :: r))
noncomputable def compS : Nat → Ct → List Stmt → GS
  | 0, _ => fun _ => gNever
  | n + 1, c => stmtsG (stepS c (compE 40 c).1 (compE 40 c).2 (compS n))
theorem compS_ok {k : Nat} : ∀ (n : Nat) (c : Ct) (X : Cx), Good c k X → ∀ ss : List Stmt, JSs X ss (compS n c ss)
  | 0, _, _, _, _ => jss_never
  | n + 1, c, X, G, ss => stmts_ok (fun s => stepS_ok G (compE_ok 40 k c X G).1 (compE_as 40 c X G) (compE_ok 40 k c X G).2 (compS_ok n) s) ss
structure LamK (K : PySem.W.Frag) (mg : Str → Option Value) (q : Str) (P : Addr) : Prop where
  tab : tabFree K q = some P
  code : ∃ c o vs file tf flags tg inF text tt, PySem.W.tabIn K q = some (c, P) ∧ K.lookup c = some o ∧ o.cls = .type "code" ∧ o.data = .fields vs ∧ vs[11]? = some (.ref P) ∧ vs.getD 11 .none = .ref P ∧ vs.getD 18 .none = .str file tf ∧
    vs.getD 7 .none = .int flags tg ∧ vs.getD 9 .none = .bool inF ∧ vs.getD 10 .none = .int text tt ∧ c ≠ P
  mem : q ∈ lamDefs
  uniq : ∀ q', q' ∈ lamDefs → tabFree K q' = some P → q' = q
theorem LamK.at' {X : Cx} {q : Str} {P f : Addr} {cdv : Value} (h : LamK X.K X.mg q P) (M : ModB X.K X.mg X.base) (hn : PySem.W.nsIn X.K mainGlobals q = some (some (.ref f))) (hc : CodeOf X.K f cdv) (e1 : X.env.code = cdv) (e2 : X.env.qual = q ++ ".<locals>.") : LamAt X q P := by
  obtain ⟨c, o, vs, file, tf, flags, tg, inF, text, tt, t, l, r⟩ := h.code
  refine ⟨⟨c, ?_, o, vs, file, tf, flags, tg, inF, text, tt, M.1.kin _ _ l, r⟩, e2, h.tab, h.mem, h.uniq, M.2⟩
  · obtain ⟨of, lf, fd, d, cd⟩ := hc
    rw [e1, ← cd]
    unfold PySem.W.tabIn at t
    rw [hn] at t
    dsimp only at t
    rw [lf] at t
    obtain ⟨oc, od, da, sl⟩ := of
    dsimp only at d
    subst d
    dsimp only at t
    cases q1 : fd.code with
    | ref c2 =>
      rw [q1] at t
      dsimp only at t
      split at t
      · split at t
        · cases t; rfl
        · cases t
      · cases t
    | _ => rw [q1] at t; cases t
structure TopX (c : Ct) (k : Nat) (P : Program) (w : World) (K : PySem.W.Frag) (mg : Str → Option Value) (base : Heap) : Prop where
  lam : ∀ p L, c.lam = some (p, L) → HasL P w K mg base k p 3 L
  fnL : ∀ x F, c.fnL.lookup x = some F → FnL P w K mg k c.lj x F
  fnJ : ∀ x n F, c.fns.lookup x = some (n, F) → c.lfn.contains x = true → ∀ base, ModB K mg base → Has P w K mg base c.lj x n F
  at' : c.self ∈ lamDefs → ∃ P, LamK K mg c.self P
theorem TopX.no {c : Ct} {k : Nat} {P : Program} {w : World} {K : PySem.W.Frag} {mg : Str → Option Value} {base : Heap} (h1 : c.lam = none) (h2 : c.fnL = []) (h3 : c.lfn = []) (h4 : c.self = "") : TopX c k P w K mg base :=
  ⟨(fun p L e => by rw [h1] at e; cases e), (fun x F e => by rw [h2] at e; cases e), (fun x n F _ e => by rw [h3] at e; cases e), (fun e => by rw [h4] at e; exact absurd e (by decide))⟩
structure TopOk (c : Ct) (k : Nat) (P : Program) (w : World) (K : PySem.W.Frag) (mg : Str → Option Value) (base : Heap) : Prop where
  cst : ∀ x w, c.consts.lookup x = some w → CstOk K mg x w
  bl : ∀ x, c.bl.contains x = true → mg x = none
  fns : ∀ x n F, c.fns.lookup x = some (n, F) → Has P w K mg base k x n F
  tab : TabOk K c.tb c.tt c.tc
  cls : ∀ x, c.clss.contains x = true → ∃ C, mg x = some (.ref C) ∧ ExcC K x C
  cln : ∀ x, c.cln.contains x = true → ∃ C, mg x = some (.ref C) ∧ ClsAt K x C
  dcs : ∀ x kvs, c.dcs.lookup x = some kvs → DcAt K w mg x kvs
  fnu : ∀ x n F, c.fnu.contains x = true → c.fns.lookup x = some (n, F) → HasU P w K mg base k x n F
  x : TopX c k P w K mg base
theorem has_def {P : Program} {w : World} {K : PySem.W.Frag} {mg : Str → Option Value} {base : Heap} {h : Heap} {k : Nat} {c : Ct} {x : Str} {st : Stmt} {ps : List Str} {g : GS} (KX : K.In h) (NS : h.Ns mainGlobals mg) (D : DefAt K x st) (T : TopOk c k P w K mg base)
    (S : FnScope c.N ps (defScope st)) (hn : (defScope st).names = c.names) (hg : compS 30 c (defBody st) = g)
    (hb : ∀ (kV doc pm : Value) (an : Option Addr) (cdv ct : Value) (us : List Value), us.length = ps.length → bindArgs (PySem.W.fnOf x x (defArgs st) (defBody st) (defScope st) .none kV doc pm an cdv ct) ⟨us, []⟩ = pure (ps.zip us)) (hM : c.self ∈ lamDefs → ModB K mg base ∧ c.self = x := by exact fun z => absurd (show ("" : Str) ∈ lamDefs from z) (by decide)) :
    Has P w K mg base (k + 1) x ps.length (fnF c.N.length g) := by
  obtain ⟨f, fd, a, F⟩ := D
  refine ⟨f, fd, ps, ?_, PySem.W.mg_of KX NS a, F.kp, F.binds hb⟩
  subst hg
  refine fn_ok F S fun cdv hcdv A outer s H E hr => ?_
  refine compS_ok (k := k) 30 c _ ⟨rfl, hn, S.nd, room_un hr, fun _ => ⟨hr, rfl⟩, fun _ => ⟨rfl, PassesOwn.leaving⟩, T.cst, T.bl, T.fns, fun _ => ⟨rfl, rfl, rfl⟩, fun _ _ => rfl, S.kind, T.tab, T.cls, T.cln, T.dcs, RoomU.of hr, T.fnu, ⟨T.x.lam, T.x.fnL, T.x.fnJ, fun _ z => ?_⟩, ⟨_, _, _, rfl, rfl, rfl⟩, .inl hr.hd⟩ _
  obtain ⟨P', L⟩ := T.x.at' z
  obtain ⟨M, e⟩ := hM z
  exact ⟨P', LamK.at' L M (by rw [e]; exact a) hcdv rfl (by rw [e]; rfl)⟩
theorem has_defU {P : Program} {w : World} {K : PySem.W.Frag} {mg : Str → Option Value} {base : Heap} {h : Heap} {k : Nat} {c : Ct} {x : Str} {st : Stmt} {ps : List Str} {g : GS} (KX : K.In h) (NS : h.Ns mainGlobals mg) (D : DefAt K x st) (T : TopOk c k P w K mg base)
    (S : FnScope c.N ps (defScope st)) (hn : (defScope st).names = c.names) (hg : compS 30 c.un (defBody st) = g)
    (hb : ∀ (kV doc pm : Value) (an : Option Addr) (cdv ct : Value) (us : List Value), us.length = ps.length → bindArgs (PySem.W.fnOf x x (defArgs st) (defBody st) (defScope st) .none kV doc pm an cdv ct) ⟨us, []⟩ = pure (ps.zip us)) (hs : c.self ∉ lamDefs := by exact (show ("" : Str) ∉ lamDefs by decide)) :
    HasU P w K mg base (k + 1) x ps.length (fnF c.N.length g) := by
  obtain ⟨f, fd, a, F⟩ := D
  refine ⟨f, fd, ps, ?_, PySem.W.mg_of KX NS a, F.kp, F.binds hb⟩
  subst hg
  refine fn_U F S fun cdv A outer s H E hr hz => ?_
  exact compS_ok (k := k) 30 c.un (cxU P w K mg base c.N x (defScope st) f cdv A outer s H E) ⟨rfl, hn, S.nd, hr.u64, (fun z => by cases z), (fun z => by cases z), T.cst, T.bl, T.fns, fun _ => ⟨rfl, rfl, rfl⟩, fun _ _ => rfl, S.kind, T.tab, T.cls, T.cln, T.dcs, hr, T.fnu, ⟨T.x.lam, T.x.fnL, T.x.fnJ, fun _ z => absurd z hs⟩, ⟨_, _, _, rfl, rfl, rfl⟩, hz⟩ _
theorem law_has {P : Program} {w : World} {K : PySem.W.Frag} {mg : Str → Option Value} {h : Heap} {k : Nat} {F : List Wv → Hs → Re Wv} {fa : Addr} {st : Stmt} (KX : K.In h) (NS : h.Ns mainGlobals mg) (hmg : mg "law" = some (.ref fa)) (D : DefAt K "law" st)
    (hp : ∀ (kV doc pm : Value) (an : Option Addr) (cdv ct : Value) (s : Shared) (u : Value), BindsTo s (PySem.W.fnOf "law" "law" (defArgs st) (defBody st) (defScope st) .none kV doc pm an cdv ct) ⟨[u], []⟩ [("script", u)])
    (FN : ∀ (f : Addr) (fd : FuncData), Fun K "law" "law" st f fd → ∀ base : Heap, K.In base → base.Ns mainGlobals mg → FnOk P w K mg base (CXJ P w) k f fd ["script"] (spW K 1 F)) :
    ∃ fd : FuncData, (∀ (s : Shared) (u : Value), BindsTo s fd ⟨[u], []⟩ [("script", u)]) ∧ ∀ base : Heap, K.In base → base.Ns mainGlobals mg → FnOk P w K mg base (CXJ P w) k fa fd ["script"] (spW K 1 F) := by
  obtain ⟨f, fd, a, Fu⟩ := D
  have e := hmg.symm.trans (PySem.W.mg_of KX NS a)
  cases e
  refine ⟨fd, fun s u => ?_, FN fa fd Fu⟩
  obtain ⟨oc, od, kV, doc, pm, an, cdv, ct, osl, rfl, lk, hcd⟩ := Fu.ex
  exact hp kV doc pm an cdv ct s u
theorem fn_def {P : Program} {w : World} {K : PySem.W.Frag} {mg : Str → Option Value} {base : Heap} {k : Nat} {c : Ct} {x : Str} {st : Stmt} {ps : List Str} {g : GS} {f : Addr} {fd : FuncData} (F : Fun K x x st f fd) (T : TopOk c k P w K mg base)
    (S : FnScope c.N ps (defScope st)) (hn : (defScope st).names = c.names) (hg : compS 30 c (defBody st) = g) (hs : c.self ∉ lamDefs := by exact (show ("" : Str) ∉ lamDefs by decide)) : FnOk P w K mg base (CXJ P w) (k + 1) f fd ps (spW K ps.length (fnF c.N.length g)) := by
  subst hg
  refine fn_ok F S fun cdv _ A outer s H E hr => ?_
  exact compS_ok (k := k) 30 c _ ⟨rfl, hn, S.nd, room_un hr, fun _ => ⟨hr, rfl⟩, fun _ => ⟨rfl, PassesOwn.leaving⟩, T.cst, T.bl, T.fns, fun _ => ⟨rfl, rfl, rfl⟩, fun _ _ => rfl, S.kind, T.tab, T.cls, T.cln, T.dcs, RoomU.of hr, T.fnu, ⟨T.x.lam, T.x.fnL, T.x.fnJ, fun _ z => absurd z hs⟩, ⟨_, _, _, rfl, rfl, rfl⟩, .inl hr.hd⟩ _
end J
namespace J
open PySem PySem.Spec PyProof.Rows L2
def AllP {α : Type} (P : α → Prop) : List α → Prop
  | [] => True
  | a :: l => P a ∧ AllP P l
theorem AllP.look {κ β : Type} [BEq κ] [LawfulBEq κ] {P : κ × β → Prop} : ∀ {l : List (κ × β)} {x : κ} {b : β}, AllP P l → l.lookup x = some b → P (x, b)
  | [], _, _, _, h => by cases h
  | (y, c) :: l, x, b, a, h => by
    rw [List.lookup_cons] at h
    cases e : x == y with
    | true =>
      rw [e] at h
      cases h
      have e' := eq_of_beq e
      subst e'
      exact a.1
    | false => rw [e] at h; exact AllP.look a.2 h
theorem AllP.mem {P : Str → Prop} : ∀ {l : List Str} {x : Str}, AllP P l → l.contains x = true → P x
  | [], _, _, h => by cases h
  | y :: l, x, a, h => by
    rw [List.contains_cons, Bool.or_eq_true] at h
    rcases h with e | h
    · have e' := eq_of_beq e
      subst e'
      exact a.1
    · exact AllP.mem a.2 h
theorem cls_one {K : PySem.W.Frag} {c : PySem.Str} {C D : Addr} (h : ClsAt K c C) (k : ClsAt K c D) : C = D := by
  unfold ClsAt at h k
  rw [h] at k
  cases k
  rfl
theorem tab_mk {K : PySem.W.Frag} {tb : Tab} {tt : TabT} {tc : Tab} (h : AllP (fun p => ∃ C D, ClsAt K p.1.1 C ∧ ClsAt K p.1.2 D ∧ ExcK K C ∧ PySem.W.kitOne K (.ref C) (.ref D) = some p.2) tb)
    (g : AllP (fun p => ∃ C, ClsAt K p.1.1 C ∧ ExcK K C ∧ PySem.W.kitOne K (.ref C) (.type p.1.2) = some p.2) tt)
    (f : AllP (fun p => ∃ C D, ClsAt K p.1.1 C ∧ ClsAt K p.1.2 D ∧ PySem.W.excIn K C bmV nwV = true ∧ PySem.W.excIn K D bmV nwV = true ∧ PySem.W.mroIn K C (.ref D) = some p.2) tc) : TabOk K tb tt tc :=
  ⟨fun c d b C D e hC hD => by
    obtain ⟨C', D', q1, q2, r⟩ := AllP.look h e
    cases cls_one hC q1
    cases cls_one hD q2
    exact r, fun c d b C D e hC hD => by
    obtain ⟨C', D', q1, q2, r⟩ := AllP.look f e
    cases cls_one hC q1
    cases cls_one hD q2
    exact r, fun c T b C e hC => by
    obtain ⟨C', q1, r⟩ := AllP.look g e
    cases cls_one hC q1
    exact r⟩
theorem topOk_mk {c : Ct} {k : Nat} {P : Program} {w : World} {K : PySem.W.Frag} {mg : Str → Option Value} {base : Heap} (hc : AllP (fun p => CstOk K mg p.1 p.2) c.consts) (hb : AllP (fun x => mg x = none) c.bl) (hf : AllP (fun p => Has P w K mg base k p.1 p.2.1 p.2.2) c.fns)
    (ht : TabOk K c.tb c.tt c.tc) (hk : AllP (fun x => ∃ C, mg x = some (.ref C) ∧ ExcC K x C) c.clss) (hn : AllP (fun x => ∃ C, mg x = some (.ref C) ∧ ClsAt K x C) c.cln) (hd : AllP (fun p => DcAt K w mg p.1 p.2) c.dcs)
    (hu : AllP (fun x => ∀ n F, c.fns.lookup x = some (n, F) → HasU P w K mg base k x n F) c.fnu := by exact trivial) (hx : TopX c k P w K mg base := by exact TopX.no rfl rfl rfl rfl) : TopOk c k P w K mg base :=
  ⟨fun _ _ h => hc.look h, fun _ h => hb.mem h, fun x n F h => hf.look (b := (n, F)) h, ht, fun _ h => hk.mem h, fun _ h => hn.mem h, fun x kvs h => hd.look (b := kvs) h, fun x n F h k => hu.mem h n F k, hx⟩
end J
namespace J
open PySem PySem.Spec PyProof.Rows L2
theorem HasL.mono {P : Program} {w : World} {K : PySem.W.Frag} {mg : Str → Option Value} {base : Heap} {j k : Nat} {p : Lm} {n : Nat} {L : LF} (h : HasL P w K mg base j p n L) (l : j ≤ k) : HasL P w K mg base k p n L := by
  obtain ⟨fd, ps, ob, G, r⟩ := h
  exact ⟨fd, ps, ob, G.mono l, r⟩
end J
namespace J
open PySem PySem.Spec PyProof.Rows L2
def Rs.sq (r : Rs) (h : GS) : Rs := match r with
  | .nx ρ st => h ρ st
  | r => r
section
variable {α β : Type} {ρ ρ' : Rho} {st : Hs} {h g ga' gb' : GS} {ga gb gc : GE} {gt gu : GT} {w : Wv} {c : PySem.Str} {f : α → Hs → Re β} {k : α → Hs → Rs} {a : α} {i : Nat}
@[simp] theorem sq_nx : (Rs.nx ρ st).sq h = h ρ st := rfl
@[simp] theorem sq_rt : (Rs.rt w st).sq h = .rt w st := rfl
@[simp] theorem sq_bk : (Rs.bk ρ st).sq h = .bk ρ st := rfl
@[simp] theorem sq_ct : (Rs.ct ρ st).sq h = .ct ρ st := rfl
@[simp] theorem sq_err : (Rs.err c ρ st).sq h = .err c ρ st := rfl
@[simp] theorem sq_bad : Rs.bad.sq h = .bad := rfl
@[simp] theorem bind_ok : (Re.ok a st).bind f = f a st := rfl
@[simp] theorem bind_err : (Re.err c st).bind f = .err c st := rfl
@[simp] theorem bind_bad : (Re.bad : Re α).bind f = .bad := rfl
@[simp] theorem thn_ok : (Re.ok a st).thn ρ k = k a st := rfl
@[simp] theorem thn_err : (Re.err c st : Re α).thn ρ k = .err c ρ st := rfl
@[simp] theorem nox_ok : (Re.ok a st).nox = .ok a st := rfl
@[simp] theorem nox_bad : (Re.bad : Re α).nox = .bad := rfl
@[simp] theorem thn_bad : (Re.bad : Re α).thn ρ k = .bad := rfl
@[simp] theorem e_seq : gSeq g h ρ st = (g ρ st).sq h := by unfold gSeq Rs.sq; cases g ρ st <;> rfl
@[simp] theorem e_next : gNext ρ st = .nx ρ st := rfl
@[simp] theorem e_ret : gRet ga ρ st = (ga ρ st).thn ρ fun w st' => .rt w st' := rfl
@[simp] theorem e_expr : gExpr ga ρ st = (ga ρ st).thn ρ fun _ st' => .nx ρ st' := rfl
@[simp] theorem e_set : gSet i ga ρ st = (ga ρ st).thn ρ fun w st' => .nx (ρ.set i (some w)) st' := rfl
def kIf (ga gb : GS) (ρ : Rho) : Bool → Hs → Rs := fun b st' => if b = true then ga ρ st' else gb ρ st'
@[simp] theorem kIf_t : kIf g h ρ true st = g ρ st := rfl
@[simp] theorem kIf_f : kIf g h ρ false st = h ρ st := rfl
@[simp] theorem e_if : gIf gt g h ρ st = (gt ρ st).thn ρ (kIf g h ρ) := rfl
def rdV (o : Option (Option Wv)) (st : Hs) : Re Wv := match o with
  | some (some w) => .ok w st
  | _ => .bad
@[simp] theorem rdV_s : rdV (some (some w)) st = .ok w st := rfl
@[simp] theorem e_var : gVar i ρ st = rdV ρ[i]? st := rfl
@[simp] theorem e_c : gC w ρ st = .ok w st := rfl
def kB (op : Op2) (gb : GE) (ρ : Rho) : Wv → Hs → Re Wv := fun x st1 => (gb ρ st1).bind fun y st2 => (op x y st2).nox
@[simp] theorem kB_d {op : Op2} {x : Wv} : kB op gb ρ x st = (gb ρ st).bind fun y st2 => (op x y st2).nox := rfl
@[simp] theorem e_bin {op : Op2} : gBin op ga gb ρ st = (ga ρ st).bind (kB op gb ρ) := rfl
@[simp] theorem e_tst : gTst ga ρ st = (ga ρ st).bind tst := rfl
@[simp] theorem tst_b {b : Bool} : tst (.bl b) st = .ok b st := rfl
@[simp] theorem e_tru : gTru ga ρ st = (ga ρ st).bind truW := rfl
@[simp] theorem truW_b {b : Bool} : truW (.bl b) st = .ok b st := rfl
@[simp] theorem e_not : gNot gt ρ st = (gt ρ st).bind fun b st1 => .ok (!b) st1 := rfl
def kAnd (gb : GT) (ρ : Rho) : Bool → Hs → Re Bool := fun b st1 => if b = true then gb ρ st1 else .ok false st1
@[simp] theorem kAnd_t : kAnd gu ρ true st = gu ρ st := rfl
@[simp] theorem kAnd_f : kAnd gu ρ false st = .ok false st := rfl
@[simp] theorem e_and : gAnd gt gu ρ st = (gt ρ st).bind (kAnd gu ρ) := rfl
def kOr (gb : GT) (ρ : Rho) : Bool → Hs → Re Bool := fun b st1 => if b = true then .ok true st1 else gb ρ st1
@[simp] theorem kOr_t : kOr gu ρ true st = .ok true st := rfl
@[simp] theorem kOr_f : kOr gu ρ false st = gu ρ st := rfl
@[simp] theorem e_or : gOr gt gu ρ st = (gt ρ st).bind (kOr gu ρ) := rfl
def kAndV (gb : GE) (ρ : Rho) : Wv → Hs → Re Wv := fun w st1 => match w with
  | .bl true => gb ρ st1
  | .bl false => .ok (.bl false) st1
  | _ => .bad
@[simp] theorem kAndV_t : kAndV gb ρ (.bl true) st = gb ρ st := rfl
@[simp] theorem kAndV_f : kAndV gb ρ (.bl false) st = .ok (.bl false) st := rfl
@[simp] theorem e_andV : gAndV ga gb ρ st = (ga ρ st).bind (kAndV gb ρ) := rfl
def kNotV : Wv → Hs → Re Wv := fun w st1 => match w with
  | .bl b => .ok (.bl (!b)) st1
  | _ => .bad
@[simp] theorem kNotV_b {b : Bool} : kNotV (.bl b) st = .ok (.bl (!b)) st := rfl
def kIfE (ga gb : GE) (ρ : Rho) : Bool → Hs → Re Wv := fun b st1 => if b = true then ga ρ st1 else gb ρ st1
@[simp] theorem kIfE_t : kIfE ga gb ρ true st = ga ρ st := rfl
@[simp] theorem kIfE_f : kIfE ga gb ρ false st = gb ρ st := rfl
@[simp] theorem e_ifE : gIfE gt ga gb ρ st = (gt ρ st).bind (kIfE ga gb ρ) := rfl
@[simp] theorem e_nil : gNil ρ st = .ok [] st := rfl
def kCons (gr : GA) (ρ : Rho) : Wv → Hs → Re (List Wv) := fun x st1 => (gr ρ st1).bind fun xs st2 => .ok (x :: xs) st2
@[simp] theorem kCons_d {gr : GA} {x : Wv} : kCons gr ρ x st = (gr ρ st).bind fun xs st2 => .ok (x :: xs) st2 := rfl
@[simp] theorem e_cons {gr : GA} : gCons ga gr ρ st = (ga ρ st).bind (kCons gr ρ) := rfl
def kTup : List Wv → Hs → Re Wv := fun ws st1 => if ws.length ≤ lim then .ok (.tup ws) st1 else .bad
theorem kTup_d {ws : List Wv} (hl : ws.length ≤ lim) : kTup ws st = .ok (.tup ws) st := if_pos hl
@[simp] theorem e_tup {gr : GA} : gTup gr ρ st = (gr ρ st).bind kTup := rfl
def kLst : List Wv → Hs → Re Wv := fun ws st1 => if ws.length ≤ lim then .ok (.ref st1.length) (st1 ++ [.lst ws]) else .bad
theorem kLst_d {ws : List Wv} (hl : ws.length ≤ lim) : kLst ws st = .ok (.ref st.length) (st ++ [.lst ws]) := if_pos hl
@[simp] theorem e_lst {gr : GA} : gLst gr ρ st = (gr ρ st).bind kLst := rfl
section
variable {x x0 x1 x2 x3 x4 x5 x6 x7 : Wv}
@[simp] theorem kTup_2 : kTup [x0, x1] st = .ok (.tup [x0, x1]) st := kTup_d (by simp [lim])
@[simp] theorem kLst_0 : kLst [] st = .ok (.ref st.length) (st ++ [.lst []]) := kLst_d (by simp [lim])
@[simp] theorem kLst_1 : kLst [x0] st = .ok (.ref st.length) (st ++ [.lst [x0]]) := kLst_d (by simp [lim])
@[simp] theorem kLst_2 : kLst [x0, x1] st = .ok (.ref st.length) (st ++ [.lst [x0, x1]]) := kLst_d (by simp [lim])
@[simp] theorem kLst_3 : kLst [x0, x1, x2] st = .ok (.ref st.length) (st ++ [.lst [x0, x1, x2]]) := kLst_d (by simp [lim])
@[simp] theorem kLst_5 : kLst [x0, x1, x2, x3, x4] st = .ok (.ref st.length) (st ++ [.lst [x0, x1, x2, x3, x4]]) := kLst_d (by simp [lim])
@[simp] theorem kLst_8 : kLst [x0, x1, x2, x3, x4, x5, x6, x7] st = .ok (.ref st.length) (st ++ [.lst [x0, x1, x2, x3, x4, x5, x6, x7]]) := kLst_d (by simp [lim])
end
def kCall (n : Nat) (F : List Wv → Hs → Re Wv) : List Wv → Hs → Re Wv := fun ws st1 => if ws.length = n then F ws st1 else .bad
section
variable {F : List Wv → Hs → Re Wv} {x0 x1 x2 x3 : Wv} {gr : GA}
@[simp] theorem kCall_1 : kCall 1 F [x0] st = F [x0] st := rfl
@[simp] theorem kCall_2 : kCall 2 F [x0, x1] st = F [x0, x1] st := rfl
@[simp] theorem kCall_3 : kCall 3 F [x0, x1, x2] st = F [x0, x1, x2] st := rfl
@[simp] theorem kCall_4 : kCall 4 F [x0, x1, x2, x3] st = F [x0, x1, x2, x3] st := rfl
@[simp] theorem e_call {n : Nat} : gCall n F gr ρ st = (gr ρ st).bind (kCall n F) := rfl
@[simp] theorem e_callB {op : List Wv → Hs → Re Wv} : gCallB op gr ρ st = (gr ρ st).bind fun ws st1 => (op ws st1).nox := rfl
end
@[simp] theorem e_un {op : Wv → Hs → Re Wv} : gUn op ga ρ st = (ga ρ st).bind op := rfl
@[simp] theorem neg_i {i : Int} : opNeg (.int i) st = .ok (.int (-i)) st := rfl
@[simp] theorem add_i {i j : Int} : oAdd (.int i) (.int j) st = .ok (.int (i + j)) st := rfl
@[simp] theorem sub_i {i j : Int} : oSub (.int i) (.int j) st = .ok (.int (i - j)) st := rfl
@[simp] theorem lt_i {i j : Int} : oLt (.int i) (.int j) st = .ok (.bl (decide (i < j))) st := rfl
@[simp] theorem le_i {i j : Int} : oLe (.int i) (.int j) st = .ok (.bl (decide (i ≤ j))) st := rfl
@[simp] theorem gt_i {i j : Int} : oGt (.int i) (.int j) st = .ok (.bl (decide (j < i))) st := rfl
@[simp] theorem ge_i {i j : Int} : oGe (.int i) (.int j) st = .ok (.bl (decide (j ≤ i))) st := rfl
@[simp] theorem eq_i {i j : Int} : oEq (.int i) (.int j) st = .ok (.bl (i == j)) st := rfl
@[simp] theorem ne_i {i j : Int} : oNe (.int i) (.int j) st = .ok (.bl (!(i == j))) st := rfl
@[simp] theorem eq_s {i j : PySem.Str} : oEq (.str i) (.str j) st = .ok (.bl (i == j)) st := rfl
@[simp] theorem ne_s {i j : PySem.Str} : oNe (.str i) (.str j) st = .ok (.bl (!(i == j))) st := rfl
@[simp] theorem eq_b {i j : Bool} : oEq (.bl i) (.bl j) st = .ok (.bl (i == j)) st := by cases i <;> cases j <;> rfl
@[simp] theorem ne_b {i j : Bool} : oNe (.bl i) (.bl j) st = .ok (.bl (!(i == j))) st := by cases i <;> cases j <;> rfl
theorem fdiv_i {i j : Int} (h : j ≠ 0 ∧ j.natAbs.log2 < 9000) : oFdiv (.int i) (.int j) st = .ok (.int (i.fdiv j)) st := by show (if _ then _ else _) = _; rw [if_pos h]
theorem mod_i {i j : Int} (h : j ≠ 0) : oMod (.int i) (.int j) st = .ok (.int (i.fmod j)) st := by show (if _ then _ else _) = _; rw [if_pos h]
theorem mul_i {i j : Int} (h : IntMulOk i j) : oMulL (.int i) (.int j) st = .ok (.int (i * j)) st := by show (if _ then _ else _) = _; rw [if_pos h]
theorem mul_l {i j : Int} (h1 : -(2 ^ 64) < i) (h2 : i < 2 ^ 64) : oMulL (.int i) (.int j) st = .ok (.int (i * j)) st := mul_i (IntMulOk.of_left (intBits_le_64 h1 h2))
theorem mul_r {i j : Int} (h1 : -(2 ^ 64) < j) (h2 : j < 2 ^ 64) : oMulL (.int i) (.int j) st = .ok (.int (i * j)) st := mul_i (IntMulOk.of_right (intBits_le_64 h1 h2))
theorem pow_i {i j : Int} (h : 0 ≤ j ∧ j ≤ 1000000 ∧ i.natAbs < 2 ^ 64) : oPow (.int i) (.int j) st = .ok (.int (i ^ j.toNat)) st := by show (if _ then _ else _) = _; rw [if_pos h]
theorem ix_l {l : Nat} {i : Int} {ws : List Wv} {v : Wv} (h : lstOf st l = some ws) (h2 : atI ws i = some v) : oIx (.ref l) (.int i) st = .ok v st := by
  show (match lstOf st l with | some ws => (match atI ws i with | some w => Re.ok w st | none => .bad) | none => .bad) = _
  rw [h]
  dsimp only
  rw [h2]
theorem add_l {l k : Nat} {xs ys : List Wv} (h1 : lstOf st l = some xs) (h2 : lstOf st k = some ys) (hl : xs.length + ys.length ≤ lim) : oAdd (.ref l) (.ref k) st = .ok (.ref st.length) (st ++ [.lst (xs ++ ys)]) := by
  show (match lstOf st l, lstOf st k with | some i, some j => if i.length + j.length ≤ lim then Re.ok (Wv.ref st.length) (st ++ [Ob.lst (i ++ j)]) else .bad | _, _ => .bad) = _
  rw [h1, h2]
  exact if_pos hl
theorem ix_t {i : Int} {ws : List Wv} {v : Wv} (h2 : atI ws i = some v) : oIx (.tup ws) (.int i) st = .ok v st := by
  show (match atI ws i with | some w => Re.ok w st | none => .bad) = _
  rw [h2]
end
theorem fn_rt {n : Nat} {g : GS} {ws : List Wv} {st st' : Hs} {w : Wv} (h : g (ws.map some ++ List.replicate (n - ws.length) none) st = .rt w st') : fnF n g ws st = .ok w st' := by unfold fnF; rw [h]
theorem fn_nx {n : Nat} {g : GS} {ws : List Wv} {st st' : Hs} {ρ : Rho} (h : g (ws.map some ++ List.replicate (n - ws.length) none) st = .nx ρ st') : fnF n g ws st = .ok .non st' := by unfold fnF; rw [h]
theorem fn_err {n : Nat} {g : GS} {ws : List Wv} {st st' : Hs} {ρ : Rho} {c : PySem.Str} (h : g (ws.map some ++ List.replicate (n - ws.length) none) st = .err c ρ st') : fnF n g ws st = .err c st' := by unfold fnF; rw [h]
section
variable {ρ : Rho} {st : Hs} {ga gb gc : GE} {gl gh : GO}
def kSl (gl gh : GO) (ρ : Rho) : Wv → Hs → Re Wv := fun x st1 => (gl ρ st1).bind fun lo st2 => (gh ρ st2).bind fun hi st3 => oSl2 x lo hi st3
@[simp] theorem kSl_d {x : Wv} : kSl gl gh ρ x st = (gl ρ st).bind fun lo st2 => (gh ρ st2).bind fun hi st3 => oSl2 x lo hi st3 := rfl
def kPart : Wv → Hs → Re (Option Int) := fun w st1 => match w with
  | .int i => .ok (some i) st1
  | _ => .bad
@[simp] theorem kPart_i {i : Int} : kPart (.int i) st = .ok (some i) st := rfl
theorem len_l {l : Nat} {ws : List Wv} (h : lstOf st l = some ws) : oLen [.ref l] st = .ok (.int ws.length) st := by
  show (match lstOf st l with | some ws => Re.ok (Wv.int ws.length) st | none => .bad) = _
  rw [h]
def kCh2 (op' : Op2) (gc : GE) (y : Wv) (ρ : Rho) : Wv → Hs → Re Wv := fun z st3 => match z with
  | .bl true => (gc ρ st3).bind fun u st4 => (op' y u st4).nox
  | .bl false => .ok (.bl false) st3
  | _ => .bad
@[simp] theorem kCh2_t {op' : Op2} {y : Wv} : kCh2 op' gc y ρ (.bl true) st = (gc ρ st).bind fun u st4 => (op' y u st4).nox := rfl
@[simp] theorem kCh2_f {op' : Op2} {y : Wv} : kCh2 op' gc y ρ (.bl false) st = .ok (.bl false) st := rfl
@[simp] theorem e_chain {op op' : Op2} : gChain op op' ga gb gc ρ st = (ga ρ st).bind fun x st1 => (gb ρ st1).bind fun y st2 => (op x y st2).nox.bind (kCh2 op' gc y ρ) := rfl
def kCh3 (op' op'' : Op2) (gc gd : GE) (y : Wv) (ρ : Rho) : Wv → Hs → Re Wv := fun z st3 => match z with
  | .bl true => (gc ρ st3).bind fun u st4 => (op' y u st4).nox.bind (kCh2 op'' gd u ρ)
  | .bl false => .ok (.bl false) st3
  | _ => .bad
@[simp] theorem kCh3_t {op' op'' : Op2} {gd : GE} {y : Wv} : kCh3 op' op'' gc gd y ρ (.bl true) st = (gc ρ st).bind fun u st4 => (op' y u st4).nox.bind (kCh2 op'' gd u ρ) := rfl
@[simp] theorem kCh3_f {op' op'' : Op2} {gd : GE} {y : Wv} : kCh3 op' op'' gc gd y ρ (.bl false) st = .ok (.bl false) st := rfl
@[simp] theorem e_chain3 {op op' op'' : Op2} {gd : GE} : gChain3 op op' op'' ga gb gc gd ρ st = (ga ρ st).bind fun x st1 => (gb ρ st1).bind fun y st2 => (op x y st2).nox.bind (kCh3 op' op'' gc gd y ρ) := rfl
def kTry (cat : PySem.Str → Option Bool) (i : Nat) (gs : GS) (r : Rs) : Rs := match r with
  | .err c ρ' st' => (match cat c with
    | some true => (match gs (ρ'.set i (some (.exn c))) st' with
      | .nx ρ2 st2 => .nx (ρ2.set i none) st2
      | .rt w st2 => .rt w st2
      | _ => .bad)
    | _ => .bad)
  | r => r
@[simp] theorem e_try {cat : PySem.Str → Option Bool} {i : Nat} {g gs : GS} : gTry cat i g gs ρ st = kTry cat i gs (g ρ st) := by
  unfold gTry kTry
  cases g ρ st <;> rfl
@[simp] theorem kTry_nx {cat : PySem.Str → Option Bool} {i : Nat} {gs : GS} : kTry cat i gs (.nx ρ st) = .nx ρ st := rfl
@[simp] theorem kTry_rt {cat : PySem.Str → Option Bool} {i : Nat} {gs : GS} {w : Wv} : kTry cat i gs (.rt w st) = .rt w st := rfl
def kTryN (cat : PySem.Str → Option Bool) (gs : GS) (r : Rs) : Rs := match r with
  | .err c ρ' st' => (match cat c with
    | some true => (match gs ρ' st' with
      | .nx ρ2 st2 => .nx ρ2 st2
      | .rt w st2 => .rt w st2
      | _ => .bad)
    | _ => .bad)
  | r => r
@[simp] theorem kTryN_nx {cat : PySem.Str → Option Bool} {gs : GS} : kTryN cat gs (.nx ρ st) = .nx ρ st := rfl
@[simp] theorem kTryN_rt {cat : PySem.Str → Option Bool} {gs : GS} {w : Wv} : kTryN cat gs (.rt w st) = .rt w st := rfl
theorem kTry_err {cat : PySem.Str → Option Bool} {i : Nat} {gs : GS} {c : PySem.Str} {ρ2 : Rho} {st2 : Hs} (h : cat c = some true) (k : gs (ρ.set i (some (.exn c))) st = .nx ρ2 st2) : kTry cat i gs (.err c ρ st) = .nx (ρ2.set i none) st2 := by
  unfold kTry
  simp only [h, k]
end
theorem lstOf_new {st : Hs} {ws : List Wv} : lstOf (st ++ [.lst ws]) st.length = some ws := by unfold lstOf; simp
theorem lstOf_old {st : Hs} {o : Ob} {l : Nat} {ws : List Wv} (h : lstOf st l = some ws) : lstOf (st ++ [o]) l = some ws := by
  have hl : l < st.length := by
    unfold lstOf at h
    cases e : st[l]? with
    | none => rw [e] at h; cases h
    | some o => exact (List.getElem?_eq_some_iff.mp e).1
  unfold lstOf at h ⊢
  rw [List.getElem?_append_left hl]
  exact h
theorem lstOf_lt {st : Hs} {l : Nat} {ws : List Wv} (h : lstOf st l = some ws) : l < st.length := by
  unfold lstOf at h
  cases e : st[l]? with
  | none => rw [e] at h; cases h
  | some o => exact (List.getElem?_eq_some_iff.mp e).1
def Keep (l : Nat) (st st' : Hs) : Prop := st.length ≤ st'.length ∧ ∀ k, k < st.length → k ≠ l → st'[k]? = st[k]?
theorem Keep.refl {l : Nat} {st : Hs} : Keep l st st := ⟨Nat.le_refl _, fun _ _ _ => rfl⟩
theorem Keep.trans {l : Nat} {a b c : Hs} (h : Keep l a b) (k : Keep l b c) : Keep l a c := ⟨Nat.le_trans h.1 k.1, fun j h1 h2 => (k.2 j (Nat.lt_of_lt_of_le h1 h.1) h2).trans (h.2 j h1 h2)⟩
theorem Keep.push {l : Nat} {st : Hs} {o : Ob} : Keep l st (st ++ [o]) := ⟨by simp, fun k h _ => List.getElem?_append_left h⟩
theorem Keep.set {l : Nat} {st : Hs} {o : Ob} : Keep l st (st.set l o) := ⟨by simp, fun k _ h => List.getElem?_set_ne (fun z => h z.symm)⟩
theorem Keep.lst {l : Nat} {st st' : Hs} (k : Keep l st st') {j : Nat} {ws : List Wv} (h : lstOf st j = some ws) (hj : j ≠ l) : lstOf st' j = some ws := by
  unfold lstOf at h ⊢
  rw [k.2 j (lstOf_lt (st := st) (ws := ws) (by unfold lstOf; exact h)) hj]
  exact h
@[simp] theorem e_forR1 {i : Nat} {ga : GA} {gb : GS} {ρ : Rho} {st : Hs} : gForR1 i ga gb ρ st = (ga ρ st).thn ρ fun ws st1 => match ws with
  | [.int j] => if CRng j then forT i gb (rngW 0 j.toNat) ρ st1 else .bad
  | _ => .bad := rfl
@[simp] theorem e_forR2 {i : Nat} {ga : GA} {gb : GS} {ρ : Rho} {st : Hs} : gForR2 i ga gb ρ st = (ga ρ st).thn ρ fun ws st1 => match ws with
  | [.int a, .int j] => if CRng a ∧ CRng j then forT i gb (rngW a (j - a).toNat) ρ st1 else .bad
  | _ => .bad := rfl
@[simp] theorem e_raise {c : PySem.Str} {ga : GA} {ρ : Rho} {st : Hs} : gRaise c ga ρ st = (ga ρ st).thn ρ fun ws st1 => if ws.length ≤ lim then .err c ρ st1 else .bad := rfl
def kMeth (mt : Wv → Wv → Hs → Re Wv) (ga : GE) (ρ : Rho) : Wv → Hs → Re Wv := fun o st1 => match o with
  | .ref l => (match lstOf st1 l with
    | some _ => (ga ρ st1).bind fun v st2 => (mt o v st2).nox
    | none => .bad)
  | _ => .bad
@[simp] theorem e_meth {mt : Wv → Wv → Hs → Re Wv} {go ga : GE} {ρ : Rho} {st : Hs} : gMeth mt go ga ρ st = (go ρ st).bind (kMeth mt ga ρ) := rfl
theorem kMeth_l {mt : Wv → Wv → Hs → Re Wv} {ga : GE} {ρ : Rho} {st : Hs} {l : Nat} {ws : List Wv} (h : lstOf st l = some ws) : kMeth mt ga ρ (.ref l) st = (ga ρ st).bind fun v st2 => (mt (.ref l) v st2).nox := by
  show (match lstOf st l with | some _ => (ga ρ st).bind fun v st2 => (mt (.ref l) v st2).nox | none => .bad) = _
  rw [h]
theorem app_l {st : Hs} {l : Nat} {v : Wv} {ws : List Wv} (h : st[l]? = some (.lst ws)) (hl : ws.length < lim) : mApp (.ref l) v st = .ok .non (st.set l (.lst (ws ++ [v]))) := by
  show (match st[l]? with | some (.lst ws) => if ws.length < lim then Re.ok Wv.non (st.set l (.lst (ws ++ [v]))) else .bad | _ => .bad) = _
  rw [h]
  exact if_pos hl
noncomputable def kFor (i : Nat) (gb : GS) (ρ : Rho) : Wv → Hs → Rs := fun w st1 => match w with
  | .ref l => (match lstOf st1 l with | some ws => forL i gb l ws ws ρ st1 | none => .bad)
  | .tup ws => forT i gb ws ρ st1
  | .ktp ws => forT i gb ws ρ st1
  | _ => .bad
@[simp] theorem e_for {i : Nat} {ga : GE} {gb : GS} {ρ : Rho} {st : Hs} : gFor i ga gb ρ st = (ga ρ st).thn ρ (kFor i gb ρ) := rfl
theorem kFor_l {i : Nat} {gb : GS} {ρ : Rho} {st : Hs} {l : Nat} {ws : List Wv} (h : lstOf st l = some ws) : kFor i gb ρ (.ref l) st = forL i gb l ws ws ρ st := by
  show (match lstOf st l with | some ws => forL i gb l ws ws ρ st | none => .bad) = _
  rw [h]
@[simp] theorem kFor_t {i : Nat} {gb : GS} {ρ : Rho} {st : Hs} {ws : List Wv} : kFor i gb ρ (.tup ws) st = forT i gb ws ρ st := rfl
theorem forL_inv {i : Nat} {gb : GS} {l : Nat} {all : List Wv} (P : Rho → Hs → Prop) : ∀ (ws : List Wv) (ρ : Rho) (st : Hs), P ρ st → lstOf st l = some all →
    (∀ w ∈ ws, ∀ ρ st, P ρ st → lstOf st l = some all → ∃ ρ' st', gb (ρ.set i (some w)) st = .nx ρ' st' ∧ lstOf st' l = some all ∧ P ρ' st') →
    ∃ ρ' st', forL i gb l all ws ρ st = .nx ρ' st' ∧ P ρ' st' ∧ lstOf st' l = some all
  | [], ρ, st, h, hl, _ => ⟨ρ, st, rfl, h, hl⟩
  | w :: r, ρ, st, h, hl, step => by
    obtain ⟨ρ1, st1, e1, l1, p1⟩ := step w List.mem_cons_self ρ st h hl
    obtain ⟨ρ2, st2, e2, p2, l2⟩ := forL_inv P r ρ1 st1 p1 l1 fun w hw => step w (List.mem_cons_of_mem _ hw)
    refine ⟨ρ2, st2, ?_, p2, l2⟩
    unfold forL
    rw [e1]
    simp only [if_pos l1]
    exact e2
theorem forT_ix {i : Nat} {gb : GS} (P : Nat → Rho → Hs → Prop) : ∀ (ws : List Wv) (k : Nat) (ρ : Rho) (st : Hs), P k ρ st →
    (∀ (j : Nat) (w : Wv), ws[j]? = some w → ∀ ρ st, P (k + j) ρ st → ∃ ρ' st', gb (ρ.set i (some w)) st = .nx ρ' st' ∧ P (k + j + 1) ρ' st') → ∃ ρ' st', forT i gb ws ρ st = .nx ρ' st' ∧ P (k + ws.length) ρ' st'
  | [], k, ρ, st, h, _ => ⟨ρ, st, rfl, h⟩
  | w :: r, k, ρ, st, h, step => by
    obtain ⟨ρ1, st1, e1, p1⟩ := step 0 w rfl ρ st h
    obtain ⟨ρ2, st2, e2, p2⟩ := forT_ix P r (k + 1) ρ1 st1 p1 fun j w hw ρ st hp => by
      have e : k + (j + 1) = k + 1 + j := by omega
      have q := step (j + 1) w hw ρ st (by rw [e]; exact hp)
      rw [e] at q
      exact q
    refine ⟨ρ2, st2, ?_, ?_⟩
    · unfold forT
      rw [e1]
      exact e2
    · have e : k + (w :: r).length = k + 1 + r.length := by simp; omega
      rw [e]
      exact p2
theorem forT_inv {i : Nat} {gb : GS} (P : Rho → Hs → Prop) : ∀ (ws : List Wv) (ρ : Rho) (st : Hs), P ρ st →
    (∀ w ∈ ws, ∀ ρ st, P ρ st → ∃ ρ' st', gb (ρ.set i (some w)) st = .nx ρ' st' ∧ P ρ' st') → ∃ ρ' st', forT i gb ws ρ st = .nx ρ' st' ∧ P ρ' st'
  | [], ρ, st, h, _ => ⟨ρ, st, rfl, h⟩
  | w :: r, ρ, st, h, step => by
    obtain ⟨ρ1, st1, e1, p1⟩ := step w List.mem_cons_self ρ st h
    obtain ⟨ρ2, st2, e2, p2⟩ := forT_inv P r ρ1 st1 p1 fun w hw => step w (List.mem_cons_of_mem _ hw)
    refine ⟨ρ2, st2, ?_, p2⟩
    unfold forT
    rw [e1]
    exact e2
@[simp] theorem str2_i {i : Int} {st : Hs} : oStr2 [.int i] st = oStr [.int i] st := rfl
@[simp] theorem e_comp {cs : Caps} {gi : GI} {gt : GT} {ge : GE} {ρ : Rho} {st : Hs} : gComp cs gi gt ge ρ st = (gi ρ st).bind (compRun cs gt ge ρ) := rfl
@[simp] theorem e_giSeq {g : GE} {ρ : Rho} {st : Hs} : giSeq2 g ρ st = (g ρ st).bind seqW2 := rfl
@[simp] theorem e_giR1 {g : GA} {ρ : Rho} {st : Hs} : giR1 g ρ st = (g ρ st).bind rng1W := rfl
@[simp] theorem e_giR2 {g : GA} {ρ : Rho} {st : Hs} : giR2 g ρ st = (g ρ st).bind rng2W := rfl
theorem rng1_i {j : Int} {st : Hs} (h : CRng j) : rng1W [.int j] st = .ok (none, rngW 0 j.toNat) st := if_pos h
theorem seqW_l {l : Nat} {st : Hs} {ws : List Wv} (h : lstOf st l = some ws) : seqW2 (.ref l) st = .ok (some l, ws) st := by
  show (match lstOf st l with | some ws => Re.ok (some l, ws) st | none => .bad) = _
  rw [h]
@[simp] theorem seqW_s {st : Hs} {z : PySem.Str} : seqW2 (.str z) st = .ok (none, signsW z) st := rfl
@[simp] theorem seqW_t {st : Hs} {ws : List Wv} : seqW2 (.tup ws) st = .ok (none, ws) st := rfl
theorem app_new {st : Hs} {acc : List Wv} {v : Wv} (h : acc.length < lim) : mApp (.ref st.length) v (st ++ [.lst acc]) = .ok .non (st ++ [.lst (acc ++ [v])]) := by
  rw [app_l (ws := acc) (by simp) h]
  congr 1
  simp
theorem compG_pure {w : Wk} {gt : Wv → Hs → Re Bool} {ge : Wv → Hs → Re Wv} {st : Hs} {t : Wv → Bool} {f : Wv → Wv} (ck : ckOf w st) : ∀ (ws acc : List Wv), (∀ v ∈ ws, ∀ acc, gt v (st ++ [.lst acc]) = .ok (t v) (st ++ [.lst acc])) →
    (∀ v ∈ ws, t v = true → ∀ acc, ge v (st ++ [.lst acc]) = .ok (f v) (st ++ [.lst acc])) → acc.length + ws.length < lim → compG (ckOf w) gt ge st.length ws (st ++ [.lst acc]) = some (st ++ [.lst (acc ++ (ws.filter t).map f)])
  | [], acc, _, _, _ => by simp [compG]
  | v :: r, acc, h1, h2, hl => by
    have hl' : acc.length + (r.length + 1) < lim := hl
    unfold compG
    rw [h1 v List.mem_cons_self acc]
    cases e : t v with
    | false =>
      dsimp only
      rw [if_pos (ckOf_app ck), compG_pure ck r acc (fun v hv => h1 v (List.mem_cons_of_mem _ hv)) (fun v hv => h2 v (List.mem_cons_of_mem _ hv)) (by omega), List.filter_cons_of_neg (by simp [e])]
    | true =>
      dsimp only
      rw [h2 v List.mem_cons_self e acc]
      dsimp only
      rw [app_new (by omega)]
      dsimp only
      rw [if_pos (ckOf_app ck), compG_pure ck r (acc ++ [f v]) (fun v hv => h1 v (List.mem_cons_of_mem _ hv)) (fun v hv => h2 v (List.mem_cons_of_mem _ hv)) (by simp; omega), List.filter_cons_of_pos e]
      simp
theorem comp_pure {cs : Caps} {gt : GT} {ge : GE} {ρ : Rho} {w : Wk} {st : Hs} {t : Wv → Bool} {f : Wv → Wv} (ck : ckOf w st) (h1 : ∀ v ∈ w.2, ∀ acc, gt (some v :: capR cs ρ) (st ++ [.lst acc]) = .ok (t v) (st ++ [.lst acc]))
    (h2 : ∀ v ∈ w.2, t v = true → ∀ acc, ge (some v :: capR cs ρ) (st ++ [.lst acc]) = .ok (f v) (st ++ [.lst acc])) (hl : w.2.length < lim) : compRun cs gt ge ρ w st = .ok (.ref st.length) (st ++ [.lst ((w.2.filter t).map f)]) := by
  unfold compRun
  rw [compG_pure ck w.2 [] h1 h2 (by simpa using hl)]
  simp
end J
namespace J
open PySem PySem.Spec PyProof.Rows L2
theorem set_get {st : Hs} {l : Nat} {o o' : Ob} (h : st[l]? = some o) : (st.set l o')[l]? = some o' := List.getElem?_set_self (List.getElem?_eq_some_iff.mp h).1
theorem push_get {st : Hs} {l : Nat} {o o' : Ob} (h : st[l]? = some o) : (st ++ [o'])[l]? = some o := by rw [List.getElem?_append_left (List.getElem?_eq_some_iff.mp h).1]; exact h
theorem lst_get {st : Hs} {l : Nat} {ws : List Wv} (h : st[l]? = some (.lst ws)) : lstOf st l = some ws := by unfold lstOf; rw [h]
theorem get_lt {st : Hs} {l : Nat} {o : Ob} (h : st[l]? = some o) : l < st.length := (List.getElem?_eq_some_iff.mp h).1
theorem new_get {st : Hs} {o : Ob} : (st ++ [o])[st.length]? = some o := by simp
theorem log_lt {i b : Int} {k : Nat} (h1 : -b ≤ i) (h2 : i ≤ b) (hb : b.natAbs < 2 ^ k) (hk : 0 < k) : i.natAbs.log2 < k := by
  by_cases e : i.natAbs = 0
  · rw [e]
    exact hk
  · exact (Nat.log2_lt e).mpr (by omega)
def kMethS (mt : PySem.Str → List Wv → Hs → Re Wv) (ga : GA) (ρ : Rho) : Wv → Hs → Re Wv := fun o st1 => match o with
  | .str z => (ga ρ st1).bind fun ws st2 => (mt z ws st2).nox
  | _ => .bad
@[simp] theorem e_methS {mt : PySem.Str → List Wv → Hs → Re Wv} {go : GE} {ga : GA} {ρ : Rho} {st : Hs} : gMethS mt go ga ρ st = (go ρ st).bind (kMethS mt ga ρ) := rfl
@[simp] theorem kMethS_s {mt : PySem.Str → List Wv → Hs → Re Wv} {ga : GA} {ρ : Rho} {st : Hs} {z : PySem.Str} : kMethS mt ga ρ (.str z) st = (ga ρ st).bind fun ws st2 => (mt z ws st2).nox := rfl
@[simp] theorem abs_i {i : Int} {st : Hs} : oAbs [.int i] st = .ok (.int (if i < 0 then -i else i)) st := rfl
@[simp] theorem sum_l {l : Nat} {st : Hs} {ns : List Int} (h : lstOf st l = some (ns.map Wv.int)) : oSum [.ref l] st = .ok (.int ns.sum) st := by
  show (match lstOf st l with | some ws => (match intsOf ws with | some ns => Re.ok (Wv.int ns.sum) st | none => .bad) | none => .bad) = _
  rw [h]
  dsimp only
  rw [intsOf_map]
theorem rng_mem {lo : Int} {n : Nat} {w : Wv} (h : w ∈ rngW lo n) : ∃ k : Int, w = .int k ∧ lo ≤ k ∧ k < lo + n := by
  unfold rngW at h
  obtain ⟨k, hk, rfl⟩ := List.mem_map.mp h
  have := List.mem_range.mp hk
  exact ⟨lo + k, rfl, by omega, by omega⟩
theorem crng {i : Int} (h1 : -1000000 ≤ i) (h2 : i ≤ 1000000) : CRng i := ⟨by omega, by omega⟩
@[simp] theorem kCall_0 {F : List Wv → Hs → Re Wv} {st : Hs} : kCall 0 F [] st = F [] st := rfl
theorem e_alt2 {ga gb : GE} {ρ : Rho} {st : Hs} (h : ga ρ st = .bad) : gAlt ga gb ρ st = gb ρ st := by unfold gAlt; rw [h]
def Gr (st st' : Hs) : Prop := st.length ≤ st'.length ∧ ∀ k, k < st.length → st'[k]? = st[k]?
theorem Gr.refl {st : Hs} : Gr st st := ⟨Nat.le_refl _, fun _ _ => rfl⟩
theorem Gr.trans {a b c : Hs} (h : Gr a b) (k : Gr b c) : Gr a c := ⟨Nat.le_trans h.1 k.1, fun j h1 => (k.2 j (Nat.lt_of_lt_of_le h1 h.1)).trans (h.2 j h1)⟩
theorem Gr.push {st : Hs} {o : Ob} : Gr st (st ++ [o]) := ⟨by simp, fun k h => List.getElem?_append_left h⟩
theorem Gr.app {st xs : Hs} : Gr st (st ++ xs) := ⟨by simp, fun k h => List.getElem?_append_left h⟩
theorem Gr.lst {st st' : Hs} (k : Gr st st') {j : Nat} {ws : List Wv} (h : lstOf st j = some ws) : lstOf st' j = some ws := by
  unfold lstOf at h ⊢
  rw [k.2 j (lstOf_lt (st := st) (ws := ws) (by unfold lstOf; exact h))]
  exact h
theorem Gr.get {st st' : Hs} (k : Gr st st') {j : Nat} {o : Ob} (h : st[j]? = some o) : st'[j]? = some o := by rw [k.2 j (get_lt h)]; exact h
theorem Gr.keep {st st' : Hs} {l : Nat} (k : Gr st st') : Keep l st st' := ⟨k.1, fun j h _ => k.2 j h⟩
theorem Keep.gr {st st' : Hs} {l : Nat} (h : st.length ≤ l) (k : Keep l st st') : Gr st st' := ⟨k.1, fun j h1 => k.2 j h1 (by omega)⟩
theorem Gr.keepAt {st s1 s2 : Hs} {l : Nat} (h : st.length ≤ l) (g : Gr st s1) (k : Keep l s1 s2) : Gr st s2 := ⟨Nat.le_trans g.1 k.1, fun j h1 => (k.2 j (Nat.lt_of_lt_of_le h1 g.1) (by omega)).trans (g.2 j h1)⟩
theorem ne_dat {st : Hs} {x y : Wv} {d : PyData} (h1 : datum st 20 x = some d) (h2 : datum st 20 y = some d) (h : PyData.eqv d d = true) : oNe x y st = .ok (.bl false) st := by
  unfold oNe
  rw [h1, h2]
  show Re.ok (Wv.bl (!PyData.eqv d d)) st = _
  rw [h]
  rfl
theorem eq_dat {st : Hs} {x y : Wv} {d : PyData} (h1 : datum st 20 x = some d) (h2 : datum st 20 y = some d) (h : PyData.eqv d d = true) : oEq x y st = .ok (.bl true) st := by
  unfold oEq
  rw [h1, h2]
  show Re.ok (Wv.bl (PyData.eqv d d)) st = _
  rw [h]
theorem dat_l {st : Hs} {n l : Nat} {ws : List Wv} (h : lstOf st l = some ws) : datum st (n + 1) (.ref l) = (mapO (datum st n) ws).map PyData.list := by
  show (match lstOf st l with | some ws => (mapO (datum st n) ws).map PyData.list | none => none) = _
  rw [h]
theorem srt_l {l : Nat} {st : Hs} {ns : List Int} (h : lstOf st l = some (ns.map Wv.int)) (hn : ns.length < 64) : oSrt [.ref l] st = .ok (.ref st.length) (st ++ [.lst ((srtI ns).map Wv.int)]) := by
  unfold oSrt
  simp only [h, intsOf_map]
  rw [if_pos hn]
@[simp] theorem max_2 {i j : Int} {st : Hs} : oMax2 [.int i, .int j] st = .ok (.int (if j > i then j else i)) st := rfl
@[simp] theorem min_2 {i j : Int} {st : Hs} : oMin2 [.int i, .int j] st = .ok (.int (if j < i then j else i)) st := rfl
theorem atI_0 {α : Type} {a : α} {r : List α} : L2.atI (a :: r) 0 = some a := L2.atI_nat (j := 0) rfl
theorem atI_last {α : Type} {t : List α} {a : α} : L2.atI (t ++ [a]) (-1) = some a := by
  unfold L2.atI L2.ixN
  simp
  rw [if_pos (by omega)]
  have e : (-1 + ((t.length : Int) + 1)).toNat = t.length := by omega
  simp [e]
theorem set_new {st : Hs} {o o' : Ob} : (st ++ [o]).set st.length o' = st ++ [o'] := by simp
theorem srt_p {l : Nat} {st : Hs} {ps : List (Int × Int)} (h : lstOf st l = some (ps.map pw)) (hn : ps.length < 64) : oSrt2 [.ref l] st = .ok (.ref st.length) (st ++ [.lst ((srtP ps).map pw)]) := by
  match ps, h, hn with
  | [], h, _ =>
    have e := srt_l (ns := []) (st := st) (l := l) h (by simp)
    unfold oSrt2
    simp only [h, List.map_nil]
    exact e
  | [p], h, _ =>
    unfold oSrt2
    simp only [h, List.map_cons, List.map_nil]
    rfl
  | p :: q :: r, h, hn =>
    have e : pairsW ((p :: q :: r).map pw) = some (p :: q :: r) := pairsW_map _
    unfold oSrt2
    simp only [h]
    simp only [List.map_cons] at e ⊢
    simp only [e]
    rw [if_pos ⟨by simp, hn⟩]
end J
namespace J
open PySem L2
theorem tb_none {K : PySem.W.Frag} {H : Hp} (h1 : PySem.W.nsIn K mainGlobals "form_of" = some none) (h2 : PySem.W.nsIn K mainGlobals "formula_by" = some none) (h3 : PySem.W.nsIn K mainGlobals "turned" = some none) : TbOk K H := fun q P hq e => by
  have no : ∀ q, PySem.W.nsIn K mainGlobals q = some none → tabFree K q = none := fun q h => by
    unfold tabFree PySem.W.tabIn
    rw [h]
  simp only [lamDefs, List.mem_cons, List.not_mem_nil, or_false] at hq
  rcases hq with rfl | rfl | rfl
  · rw [no _ h1] at e; cases e
  · rw [no _ h2] at e; cases e
  · rw [no _ h3] at e; cases e
theorem ln1 {fd : FuncData} {ps : List Str} (us : List Value) (hl : us.length = 1) (h : ∀ a0 : Value, bindArgs fd { pos := [a0] } = pure (ps.zip [a0])) : bindArgs fd { pos := us } = pure (ps.zip us) := match us, hl with | [a0], _ => h a0
theorem ln2 {fd : FuncData} {ps : List Str} (us : List Value) (hl : us.length = 2) (h : ∀ a0 a1 : Value, bindArgs fd { pos := [a0, a1] } = pure (ps.zip [a0, a1])) : bindArgs fd { pos := us } = pure (ps.zip us) := match us, hl with | [a0, a1], _ => h a0 a1
theorem ln3 {fd : FuncData} {ps : List Str} (us : List Value) (hl : us.length = 3) (h : ∀ a0 a1 a2 : Value, bindArgs fd { pos := [a0, a1, a2] } = pure (ps.zip [a0, a1, a2])) : bindArgs fd { pos := us } = pure (ps.zip us) := match us, hl with | [a0, a1, a2], _ => h a0 a1 a2
theorem ln4 {fd : FuncData} {ps : List Str} (us : List Value) (hl : us.length = 4) (h : ∀ a0 a1 a2 a3 : Value, bindArgs fd { pos := [a0, a1, a2, a3] } = pure (ps.zip [a0, a1, a2, a3])) : bindArgs fd { pos := us } = pure (ps.zip us) := match us, hl with | [a0, a1, a2, a3], _ => h a0 a1 a2 a3
end J
namespace K81
open PySem J
open L2 (defScope defBody defArgs FnScope CX0 FnOk XK Hp)
def top (i : Nat) : Stmt := PySem.Challenge.pw_onelook_k81_covers.main.body.getD i (.Pass ⟨0, 0, 0, 0⟩)
def tbl : Tab := [(("BadCount", "BadCount"), true), (("BadCount", "BadPlace"), false), (("BadCount", "BadArea"), false), (("BadCount", "BadText"), false), (("BadCount", "BadFormula"), false), (("BadCount", "BadContent"), false), (("BadCount", "Full"), false), (("BadCount", "NoCell"), false), (("BadCount", "NotWaiting"), false), (("BadCount", "NoRoom"), false), (("BadCount", "BadTable"), false), (("BadCount", "NoTable"), false), (("BadCount", "NoColumn"), false), (("BadCount", "NoDeed"), false), (("BadCount", "Clash"), false), (("BadCount", "SheetError"), true)]
def tblT : TabT := [(("BadCount", "ValueError"), true)]
def tblC : Tab := [(("BadCount", "SheetError"), true)]
abbrev s__law_cell_at : Stmt := top 25
noncomputable def g__law_cell_at : GS := (gSeq (gIf (gTst (gBin oLt (gVar 1) (gCallB oLen (gCons (gVar 0) gNil)))) (gRet (gBin oIx (gVar 0) (gVar 1))) gNext)
  (gRet (gC (.int 0))))
noncomputable def F__law_cell_at : List Wv → Hs → Re Wv := fnF 2 g__law_cell_at
noncomputable def c__law_cell_at : Ct where
  N := ["script", "k"]
  names := (defScope s__law_cell_at).names
  consts := []
  bl := ["len"]
  fns := []
  tb := tbl
  tt := tblT
  tc := tblC
  clss := []
  cln := []
  dcs := []
  dts := []
  dks := []
theorem r__law_cell_at : compS 30 (c__law_cell_at) (defBody s__law_cell_at) = g__law_cell_at := by kernel_rfl
theorem sc__law_cell_at : FnScope (c__law_cell_at).N ["script", "k"] (defScope s__law_cell_at) := ⟨rfl, rfl, rfl, by decide +kernel, rfl, by decide +kernel, by decide +kernel⟩
abbrev s_check_many : Stmt := top 20
noncomputable def g_check_many : GS := (gIf (gNot (gTst (gChain oLe oLe (gC (.int 1)) (gVar 0) (gC (.int 99))))) (gRaise "BadCount" (gCons (gC (.str "not 1 to 99 worths")) gNil)) gNext)
noncomputable def F_check_many : List Wv → Hs → Re Wv := fnF 1 g_check_many
noncomputable def c_check_many : Ct where
  N := ["many"]
  names := (defScope s_check_many).names
  consts := [("MOST_WORTHS", (.int 99))]
  bl := []
  fns := []
  tb := tbl
  tt := tblT
  tc := tblC
  clss := ["BadCount"]
  cln := []
  dcs := []
  dts := []
  dks := []
theorem r_check_many : compS 30 (c_check_many) (defBody s_check_many) = g_check_many := by kernel_rfl
theorem sc_check_many : FnScope (c_check_many).N ["many"] (defScope s_check_many) := ⟨rfl, rfl, rfl, by decide +kernel, rfl, by decide +kernel, by decide +kernel⟩
abbrev s_halves_of : Stmt := top 21
noncomputable def g_halves_of : GS := (gSeq (gSet 1 (gBin oFdiv (gBin oAdd (gBin oIx (gVar 0) (gC (.int 0))) (gBin oIx (gVar 0) (gC (.int 1)))) (gC (.int 2))))
  (gRet (gLst (gCons (gTup (gCons (gBin oIx (gVar 0) (gC (.int 0))) (gCons (gVar 1) gNil))) (gCons (gTup (gCons (gVar 1) (gCons (gBin oIx (gVar 0) (gC (.int 1))) gNil))) gNil)))))
noncomputable def F_halves_of : List Wv → Hs → Re Wv := fnF 2 g_halves_of
noncomputable def c_halves_of : Ct where
  N := ["node", "middle"]
  names := (defScope s_halves_of).names
  consts := []
  bl := []
  fns := []
  tb := tbl
  tt := tblT
  tc := tblC
  clss := []
  cln := []
  dcs := []
  dts := []
  dks := []
theorem r_halves_of : compS 30 (c_halves_of) (defBody s_halves_of) = g_halves_of := by kernel_rfl
theorem sc_halves_of : FnScope (c_halves_of).N ["node"] (defScope s_halves_of) := ⟨rfl, rfl, rfl, by decide +kernel, rfl, by decide +kernel, by decide +kernel⟩
abbrev s_covering : Stmt := top 23
noncomputable def g_covering (F_covering : List Wv → Hs → Re Wv) : GS := (gSeq (gIf (gOr (gTst (gBin oLe (gVar 2) (gBin oIx (gVar 0) (gC (.int 0))))) (gTst (gBin oLe (gBin oIx (gVar 0) (gC (.int 1))) (gVar 1)))) (gRet (gLst gNil)) gNext)
  (gSeq (gIf (gAnd (gTst (gBin oLe (gVar 1) (gBin oIx (gVar 0) (gC (.int 0))))) (gTst (gBin oLe (gBin oIx (gVar 0) (gC (.int 1))) (gVar 2)))) (gRet (gLst (gCons (gVar 0) gNil))) gNext)
  (gSeq (gSet 3 (gCall 1 F_halves_of (gCons (gVar 0) gNil)))
  (gRet (gBin oAdd (gCall 3 F_covering (gCons (gBin oIx (gVar 3) (gC (.int 0))) (gCons (gVar 1) (gCons (gVar 2) gNil)))) (gCall 3 F_covering (gCons (gBin oIx (gVar 3) (gC (.int 1))) (gCons (gVar 1) (gCons (gVar 2) gNil)))))))))
noncomputable def c_covering (F_covering : List Wv → Hs → Re Wv) : Ct where
  N := ["node", "low", "high", "parts"]
  names := (defScope s_covering).names
  consts := []
  bl := []
  fns := [("halves_of", 1, F_halves_of), ("covering", 3, F_covering)]
  tb := tbl
  tt := tblT
  tc := tblC
  clss := []
  cln := []
  dcs := []
  dts := []
  dks := []
theorem r_covering (F_covering : List Wv → Hs → Re Wv) : compS 30 (c_covering F_covering) (defBody s_covering) = g_covering F_covering := by kernel_rfl
theorem sc_covering (F_covering : List Wv → Hs → Re Wv) : FnScope ["node", "low", "high", "parts"] ["node", "low", "high"] (defScope s_covering) := ⟨rfl, rfl, rfl, by decide +kernel, rfl, by decide +kernel, by decide +kernel⟩
noncomputable def RR_covering : Nat → (List Wv → Hs → Re Wv)
  | 0 => fBad
  | n + 1 => fnF 4 (g_covering ((RR_covering n)))
noncomputable def R_covering (n : Nat) : List Wv → Hs → Re Wv := (RR_covering n)
theorem R_covering_succ (n : Nat) : R_covering (n + 1) = fnF 4 (g_covering (R_covering n)) := rfl
noncomputable def F_covering : List Wv → Hs → Re Wv := R_covering 9
abbrev s_cover : Stmt := top 22
noncomputable def g_cover : GS := (gSeq (gExpr (gCall 1 F_check_many (gCons (gVar 0) gNil)))
  (gSeq (gIf (gNot (gTst (gChain3 oLe oLt oLe (gC (.int 0)) (gVar 1) (gVar 2) (gVar 0)))) (gRaise "BadCount" (gCons (gC (.str "no stretch of the worths")) gNil)) gNext)
  (gRet (gCall 3 F_covering (gCons (gTup (gCons (gC (.int 0)) (gCons (gVar 0) gNil))) (gCons (gVar 1) (gCons (gVar 2) gNil)))))))
noncomputable def F_cover : List Wv → Hs → Re Wv := fnF 3 g_cover
noncomputable def c_cover : Ct where
  N := ["many", "low", "high"]
  names := (defScope s_cover).names
  consts := []
  bl := []
  fns := [("check_many", 1, F_check_many), ("covering", 3, F_covering)]
  tb := tbl
  tt := tblT
  tc := tblC
  clss := ["BadCount"]
  cln := []
  dcs := []
  dts := []
  dks := []
theorem r_cover : compS 30 (c_cover) (defBody s_cover) = g_cover := by kernel_rfl
theorem sc_cover : FnScope (c_cover).N ["many", "low", "high"] (defScope s_cover) := ⟨rfl, rfl, rfl, by decide +kernel, rfl, by decide +kernel, by decide +kernel⟩
abbrev s__law_kinds : Stmt := top 29
noncomputable def g__law_kinds_C1t : GT := (gTru (gBin oIx (gVar 1) (gVar 0)))
noncomputable def g__law_kinds_C1e : GE := (gVar 0)
noncomputable def g__law_kinds : GS := (gSeq (gSet 1 (gLst (gCons (gCallB (oIsA tbl tblT) (gCons (gVar 0) (gCons (gC (.cls "BadPlace")) gNil))) (gCons (gCallB (oIsA tbl tblT) (gCons (gVar 0) (gCons (gC (.cls "BadArea")) gNil))) (gCons (gCallB (oIsA tbl tblT) (gCons (gVar 0) (gCons (gC (.cls "BadText")) gNil))) (gCons (gCallB (oIsA tbl tblT) (gCons (gVar 0) (gCons (gC (.cls "BadFormula")) gNil))) gNil))))))
  (gSeq (gSet 2 (gLst (gCons (gCallB (oIsA tbl tblT) (gCons (gVar 0) (gCons (gC (.cls "BadContent")) gNil))) (gCons (gCallB (oIsA tbl tblT) (gCons (gVar 0) (gCons (gC (.cls "Full")) gNil))) (gCons (gCallB (oIsA tbl tblT) (gCons (gVar 0) (gCons (gC (.cls "NoCell")) gNil))) (gCons (gCallB (oIsA tbl tblT) (gCons (gVar 0) (gCons (gC (.cls "NotWaiting")) gNil))) gNil))))))
  (gSeq (gSet 3 (gLst (gCons (gCallB (oIsA tbl tblT) (gCons (gVar 0) (gCons (gC (.cls "BadCount")) gNil))) (gCons (gCallB (oIsA tbl tblT) (gCons (gVar 0) (gCons (gC (.cls "NoRoom")) gNil))) (gCons (gCallB (oIsA tbl tblT) (gCons (gVar 0) (gCons (gC (.cls "BadTable")) gNil))) (gCons (gCallB (oIsA tbl tblT) (gCons (gVar 0) (gCons (gC (.cls "NoTable")) gNil))) gNil))))))
  (gSeq (gSet 4 (gLst (gCons (gCallB (oIsA tbl tblT) (gCons (gVar 0) (gCons (gC (.cls "NoColumn")) gNil))) (gCons (gCallB (oIsA tbl tblT) (gCons (gVar 0) (gCons (gC (.cls "NoDeed")) gNil))) (gCons (gCallB (oIsA tbl tblT) (gCons (gVar 0) (gCons (gC (.cls "Clash")) gNil))) (gCons (gCallB (oIsA tbl tblT) (gCons (gVar 0) (gCons (gC (.ty "ValueError")) gNil))) gNil))))))
  (gSeq (gSet 5 (gBin oAdd (gBin oAdd (gBin oAdd (gVar 1) (gVar 2)) (gVar 3)) (gVar 4)))
  (gRet (gComp [("heard", 5)] (giR1 (gCons (gC (.int 16)) gNil)) g__law_kinds_C1t g__law_kinds_C1e)))))))
noncomputable def F__law_kinds : List Wv → Hs → Re Wv := fnF 6 g__law_kinds
noncomputable def c__law_kinds : Ct where
  N := ["e", "one", "two", "three", "four", "heard"]
  names := (defScope s__law_kinds).names
  consts := []
  bl := ["isinstance", "ValueError", "range"]
  fns := []
  tb := tbl
  tt := tblT
  tc := tblC
  clss := []
  cln := ["BadPlace", "BadArea", "BadText", "BadFormula", "BadContent", "Full", "NoCell", "NotWaiting", "BadCount", "NoRoom", "BadTable", "NoTable", "NoColumn", "NoDeed", "Clash"]
  dcs := []
  dts := []
  dks := []
theorem r__law_kinds : compS 30 (c__law_kinds) (defBody s__law_kinds) = g__law_kinds := by kernel_rfl
theorem ru__law_kinds : compS 30 (c__law_kinds).un (defBody s__law_kinds) = g__law_kinds := by kernel_rfl
theorem sc__law_kinds : FnScope (c__law_kinds).N ["e"] (defScope s__law_kinds) := ⟨rfl, rfl, rfl, by decide +kernel, rfl, by decide +kernel, by decide +kernel⟩
abbrev s__law_refusal : Stmt := top 31
noncomputable def g__law_refusal_B1 : GS := (gExpr (gCall 3 F_cover (gCons (gVar 0) (gCons (gVar 1) (gCons (gVar 2) gNil)))))
noncomputable def g__law_refusal_U1 : GS := (gSet 3 (gCall 1 F__law_kinds (gCons (gVar 4) gNil)))
noncomputable def g__law_refusal : GS := (gSeq (gSet 3 (gLst gNil))
  (gSeq (gTry (fun y => tblC.lookup (y, ("SheetError" : PySem.Str))) 4 g__law_refusal_B1 g__law_refusal_U1)
  (gRet (gVar 3))))
noncomputable def F__law_refusal : List Wv → Hs → Re Wv := fnF 5 g__law_refusal
noncomputable def c__law_refusal : Ct where
  N := ["many", "low", "high", "heard", "e"]
  names := (defScope s__law_refusal).names
  consts := []
  bl := []
  fns := [("cover", 3, F_cover), ("_law_kinds", 1, F__law_kinds)]
  tb := tbl
  tt := tblT
  tc := tblC
  clss := ["SheetError"]
  cln := []
  dcs := []
  dts := []
  dks := []
  fnu := ["_law_kinds"]
theorem r__law_refusal : compS 30 (c__law_refusal) (defBody s__law_refusal) = g__law_refusal := by kernel_rfl
theorem sc__law_refusal : FnScope (c__law_refusal).N ["many", "low", "high"] (defScope s__law_refusal) := ⟨rfl, rfl, rfl, by decide +kernel, rfl, by decide +kernel, by decide +kernel⟩
abbrev s__law_refused : Stmt := top 35
noncomputable def g__law_refused_L1 : GS := (gIf (gTst (gBin oNe (gCall 3 F__law_refusal (gCons (gVar 5) (gCons (gC (.int 0)) (gCons (gC (.int 1)) gNil)))) (gLst (gCons (gC (.int 8)) (gCons (gC (.int 15)) gNil))))) (gRet (gC (.bl false))) gNext)
noncomputable def g__law_refused_L2 : GS := (gIf (gTst (gBin oNe (gCall 3 F__law_refusal (gCons (gVar 0) (gCons (gVar 3) (gCons (gVar 4) gNil)))) (gLst (gCons (gC (.int 8)) (gCons (gC (.int 15)) gNil))))) (gRet (gC (.bl false))) gNext)
noncomputable def g__law_refused : GS := (gSeq (gSet 2 (gLst (gCons (gTup (gCons (gC (.int 0)) (gCons (gC (.int 0)) gNil))) (gCons (gTup (gCons (gVar 0) (gCons (gVar 0) gNil))) (gCons (gTup (gCons (gC (.int 1)) (gCons (gC (.int 0)) gNil))) (gCons (gTup (gCons (gUn opNeg (gC (.int 1))) (gCons (gC (.int 1)) gNil))) (gCons (gTup (gCons (gC (.int 0)) (gCons (gBin oAdd (gVar 0) (gC (.int 1))) gNil))) (gCons (gTup (gCons (gBin oSub (gUn opNeg (gC (.int 1))) (gVar 1)) (gCons (gC (.int 1)) gNil))) (gCons (gTup (gCons (gC (.int 0)) (gCons (gBin oAdd (gBin oAdd (gVar 0) (gC (.int 1))) (gVar 1)) gNil))) (gCons (gTup (gCons (gVar 0) (gCons (gC (.int 0)) gNil))) gNil))))))))))
  (gSeq (gForB [3, 4] (gVar 2) g__law_refused_L2)
  (gSeq (gFor 5 (gLst (gCons (gC (.int 0)) (gCons (gC (.int 100)) (gCons (gUn opNeg (gC (.int 1))) (gCons (gBin oAdd (gC (.int 100)) (gVar 1)) (gCons (gBin oSub (gUn opNeg (gC (.int 1))) (gVar 1)) gNil)))))) g__law_refused_L1)
  (gRet (gC (.bl true))))))
noncomputable def F__law_refused : List Wv → Hs → Re Wv := fnF 6 g__law_refused
noncomputable def c__law_refused : Ct where
  N := ["many", "far", "pairs", "low", "high", "other"]
  names := (defScope s__law_refused).names
  consts := []
  bl := []
  fns := [("_law_refusal", 3, F__law_refusal)]
  tb := tbl
  tt := tblT
  tc := tblC
  clss := []
  cln := []
  dcs := []
  dts := []
  dks := []
theorem r__law_refused : compS 30 (c__law_refused) (defBody s__law_refused) = g__law_refused := by kernel_rfl
theorem sc__law_refused : FnScope (c__law_refused).N ["many", "far"] (defScope s__law_refused) := ⟨rfl, rfl, rfl, by decide +kernel, rfl, by decide +kernel, by decide +kernel⟩
abbrev s__law_mixed : Stmt := top 26
noncomputable def g__law_mixed : GS := (gSeq (gSet 2 (gBin oMod (gBin oMulL (gBin oAdd (gBin oAdd (gBin oMod (gVar 0) (gC (.int 1000000007))) (gBin oMulL (gC (.int 7919)) (gVar 1))) (gC (.int 1))) (gC (.int 48271))) (gC (.int 2147483647))))
  (gRet (gBin oMod (gBin oMulL (gBin oMod (gBin oMulL (gVar 2) (gVar 2)) (gC (.int 2147483629))) (gC (.int 69621))) (gC (.int 2147483647)))))
noncomputable def F__law_mixed : List Wv → Hs → Re Wv := fnF 3 g__law_mixed
noncomputable def c__law_mixed : Ct where
  N := ["cell", "k", "stir"]
  names := (defScope s__law_mixed).names
  consts := []
  bl := []
  fns := []
  tb := tbl
  tt := tblT
  tc := tblC
  clss := []
  cln := []
  dcs := []
  dts := []
  dks := []
theorem r__law_mixed : compS 30 (c__law_mixed) (defBody s__law_mixed) = g__law_mixed := by kernel_rfl
theorem sc__law_mixed : FnScope (c__law_mixed).N ["cell", "k"] (defScope s__law_mixed) := ⟨rfl, rfl, rfl, by decide +kernel, rfl, by decide +kernel, by decide +kernel⟩
abbrev s__law_row_of : Stmt := top 30
noncomputable def g__law_row_of : GS := (gSeq (gSet 2 (gCall 2 F__law_cell_at (gCons (gVar 0) (gCons (gVar 1) gNil))))
  (gSeq (gIf (gAnd (gTst (gBin oEq (gBin oMod (gCall 2 F__law_cell_at (gCons (gVar 0) (gCons (gC (.int 0)) gNil))) (gC (.int 2))) (gC (.int 1)))) (gTst (gBin oLt (gVar 1) (gCallB oLen (gCons (gVar 0) gNil))))) (gRet (gLst (gCons (gVar 2) gNil))) gNext)
  (gRet (gLst (gCons (gBin oAdd (gBin oMulL (gBin oFdiv (gCall 2 F__law_mixed (gCons (gBin oAdd (gVar 2) (gCallB oSum (gCons (gVar 0) gNil))) (gCons (gBin oMulL (gC (.int 3)) (gVar 1)) gNil))) (gC (.int 8))) (gC (.int 2147483647))) (gCall 2 F__law_mixed (gCons (gVar 2) (gCons (gBin oAdd (gBin oMulL (gC (.int 3)) (gVar 1)) (gC (.int 1))) gNil)))) gNil)))))
noncomputable def F__law_row_of : List Wv → Hs → Re Wv := fnF 3 g__law_row_of
noncomputable def c__law_row_of : Ct where
  N := ["script", "k", "cell"]
  names := (defScope s__law_row_of).names
  consts := []
  bl := ["len", "sum"]
  fns := [("_law_cell_at", 2, F__law_cell_at), ("_law_mixed", 2, F__law_mixed)]
  tb := tbl
  tt := tblT
  tc := tblC
  clss := []
  cln := []
  dcs := []
  dts := []
  dks := []
theorem r__law_row_of : compS 30 (c__law_row_of) (defBody s__law_row_of) = g__law_row_of := by kernel_rfl
theorem sc__law_row_of : FnScope (c__law_row_of).N ["script", "k"] (defScope s__law_row_of) := ⟨rfl, rfl, rfl, by decide +kernel, rfl, by decide +kernel, by decide +kernel⟩
abbrev s__law_digit : Stmt := top 27
noncomputable def g__law_digit : GS := (gSeq (gSet 2 (gBin oMod (gBin oIx (gVar 0) (gC (.int 0))) (gVar 1)))
  (gSeq (gSetI (gBin oFdiv (gBin oIx (gVar 0) (gC (.int 0))) (gVar 1)) (gVar 0) (gC (.int 0)))
  (gRet (gVar 2))))
noncomputable def F__law_digit : List Wv → Hs → Re Wv := fnF 3 g__law_digit
noncomputable def c__law_digit : Ct where
  N := ["row", "many", "digit"]
  names := (defScope s__law_digit).names
  consts := []
  bl := []
  fns := []
  tb := tbl
  tt := tblT
  tc := tblC
  clss := []
  cln := []
  dcs := []
  dts := []
  dks := []
theorem r__law_digit : compS 30 (c__law_digit) (defBody s__law_digit) = g__law_digit := by kernel_rfl
theorem sc__law_digit : FnScope (c__law_digit).N ["row", "many"] (defScope s__law_digit) := ⟨rfl, rfl, rfl, by decide +kernel, rfl, by decide +kernel, by decide +kernel⟩
abbrev s__law_nodes : Stmt := top 28
noncomputable def g__law_nodes_L1 : GS := (gSeq (gSetT [3, 4] (gBin oIx (gVar 1) (gVar 2)))
  (gSeq (gSet 2 (gBin oAdd (gVar 2) (gC (.int 1))))
  (gIf (gTst (gBin oGt (gBin oSub (gVar 4) (gVar 3)) (gC (.int 1)))) (gSeq (gSet 5 (gBin oFdiv (gBin oAdd (gVar 3) (gVar 4)) (gC (.int 2))))
    (gSet 1 (gBin oAdd (gVar 1) (gLst (gCons (gTup (gCons (gVar 3) (gCons (gVar 5) gNil))) (gCons (gTup (gCons (gVar 5) (gCons (gVar 4) gNil))) gNil)))))) gNext)))
noncomputable def g__law_nodes : GS := (gSeq (gSet 1 (gLst (gCons (gTup (gCons (gC (.int 0)) (gCons (gVar 0) gNil))) gNil)))
  (gSeq (gSet 2 (gC (.int 0)))
  (gSeq (gWhile wTurns (gTst (gBin oLt (gVar 2) (gCallB oLen (gCons (gVar 1) gNil)))) g__law_nodes_L1)
  (gRet (gVar 1)))))
noncomputable def F__law_nodes : List Wv → Hs → Re Wv := fnF 6 g__law_nodes
noncomputable def c__law_nodes : Ct where
  N := ["many", "found", "at", "low", "high", "middle"]
  names := (defScope s__law_nodes).names
  consts := []
  bl := ["len"]
  fns := []
  tb := tbl
  tt := tblT
  tc := tblC
  clss := []
  cln := []
  dcs := []
  dts := []
  dks := []
theorem r__law_nodes : compS 30 (c__law_nodes) (defBody s__law_nodes) = g__law_nodes := by kernel_rfl
theorem sc__law_nodes : FnScope (c__law_nodes).N ["many"] (defScope s__law_nodes) := ⟨rfl, rfl, rfl, by decide +kernel, rfl, by decide +kernel, by decide +kernel⟩
abbrev s__law_due : Stmt := top 32
noncomputable def g__law_due_L1 : GS := (gSeq (gSet 6 (gBin oFdiv (gBin oAdd (gBin oIx (gVar 5) (gC (.int 0))) (gBin oIx (gVar 5) (gC (.int 1)))) (gC (.int 2))))
  (gSeq (gIf (gTst (gBin oGt (gBin oSub (gBin oIx (gVar 5) (gC (.int 1))) (gBin oIx (gVar 5) (gC (.int 0)))) (gC (.int 1)))) (gSeq (gDPut (gVar 5) (gVar 4) (gTup (gCons (gBin oIx (gVar 5) (gC (.int 0))) (gCons (gVar 6) gNil))))
    (gDPut (gVar 5) (gVar 4) (gTup (gCons (gVar 6) (gCons (gBin oIx (gVar 5) (gC (.int 1))) gNil))))) gNext)
  (gSeq (gSet 7 (gDGet (gVar 4) (gVar 5)))
  (gSeq (gSet 8 (gAndV (gBin oLe (gVar 1) (gBin oIx (gVar 5) (gC (.int 0)))) (gBin oLe (gBin oIx (gVar 5) (gC (.int 1))) (gVar 2))))
  (gIf (gAnd (gTru (gVar 8)) (gOr (gTst (gBin oIs (gVar 7) (gC .non))) (gOr (gTst (gBin oLt (gBin oIx (gVar 7) (gC (.int 0))) (gVar 1))) (gTst (gBin oLt (gVar 2) (gBin oIx (gVar 7) (gC (.int 1)))))))) (gExpr (gMeth mApp (gVar 3) (gVar 5))) gNext)))))
noncomputable def g__law_due : GS := (gSeq (gSet 3 (gLst gNil))
  (gSeq (gSet 4 (gDispT [((gTup (gCons (gC (.int 0)) (gCons (gVar 0) gNil))), (gC .non))]))
  (gSeq (gFor 5 (gCall 1 F__law_nodes (gCons (gVar 0) gNil)) g__law_due_L1)
  (gRet (gCallB oSrt2 (gCons (gVar 3) gNil))))))
noncomputable def F__law_due : List Wv → Hs → Re Wv := fnF 9 g__law_due
noncomputable def c__law_due : Ct where
  N := ["many", "low", "high", "found", "parents", "node", "middle", "above", "inside"]
  names := (defScope s__law_due).names
  consts := []
  bl := ["sorted"]
  fns := [("_law_nodes", 1, F__law_nodes)]
  tb := tbl
  tt := tblT
  tc := tblC
  clss := []
  cln := []
  dcs := []
  dts := ["parents"]
  dks := []
theorem r__law_due : compS 30 (c__law_due) (defBody s__law_due) = g__law_due := by kernel_rfl
theorem sc__law_due : FnScope (c__law_due).N ["many", "low", "high"] (defScope s__law_due) := ⟨rfl, rfl, rfl, by decide +kernel, rfl, by decide +kernel, by decide +kernel⟩
abbrev s__law_halvings : Stmt := top 33
noncomputable def g__law_halvings_L1 : GS := (gSeq (gSet 4 (gBin oFdiv (gBin oAdd (gBin oIx (gVar 3) (gC (.int 0))) (gBin oIx (gVar 3) (gC (.int 1)))) (gC (.int 2))))
  (gSeq (gSet 3 (gIfE (gTst (gBin oLe (gBin oIx (gVar 1) (gC (.int 1))) (gVar 4))) (gTup (gCons (gBin oIx (gVar 3) (gC (.int 0))) (gCons (gVar 4) gNil))) (gTup (gCons (gVar 4) (gCons (gBin oIx (gVar 3) (gC (.int 1))) gNil)))))
  (gSet 2 (gBin oAdd (gVar 2) (gC (.int 1))))))
noncomputable def g__law_halvings : GS := (gSeq (gSet 2 (gC (.int 0)))
  (gSeq (gSet 3 (gTup (gCons (gC (.int 0)) (gCons (gVar 0) gNil))))
  (gSeq (gWhile wTurns (gTst (gBin oNe (gVar 3) (gVar 1))) g__law_halvings_L1)
  (gRet (gVar 2)))))
noncomputable def F__law_halvings : List Wv → Hs → Re Wv := fnF 5 g__law_halvings
noncomputable def c__law_halvings : Ct where
  N := ["many", "node", "found", "here", "middle"]
  names := (defScope s__law_halvings).names
  consts := []
  bl := []
  fns := []
  tb := tbl
  tt := tblT
  tc := tblC
  clss := []
  cln := []
  dcs := []
  dts := []
  dks := []
theorem r__law_halvings : compS 30 (c__law_halvings) (defBody s__law_halvings) = g__law_halvings := by kernel_rfl
theorem sc__law_halvings : FnScope (c__law_halvings).N ["many", "node"] (defScope s__law_halvings) := ⟨rfl, rfl, rfl, by decide +kernel, rfl, by decide +kernel, by decide +kernel⟩
abbrev s__law_told : Stmt := top 34
noncomputable def g__law_told_C1t : GT := (gTst (gBin oGt (gAlt (gMethS mCount (gVar 1) (gCons (gVar 0) gNil)) (gMeth mLCount (gVar 1) (gVar 0))) (gC (.int 2))))
noncomputable def g__law_told_C1e : GE := (gVar 0)
noncomputable def g__law_told_C2t : GT := (fun _ st => .ok true st)
noncomputable def g__law_told_C2e : GE := (gCall 2 F__law_halvings (gCons (gVar 1) (gCons (gVar 0) gNil)))
noncomputable def g__law_told_L1 : GS := (gIf (gTst (gBin oNe (gBin oIx (gBin oIx (gVar 4) (gBin oSub (gVar 5) (gC (.int 1)))) (gC (.int 1))) (gBin oIx (gBin oIx (gVar 4) (gVar 5)) (gC (.int 0))))) (gRet (gC (.bl false))) gNext)
noncomputable def g__law_told : GS := (gSeq (gSet 3 (gCall 3 F__law_due (gCons (gVar 0) (gCons (gVar 1) (gCons (gVar 2) gNil)))))
  (gSeq (gSet 4 (gCall 3 F_cover (gCons (gVar 0) (gCons (gVar 1) (gCons (gVar 2) gNil)))))
  (gSeq (gIf (gOr (gNot (gTru (gCallB (oIsA tbl tblT) (gCons (gVar 4) (gCons (gC (.ty "list")) gNil))))) (gOr (gTst (gBin oNe (gVar 4) (gVar 3))) (gOr (gTst (gBin oNe (gBin oIx (gBin oIx (gVar 4) (gC (.int 0))) (gC (.int 0))) (gVar 1))) (gTst (gBin oNe (gBin oIx (gBin oIx (gVar 4) (gUn opNeg (gC (.int 1)))) (gC (.int 1))) (gVar 2)))))) (gRet (gC (.bl false))) gNext)
  (gSeq (gForR2 5 (gCons (gC (.int 1)) (gCons (gCallB oLen (gCons (gVar 4) gNil)) gNil)) g__law_told_L1)
  (gSeq (gSet 6 (gComp [("many", 0)] (giSeq2 (gVar 4)) g__law_told_C2t g__law_told_C2e))
  (gSeq (gIf (gTst (gBin oGt (gCallB oLen (gCons (gComp [("deep", 6)] (giSeq2 (gVar 6)) g__law_told_C1t g__law_told_C1e) gNil)) (gC (.int 0)))) (gRet (gC (.bl false))) gNext)
  (gSeq (gExpr (gMeth mApp (gVar 4) (gTup (gCons (gC (.int 0)) (gCons (gVar 0) gNil)))))
  (gRet (gBin oEq (gCall 3 F_cover (gCons (gVar 0) (gCons (gVar 1) (gCons (gVar 2) gNil)))) (gVar 3))))))))))
noncomputable def F__law_told : List Wv → Hs → Re Wv := fnF 7 g__law_told
noncomputable def c__law_told : Ct where
  N := ["many", "low", "high", "due", "found", "k", "deep"]
  names := (defScope s__law_told).names
  consts := []
  bl := ["range", "len", "isinstance", "list"]
  fns := [("_law_due", 3, F__law_due), ("cover", 3, F_cover), ("_law_halvings", 2, F__law_halvings)]
  tb := tbl
  tt := tblT
  tc := tblC
  clss := []
  cln := []
  dcs := []
  dts := []
  dks := []
theorem r__law_told : compS 30 (c__law_told) (defBody s__law_told) = g__law_told := by kernel_rfl
theorem sc__law_told : FnScope (c__law_told).N ["many", "low", "high"] (defScope s__law_told) := ⟨rfl, rfl, rfl, by decide +kernel, rfl, by decide +kernel, by decide +kernel⟩
abbrev s_law : Stmt := top 36
noncomputable def g_law_L1 : GS := (gIf (gNot (gTru (gCall 3 F__law_told (gCons (gVar 2) (gCons (gVar 6) (gCons (gVar 7) gNil)))))) (gRet (gC (.bl false))) gNext)
noncomputable def g_law_C1t : GT := (gTst (gChain oLt oLe (gBin oFdiv (gVar 0) (gC (.int 10))) (gBin oMod (gVar 0) (gC (.int 10))) (gVar 1)))
noncomputable def g_law_C1e : GE := (gTup (gCons (gBin oFdiv (gVar 0) (gC (.int 10))) (gCons (gBin oMod (gVar 0) (gC (.int 10))) gNil)))
noncomputable def g_law_L2 : GS := (gSeq (gSet 5 (gCall 2 F__law_row_of (gCons (gVar 0) (gCons (gBin oAdd (gVar 4) (gC (.int 1))) gNil))))
  (gSeq (gSet 6 (gCall 2 F__law_digit (gCons (gVar 5) (gCons (gVar 2) gNil))))
  (gExpr (gMeth mApp (gVar 3) (gTup (gCons (gVar 6) (gCons (gBin oAdd (gBin oAdd (gVar 6) (gC (.int 1))) (gCall 2 F__law_digit (gCons (gVar 5) (gCons (gBin oSub (gVar 2) (gVar 6)) gNil)))) gNil)))))))
noncomputable def g_law : GS := (gSeq (gSet 1 (gCall 2 F__law_cell_at (gCons (gVar 0) (gCons (gC (.int 0)) gNil))))
  (gSeq (gSet 2 (gBin oAdd (gC (.int 1)) (gBin oMod (gBin oFdiv (gVar 1) (gC (.int 2))) (gC (.int 99)))))
  (gSeq (gSet 3 (gLst (gCons (gTup (gCons (gC (.int 0)) (gCons (gVar 2) gNil))) (gCons (gTup (gCons (gC (.int 0)) (gCons (gC (.int 1)) gNil))) (gCons (gTup (gCons (gBin oSub (gVar 2) (gC (.int 1))) (gCons (gVar 2) gNil))) gNil)))))
  (gSeq (gForR1 4 (gCons (gC (.int 12)) gNil) g_law_L2)
  (gSeq (gIf (gTst (gBin oLt (gVar 2) (gC (.int 10)))) (gSet 3 (gComp [("many", 2)] (giR1 (gCons (gC (.int 100)) gNil)) g_law_C1t g_law_C1e)) gNext)
  (gSeq (gForB [6, 7] (gVar 3) g_law_L1)
  (gRet (gCall 2 F__law_refused (gCons (gVar 2) (gCons (gBin oMod (gCallB oSum (gCons (gVar 0) gNil)) (gBin oPow (gC (.int 10)) (gC (.int 30)))) gNil))))))))))
noncomputable def F_law : List Wv → Hs → Re Wv := fnF 8 g_law
noncomputable def c_law : Ct where
  N := ["script", "head", "many", "stretches", "k", "row", "low", "high"]
  names := (defScope s_law).names
  consts := []
  bl := ["range", "sum"]
  fns := [("_law_cell_at", 2, F__law_cell_at), ("_law_refused", 2, F__law_refused), ("_law_row_of", 2, F__law_row_of), ("_law_digit", 2, F__law_digit), ("_law_told", 3, F__law_told)]
  tb := tbl
  tt := tblT
  tc := tblC
  clss := []
  cln := []
  dcs := []
  dts := []
  dks := []
theorem r_law : compS 30 (c_law) (defBody s_law) = g_law := by kernel_rfl
theorem sc_law : FnScope (c_law).N ["script"] (defScope s_law) := ⟨rfl, rfl, rfl, by decide +kernel, rfl, by decide +kernel, by decide +kernel⟩
end K81
namespace K81
open PySem J
abbrev Nd := Int × Int
def md (a b : Int) : Int := (a + b) / 2
theorem fd2 (x : Int) : x.fdiv 2 = x / 2 := Int.fdiv_eq_ediv_of_nonneg x (by decide)
theorem md_in {a b : Int} (h : 1 < b - a) : a < md a b ∧ md a b < b := by unfold md; omega
theorem md_w {a b : Int} {n : Nat} (h : b - a ≤ 2 ^ (n + 1)) : md a b - a ≤ 2 ^ n ∧ b - md a b ≤ 2 ^ n := by
  have e : (2 : Int) ^ (n + 1) = 2 ^ n * 2 := Int.pow_succ 2 n
  unfold md; omega
def cd (lo hi : Int) : Nat → Int → Int → Int → List (Nd × Int)
  | 0, _, _, _ => []
  | n + 1, d, a, b => if hi ≤ a ∨ b ≤ lo then [] else if lo ≤ a ∧ b ≤ hi then [((a, b), d)] else cd lo hi n (d + 1) a (md a b) ++ cd lo hi n (d + 1) (md a b) b
def cov (lo hi : Int) (n : Nat) (a b : Int) : List Nd := (cd lo hi n 0 a b).map (·.1)
section
variable {lo hi : Int}
theorem cd_out {n : Nat} {d a b : Int} (h : hi ≤ a ∨ b ≤ lo) : cd lo hi n d a b = [] := by
  cases n with
  | zero => rfl
  | succ n => unfold cd; rw [if_pos h]
theorem cd_in {n : Nat} {d a b : Int} (h : ¬ (hi ≤ a ∨ b ≤ lo)) (k : lo ≤ a ∧ b ≤ hi) : cd lo hi (n + 1) d a b = [((a, b), d)] := by unfold cd; rw [if_neg h, if_pos k]
theorem cd_two {n : Nat} {d a b : Int} (h : ¬ (hi ≤ a ∨ b ≤ lo)) (k : ¬ (lo ≤ a ∧ b ≤ hi)) : cd lo hi (n + 1) d a b = cd lo hi n (d + 1) a (md a b) ++ cd lo hi n (d + 1) (md a b) b := by rw [cd, if_neg h, if_neg k]
theorem cd_fst : ∀ (n : Nat) (d e a b : Int), (cd lo hi n d a b).map (·.1) = (cd lo hi n e a b).map (·.1)
  | 0, _, _, _, _ => rfl
  | n + 1, d, e, a, b => by
    by_cases h : hi ≤ a ∨ b ≤ lo
    · rw [cd_out h, cd_out h]
    · by_cases k : lo ≤ a ∧ b ≤ hi
      · rw [cd_in h k, cd_in h k]; rfl
      · rw [cd_two h k, cd_two h k, List.map_append, List.map_append, cd_fst n (d + 1) (e + 1) a, cd_fst n (d + 1) (e + 1) (md a b)]
theorem wide {a b : Int} (h : ¬ (hi ≤ a ∨ b ≤ lo)) (k : ¬ (lo ≤ a ∧ b ≤ hi)) : 1 < b - a := by omega
theorem cov_out {n : Nat} {a b : Int} (h : hi ≤ a ∨ b ≤ lo) : cov lo hi n a b = [] := by unfold cov; rw [cd_out h]; rfl
theorem cov_in {n : Nat} {a b : Int} (h : ¬ (hi ≤ a ∨ b ≤ lo)) (k : lo ≤ a ∧ b ≤ hi) : cov lo hi (n + 1) a b = [(a, b)] := by unfold cov; rw [cd_in h k]; rfl
theorem cov_two {n : Nat} {a b : Int} (h : ¬ (hi ≤ a ∨ b ≤ lo)) (k : ¬ (lo ≤ a ∧ b ≤ hi)) : cov lo hi (n + 1) a b = cov lo hi n a (md a b) ++ cov lo hi n (md a b) b := by
  unfold cov; rw [cd_two h k, List.map_append, cd_fst n (0 + 1) 0 a, cd_fst n (0 + 1) 0 (md a b)]
def Ch (s : Int) : List Nd → Int → Prop
  | [], e => s = e
  | x :: r, e => x.1 = s ∧ x.1 < x.2 ∧ Ch x.2 r e
theorem Ch.app {s m e : Int} : ∀ {l r : List Nd}, Ch s l m → Ch m r e → Ch s (l ++ r) e
  | [], _, h, k => by cases h; exact k
  | x :: l, r, h, k => ⟨h.1, h.2.1, Ch.app h.2.2 k⟩
theorem cov_ch (hl : lo < hi) : ∀ (n : Nat) {a b : Int}, a < b → b - a ≤ 2 ^ n → ¬ (hi ≤ a ∨ b ≤ lo) → Ch (max a lo) (cov lo hi (n + 1) a b) (min b hi)
  | n, a, b, h1, h2, h3 => by
    by_cases k : lo ≤ a ∧ b ≤ hi
    · rw [cov_in h3 k]
      exact ⟨by show a = _; omega, h1, by show b = _; omega⟩
    · have w := wide h3 k
      obtain ⟨m1, m2⟩ := md_in w
      cases n with
      | zero => exfalso; have : (2 : Int) ^ 0 = 1 := rfl; omega
      | succ n =>
        obtain ⟨w1, w2⟩ := md_w h2
        rw [cov_two h3 k]
        by_cases c1 : hi ≤ md a b
        · rw [cov_out (a := md a b) (.inl c1), List.append_nil]
          have := cov_ch hl n (a := a) (b := md a b) m1 w1 (by omega)
          rw [show min (md a b) hi = min b hi by omega] at this
          exact this
        · by_cases c2 : md a b ≤ lo
          · rw [cov_out (b := md a b) (.inr c2), List.nil_append]
            have := cov_ch hl n (a := md a b) (b := b) m2 w2 (by omega)
            rw [show max (md a b) lo = max a lo by omega] at this
            exact this
          · have t1 := cov_ch hl n (a := a) (b := md a b) m1 w1 (by omega)
            have t2 := cov_ch hl n (a := md a b) (b := b) m2 w2 (by omega)
            rw [show min (md a b) hi = md a b by omega] at t1
            rw [show max (md a b) lo = md a b by omega] at t2
            exact t1.app t2
def deps (l : List (Nd × Int)) : List Int := l.map (·.2)
theorem deps_app {x y : List (Nd × Int)} : deps (x ++ y) = deps x ++ deps y := List.map_append
theorem cd_ge : ∀ (n : Nat) (d a b : Int), ∀ x ∈ deps (cd lo hi n d a b), d ≤ x
  | 0, _, _, _, x, h => by cases h
  | n + 1, d, a, b, x, h => by
    by_cases h1 : hi ≤ a ∨ b ≤ lo
    · rw [cd_out h1] at h; cases h
    · by_cases k : lo ≤ a ∧ b ≤ hi
      · rw [cd_in h1 k] at h
        rw [List.mem_singleton.mp h]; exact Int.le_refl _
      · rw [cd_two h1 k, deps_app] at h
        rcases List.mem_append.mp h with z | z
        · have := cd_ge n _ _ _ x z; omega
        · have := cd_ge n _ _ _ x z; omega
theorem cd_gt {n : Nat} {d a b : Int} (k : ¬ (lo ≤ a ∧ b ≤ hi)) : ∀ x ∈ deps (cd lo hi n d a b), d < x := fun x h => by
  cases n with
  | zero => cases h
  | succ n =>
    by_cases h1 : hi ≤ a ∨ b ≤ lo
    · rw [cd_out h1] at h; cases h
    · rw [cd_two h1 k, deps_app] at h
      rcases List.mem_append.mp h with z | z
      · have := cd_ge n _ _ _ x z; omega
      · have := cd_ge n _ _ _ x z; omega
theorem count_no {l : List Int} {d j : Int} (h : ∀ x ∈ l, d < x) (k : j ≤ d) : l.count j = 0 := List.count_eq_zero.mpr fun z => by have := h j z; omega
theorem cd_edge {n : Nat} {d a b j : Int} (k : lo ≤ a ∧ b ≤ hi) : (deps (cd lo hi n d a b)).count j ≤ (if j = d then 1 else 0) := by
  cases n with
  | zero => exact Nat.zero_le _
  | succ n =>
    by_cases h1 : hi ≤ a ∨ b ≤ lo
    · rw [cd_out h1]; exact Nat.zero_le _
    · rw [cd_in h1 k]
      show [d].count j ≤ _
      rw [List.count_singleton]
      by_cases e : j = d
      · rw [if_pos e]; split <;> omega
      · rw [if_neg e, if_neg (by simpa using Ne.symm e)]; omega
theorem cd_pre : ∀ (n : Nat) (d a b j : Int), lo ≤ a → a ≤ b → (deps (cd lo hi n d a b)).count j ≤ 1 ∧ (cd lo hi n d a b).length ≤ n
  | 0, _, _, _, _, _, _ => ⟨Nat.zero_le _, Nat.zero_le _⟩
  | n + 1, d, a, b, j, h, hab => by
    by_cases h1 : hi ≤ a ∨ b ≤ lo
    · rw [cd_out h1]; exact ⟨Nat.zero_le _, Nat.zero_le _⟩
    · by_cases k : lo ≤ a ∧ b ≤ hi
      · have e := cd_edge (n := n + 1) (d := d) (j := j) k
        rw [cd_in h1 k] at e ⊢
        refine ⟨Nat.le_trans e (by split <;> omega), by simp⟩
      · obtain ⟨m1, m2⟩ := md_in (wide h1 k)
        rw [cd_two h1 k, deps_app, List.count_append, List.length_append]
        by_cases c : hi ≤ md a b
        · rw [cd_out (a := md a b) (.inl c)]
          have := cd_pre n (d + 1) a (md a b) j h (by omega)
          simp [deps] at this ⊢
          omega
        · have e1 := cd_edge (lo := lo) (hi := hi) (n := n) (d := d + 1) (a := a) (b := md a b) (j := j) ⟨h, by omega⟩
          have l1 : (cd lo hi n (d + 1) a (md a b)).length ≤ 1 := by
            cases n with
            | zero => exact Nat.zero_le _
            | succ n =>
              by_cases o : hi ≤ a ∨ md a b ≤ lo
              · rw [cd_out o]; exact Nat.zero_le _
              · rw [cd_in o ⟨h, by omega⟩]; exact Nat.le_refl _
          have t := cd_pre n (d + 1) (md a b) b j (by omega) (by omega)
          have g := cd_gt (lo := lo) (hi := hi) (n := n) (d := d + 1) (a := md a b) (b := b) (by omega)
          refine ⟨?_, by omega⟩
          by_cases e : j = d + 1
          · rw [count_no g (by omega)]
            rw [if_pos e] at e1
            omega
          · rw [if_neg e] at e1
            omega
theorem cd_suf : ∀ (n : Nat) (d a b j : Int), b ≤ hi → a ≤ b → (deps (cd lo hi n d a b)).count j ≤ 1 ∧ (cd lo hi n d a b).length ≤ n
  | 0, _, _, _, _, _, _ => ⟨Nat.zero_le _, Nat.zero_le _⟩
  | n + 1, d, a, b, j, h, hab => by
    by_cases h1 : hi ≤ a ∨ b ≤ lo
    · rw [cd_out h1]; exact ⟨Nat.zero_le _, Nat.zero_le _⟩
    · by_cases k : lo ≤ a ∧ b ≤ hi
      · have e := cd_edge (n := n + 1) (d := d) (j := j) k
        rw [cd_in h1 k] at e ⊢
        refine ⟨Nat.le_trans e (by split <;> omega), by simp⟩
      · obtain ⟨m1, m2⟩ := md_in (wide h1 k)
        rw [cd_two h1 k, deps_app, List.count_append, List.length_append]
        by_cases c : md a b ≤ lo
        · rw [cd_out (b := md a b) (.inr c)]
          have := cd_suf n (d + 1) (md a b) b j h (by omega)
          simp [deps] at this ⊢
          omega
        · have e1 := cd_edge (lo := lo) (hi := hi) (n := n) (d := d + 1) (a := md a b) (b := b) (j := j) ⟨by omega, h⟩
          have l1 : (cd lo hi n (d + 1) (md a b) b).length ≤ 1 := by
            cases n with
            | zero => exact Nat.zero_le _
            | succ n =>
              by_cases o : hi ≤ md a b ∨ b ≤ lo
              · rw [cd_out o]; exact Nat.zero_le _
              · rw [cd_in o ⟨by omega, h⟩]; exact Nat.le_refl _
          have t := cd_suf n (d + 1) a (md a b) j (by omega) (by omega)
          have g := cd_gt (lo := lo) (hi := hi) (n := n) (d := d + 1) (a := a) (b := md a b) (by omega)
          refine ⟨?_, by omega⟩
          by_cases e : j = d + 1
          · rw [count_no g (by omega)]
            rw [if_pos e] at e1
            omega
          · rw [if_neg e] at e1
            omega
theorem cd_all : ∀ (n : Nat) (d a b j : Int), a ≤ b → (deps (cd lo hi n d a b)).count j ≤ 2 ∧ (cd lo hi n d a b).length ≤ 2 * n
  | 0, _, _, _, _, _ => ⟨Nat.zero_le _, Nat.zero_le _⟩
  | n + 1, d, a, b, j, hab => by
    by_cases h1 : hi ≤ a ∨ b ≤ lo
    · rw [cd_out h1]; exact ⟨Nat.zero_le _, Nat.zero_le _⟩
    · by_cases k : lo ≤ a ∧ b ≤ hi
      · have e := cd_edge (n := n + 1) (d := d) (j := j) k
        rw [cd_in h1 k] at e ⊢
        refine ⟨Nat.le_trans e (by split <;> omega), by simp; omega⟩
      · obtain ⟨m1, m2⟩ := md_in (wide h1 k)
        rw [cd_two h1 k, deps_app, List.count_append, List.length_append]
        by_cases c : hi ≤ md a b
        · rw [cd_out (a := md a b) (.inl c)]
          have := cd_all n (d + 1) a (md a b) j (by omega)
          simp [deps] at this ⊢
          omega
        · by_cases c2 : md a b ≤ lo
          · rw [cd_out (b := md a b) (.inr c2)]
            have := cd_all n (d + 1) (md a b) b j (by omega)
            simp [deps] at this ⊢
            omega
          · have t1 := cd_suf (lo := lo) (hi := hi) n (d + 1) a (md a b) j (by omega) (by omega)
            have t2 := cd_pre (lo := lo) (hi := hi) n (d + 1) (md a b) b j (by omega) (by omega)
            omega
end
abbrev An := Nd × Option Nd
def ks (x : An) : List An := if 1 < x.1.2 - x.1.1 then [((x.1.1, md x.1.1 x.1.2), some x.1), ((md x.1.1 x.1.2, x.1.2), some x.1)] else []
theorem ks_mem {x y : An} (h : y ∈ ks x) : 1 < x.1.2 - x.1.1 ∧ y.2 = some x.1 ∧ x.1.1 ≤ y.1.1 ∧ y.1.1 < y.1.2 ∧ y.1.2 ≤ x.1.2 ∧ y.1.2 - y.1.1 < x.1.2 - x.1.1 := by
  unfold ks at h
  by_cases w : 1 < x.1.2 - x.1.1
  · rw [if_pos w] at h
    obtain ⟨m1, m2⟩ := md_in w
    simp only [List.mem_cons, List.not_mem_nil, or_false] at h
    rcases h with rfl | rfl
    · exact ⟨w, rfl, Int.le_refl _, m1, by show md x.1.1 x.1.2 ≤ _; omega, by show md x.1.1 x.1.2 - x.1.1 < _; omega⟩
    · exact ⟨w, rfl, by show _ ≤ md x.1.1 x.1.2; omega, m2, Int.le_refl _, by show x.1.2 - md x.1.1 x.1.2 < _; omega⟩
  · rw [if_neg w] at h; cases h
theorem ks_w {x y : An} {n : Nat} (h : y ∈ ks x) (k : x.1.2 - x.1.1 ≤ 2 ^ (n + 1)) : y.1.2 - y.1.1 ≤ 2 ^ n := by
  unfold ks at h
  by_cases w : 1 < x.1.2 - x.1.1
  · rw [if_pos w] at h
    obtain ⟨m1, m2⟩ := md_w k
    simp only [List.mem_cons, List.not_mem_nil, or_false] at h
    rcases h with rfl | rfl
    · exact m1
    · exact m2
  · rw [if_neg w] at h; cases h
def tr : Nat → An → List An
  | 0, x => [x]
  | n + 1, x => x :: (ks x).flatMap (tr n)
theorem ks_0 {x : An} (h : x.1.2 - x.1.1 ≤ 1) : ks x = [] := by unfold ks; rw [if_neg (by omega)]
theorem fm_congr {α β : Type} {f g : α → List β} : ∀ {l : List α}, (∀ y ∈ l, f y = g y) → l.flatMap f = l.flatMap g
  | [], _ => rfl
  | x :: l, h => by rw [List.flatMap_cons, List.flatMap_cons, h x List.mem_cons_self, fm_congr fun y hy => h y (List.mem_cons_of_mem _ hy)]
theorem tr_same : ∀ (n : Nat) {x : An}, x.1.2 - x.1.1 ≤ 2 ^ n → tr (n + 1) x = tr n x
  | 0, x, h => by
    have e : (2 : Int) ^ 0 = 1 := rfl
    show x :: (ks x).flatMap _ = [x]
    rw [ks_0 (by omega)]; rfl
  | n + 1, x, h => by
    show x :: (ks x).flatMap (tr (n + 1)) = x :: (ks x).flatMap (tr n)
    congr 1
    exact fm_congr fun y hy => tr_same n (ks_w hy h)
abbrev T (x : An) : List An := tr 7 x
def Wd (x : An) : Prop := x.1.1 < x.1.2 ∧ x.1.2 - x.1.1 ≤ 2 ^ 7
theorem T_eq {x : An} (h : Wd x) : T x = x :: (ks x).flatMap T := (tr_same 7 h.2).symm
theorem ks_wd {x y : An} (h : Wd x) (k : y ∈ ks x) : Wd y := let ⟨_, _, _, h4, _, h6⟩ := ks_mem k; ⟨h4, by have := h.2; omega⟩
theorem tr_in : ∀ (n : Nat) {x y : An}, x.1.1 < x.1.2 → y ∈ tr n x → x.1.1 ≤ y.1.1 ∧ y.1.1 < y.1.2 ∧ y.1.2 ≤ x.1.2
  | 0, x, y, h, k => by rw [List.mem_singleton.mp k]; exact ⟨Int.le_refl _, h, Int.le_refl _⟩
  | n + 1, x, y, h, k => by
    rcases List.mem_cons.mp k with rfl | k
    · exact ⟨Int.le_refl _, h, Int.le_refl _⟩
    · obtain ⟨z, hz, hy⟩ := List.mem_flatMap.mp k
      obtain ⟨_, _, a3, a4, a5, _⟩ := ks_mem hz
      obtain ⟨b1, b2, b3⟩ := tr_in n a4 hy
      omega
theorem tr_len : ∀ (n : Nat) (x : An), (tr n x).length + 1 ≤ 2 ^ (n + 1)
  | 0, x => by simp [tr]
  | n + 1, x => by
    have e : 2 ^ (n + 2) = 2 ^ (n + 1) * 2 := Nat.pow_succ ..
    have p : 2 ^ (n + 1) ≥ 1 := Nat.one_le_two_pow
    show (x :: (ks x).flatMap (tr n)).length + 1 ≤ _
    unfold ks
    split
    · have h1 := tr_len n ((x.1.1, md x.1.1 x.1.2), some x.1)
      have h2 := tr_len n ((md x.1.1 x.1.2, x.1.2), some x.1)
      simp
      omega
    · simp; omega
theorem tr_nodup : ∀ (n : Nat) {x : An}, x.1.1 < x.1.2 → ((tr n x).map (·.1)).Nodup
  | 0, x, h => by simp [tr]
  | n + 1, x, h => by
    show ((x :: (ks x).flatMap (tr n)).map (·.1)).Nodup
    by_cases w : 1 < x.1.2 - x.1.1
    · obtain ⟨m1, m2⟩ := md_in w
      have e : ks x = [((x.1.1, md x.1.1 x.1.2), some x.1), ((md x.1.1 x.1.2, x.1.2), some x.1)] := by unfold ks; rw [if_pos w]
      rw [e]
      simp only [List.flatMap_cons, List.flatMap_nil, List.append_nil, List.map_cons, List.map_append, List.nodup_cons, List.nodup_append]
      have n1 := tr_nodup n (x := ((x.1.1, md x.1.1 x.1.2), some x.1)) m1
      have n2 := tr_nodup n (x := ((md x.1.1 x.1.2, x.1.2), some x.1)) m2
      have i1 : ∀ p ∈ (tr n ((x.1.1, md x.1.1 x.1.2), some x.1)).map (·.1), p.1 < p.2 ∧ p.2 ≤ md x.1.1 x.1.2 := fun p hp => by
        obtain ⟨y, hy, rfl⟩ := List.mem_map.mp hp
        obtain ⟨_, b2, b3⟩ := tr_in n m1 hy
        exact ⟨b2, b3⟩
      have i2 : ∀ p ∈ (tr n ((md x.1.1 x.1.2, x.1.2), some x.1)).map (·.1), p.1 < p.2 ∧ md x.1.1 x.1.2 ≤ p.1 := fun p hp => by
        obtain ⟨y, hy, rfl⟩ := List.mem_map.mp hp
        obtain ⟨b1, b2, _⟩ := tr_in n m2 hy
        exact ⟨b2, b1⟩
      refine ⟨fun z => ?_, n1, n2, fun p hp q hq e => ?_⟩
      · rcases List.mem_append.mp z with z | z
        · have := i1 _ z; omega
        · have := i2 _ z; omega
      · have a1 := i1 p hp
        have a2 := i2 q hq
        rw [e] at a1
        omega
    · have e : ks x = [] := by unfold ks; rw [if_neg w]
      rw [e]
      simp
section
variable {lo hi : Int}
def Ps (lo hi : Int) (x : An) : Bool := (decide (lo ≤ x.1.1) && decide (x.1.2 ≤ hi)) && (match x.2 with
  | none => true
  | some p => decide (p.1 < lo) || decide (hi < p.2))
theorem Ps_no {x : An} (h : ¬ (lo ≤ x.1.1 ∧ x.1.2 ≤ hi)) : Ps lo hi x = false := by
  unfold Ps
  have : (decide (lo ≤ x.1.1) && decide (x.1.2 ≤ hi)) = false := by simp; omega
  rw [this]; rfl
theorem sel_up : ∀ (n : Nat) {x : An}, x.1.1 < x.1.2 → (∃ p, x.2 = some p ∧ lo ≤ p.1 ∧ p.2 ≤ hi ∧ p.1 ≤ x.1.1 ∧ x.1.2 ≤ p.2) → (tr n x).filter (Ps lo hi) = []
  | n, x, h, ⟨p, e, h1, h2, h3, h4⟩ => by
    have z : Ps lo hi x = false := by
      unfold Ps
      rw [e]
      simp
      omega
    cases n with
    | zero => show [x].filter _ = []; rw [List.filter_cons_of_neg (by rw [z]; simp)]; rfl
    | succ n =>
      show (x :: (ks x).flatMap (tr n)).filter _ = []
      rw [List.filter_cons_of_neg (by rw [z]; simp), List.filter_flatMap]
      refine List.flatMap_eq_nil_iff.mpr fun y hy => ?_
      obtain ⟨a1, a2, a3, a4, a5, a6⟩ := ks_mem hy
      exact sel_up n a4 ⟨x.1, a2, by omega, by omega, a3, a5⟩
theorem sel_out (n : Nat) {x : An} (h : x.1.1 < x.1.2) (k : hi ≤ x.1.1 ∨ x.1.2 ≤ lo) : (tr n x).filter (Ps lo hi) = [] :=
  List.filter_eq_nil_iff.mpr fun y hy => by
    obtain ⟨b1, b2, b3⟩ := tr_in n h hy
    rw [Ps_no (by omega)]; simp
theorem sel (hl : lo < hi) : ∀ (n : Nat) {x : An}, x.1.1 < x.1.2 → x.1.2 - x.1.1 ≤ 2 ^ n → (∀ p, x.2 = some p → p.1 < lo ∨ hi < p.2) → ((tr n x).filter (Ps lo hi)).map (·.1) = cov lo hi (n + 1) x.1.1 x.1.2
  | n, x, h, hw, hp => by
    by_cases o : hi ≤ x.1.1 ∨ x.1.2 ≤ lo
    · rw [sel_out n h o, cov_out o]; rfl
    · by_cases k : lo ≤ x.1.1 ∧ x.1.2 ≤ hi
      · rw [cov_in o k]
        have z : Ps lo hi x = true := by
          unfold Ps
          have e1 : (decide (lo ≤ x.1.1) && decide (x.1.2 ≤ hi)) = true := by simp; exact k
          rw [e1]
          cases q : x.2 with
          | none => rfl
          | some p =>
            have := hp p q
            simp
            exact this
        cases n with
        | zero => show ([x].filter _).map _ = _; rw [List.filter_cons_of_pos z]; rfl
        | succ n =>
          show ((x :: (ks x).flatMap (tr n)).filter _).map _ = _
          rw [List.filter_cons_of_pos z, List.filter_flatMap]
          have : (ks x).flatMap (fun y => (tr n y).filter (Ps lo hi)) = [] := List.flatMap_eq_nil_iff.mpr fun y hy => by
            obtain ⟨a1, a2, a3, a4, a5, a6⟩ := ks_mem hy
            exact sel_up n a4 ⟨x.1, a2, k.1, k.2, a3, a5⟩
          rw [this]; rfl
      · have w := wide o k
        cases n with
        | zero => exfalso; have : (2 : Int) ^ 0 = 1 := rfl; omega
        | succ n =>
          rw [cov_two o k]
          show ((x :: (ks x).flatMap (tr n)).filter _).map _ = _
          have e : ks x = [((x.1.1, md x.1.1 x.1.2), some x.1), ((md x.1.1 x.1.2, x.1.2), some x.1)] := by unfold ks; rw [if_pos w]
          obtain ⟨m1, m2⟩ := md_in w
          obtain ⟨w1, w2⟩ := md_w hw
          have pq : ∀ p, some x.1 = some p → p.1 < lo ∨ hi < p.2 := fun p z => by cases z; omega
          have s1 := sel hl n (x := ((x.1.1, md x.1.1 x.1.2), some x.1)) m1 w1 pq
          have s2 := sel hl n (x := ((md x.1.1 x.1.2, x.1.2), some x.1)) m2 w2 pq
          rw [List.filter_cons_of_neg (by rw [Ps_no k]; simp), e]
          simp only [List.flatMap_cons, List.flatMap_nil, List.append_nil, List.filter_append, List.map_append]
          rw [s1, s2]
end
inductive Run : List An → List An → List An → Prop
  | done {d : List An} : Run d [] d
  | next {d q l : List An} {x : An} : Run (d ++ [x]) (q ++ ks x) l → Run d (x :: q) l
theorem Run.perm {d q l : List An} (r : Run d q l) : (∀ y ∈ q, Wd y) → l.Perm (d ++ q.flatMap T) := by
  induction r with
  | done => intro _; simp
  | @next d q l x _ ih =>
    intro h
    have hx := h x List.mem_cons_self
    have p := ih fun y hy => by
      rcases List.mem_append.mp hy with z | z
      · exact h y (List.mem_cons_of_mem _ z)
      · exact ks_wd hx z
    refine p.trans ?_
    rw [List.append_assoc]
    refine List.Perm.append_left d ?_
    rw [List.flatMap_cons, T_eq hx, List.flatMap_append]
    show (x :: (q.flatMap T ++ (ks x).flatMap T)).Perm (x :: ((ks x).flatMap T ++ q.flatMap T))
    exact List.Perm.cons x List.perm_append_comm
theorem Run.pre {d q l : List An} (r : Run d q l) : ∃ z, l = d ++ q ++ z := by
  induction r with
  | done => exact ⟨[], by simp⟩
  | @next d q l x _ ih =>
    obtain ⟨z, e⟩ := ih
    exact ⟨ks x ++ z, by rw [e]; simp⟩
theorem Run.all {d q l : List An} (r : Run d q l) {t : An} : d ++ q = t :: d.flatMap ks → l = t :: l.flatMap ks := by
  induction r with
  | done => intro h; simpa using h
  | @next d q l x _ ih =>
    intro h
    refine ih ?_
    rw [List.flatMap_append]
    simp only [List.flatMap_cons, List.flatMap_nil, List.append_nil]
    rw [← List.cons_append, ← h]
    simp
theorem ix0 {p : Nd} {st : Hs} : oIx (pw p) (.int 0) st = .ok (.int p.1) st := ix_t rfl
theorem ix1 {p : Nd} {st : Hs} : oIx (pw p) (.int 1) st = .ok (.int p.2) st := ix_t rfl
theorem dv2 {x : Int} {st : Hs} : oFdiv (.int x) (.int 2) st = .ok (.int (x / 2)) st := by rw [fdiv_i ⟨by decide, by decide⟩, fd2]
theorem halves_of {p : Nd} {st : Hs} : F_halves_of [pw p] st = .ok (.ref st.length) (st ++ [.lst [pw (p.1, md p.1 p.2), pw (md p.1 p.2, p.2)]]) := by
  refine fn_rt (n := 2) (g := g_halves_of) ?_
  unfold g_halves_of
  simp [ix0, ix1, dv2]
  rfl
theorem cd_short {lo hi : Int} {n : Nat} {a b : Int} (h : a ≤ b) : (cov lo hi n a b).length ≤ 2 * n := by unfold cov; rw [List.length_map]; exact (cd_all n 0 a b 0 h).2
theorem covering {lo hi : Int} (hl : lo < hi) : ∀ (n : Nat) {a b : Int} (st : Hs), n ≤ 20 → a < b → b - a ≤ 2 ^ n → ∃ L st', R_covering (n + 1) [pw (a, b), .int lo, .int hi] st = .ok (.ref L) st' ∧ lstOf st' L = some ((cov lo hi (n + 1) a b).map pw) ∧ Gr st st' ∧ st.length ≤ L
  | n, a, b, st, hn, h1, h2 => by
    rw [R_covering_succ]
    by_cases o : hi ≤ a ∨ b ≤ lo
    · refine ⟨st.length, st ++ [.lst []], fn_rt (n := 4) (g := g_covering (R_covering n)) ?_, by rw [cov_out o]; exact lstOf_new, Gr.push, Nat.le_refl _⟩
      unfold g_covering
      by_cases o1 : hi ≤ a
      · simp [ix0, ix1, o1]
      · simp [ix0, ix1, o1, o.resolve_left o1]
    · have o1 : ¬ hi ≤ a := fun z => o (.inl z)
      have o2 : ¬ b ≤ lo := fun z => o (.inr z)
      by_cases k : lo ≤ a ∧ b ≤ hi
      · refine ⟨st.length, st ++ [.lst [pw (a, b)]], fn_rt (n := 4) (g := g_covering (R_covering n)) ?_, by rw [cov_in o k]; exact lstOf_new, Gr.push, Nat.le_refl _⟩
        unfold g_covering
        simp [ix0, ix1, o1, o2, k.1, k.2]
      · have w := wide o k
        obtain ⟨m1, m2⟩ := md_in w
        cases n with
        | zero => exfalso; have : (2 : Int) ^ 0 = 1 := rfl; omega
        | succ n =>
          obtain ⟨w1, w2⟩ := md_w h2
          have hh := halves_of (p := (a, b)) (st := st)
          have l0 : lstOf (st ++ [.lst [pw (a, md a b), pw (md a b, b)]]) st.length = some [pw (a, md a b), pw (md a b, b)] := lstOf_new
          have g0 : Gr st (st ++ [.lst [pw (a, md a b), pw (md a b, b)]]) := Gr.push
          dsimp only at hh
          generalize st ++ [.lst [pw (a, md a b), pw (md a b, b)]] = s0 at hh l0 g0
          obtain ⟨L1, s1, e1, l1, g1, _⟩ := covering hl n (a := a) (b := md a b) s0 (by omega) m1 w1
          obtain ⟨L2, s2, e2, l2, g2, _⟩ := covering hl n (a := md a b) (b := b) s1 (by omega) m2 w2
          have ad := add_l (g2.lst l1) l2 (by
            rw [List.length_map, List.length_map]
            have c1 := cd_short (lo := lo) (hi := hi) (n := n + 1) (Int.le_of_lt m1)
            have c2 := cd_short (lo := lo) (hi := hi) (n := n + 1) (Int.le_of_lt m2)
            unfold lim
            omega)
          have x0 : oIx (.ref st.length) (.int 0) s0 = .ok (pw (a, md a b)) s0 := ix_l l0 rfl
          have x1 : oIx (.ref st.length) (.int 1) s1 = .ok (pw (md a b, b)) s1 := ix_l (g1.lst l0) rfl
          refine ⟨s2.length, _, fn_rt (n := 4) (g := g_covering (R_covering (n + 1))) ?_, by rw [cov_two o k, List.map_append]; exact lstOf_new, g0.trans (g1.trans (g2.trans Gr.push)), Nat.le_trans g0.1 (Nat.le_trans g1.1 g2.1)⟩
          unfold g_covering
          by_cases k1 : lo ≤ a
          · have k2 : ¬ b ≤ hi := fun z => k ⟨k1, z⟩
            simp [ix0, ix1, o1, o2, k1, k2, hh, x0, x1, e1, e2, ad]
          · simp [ix0, ix1, o1, o2, k1, hh, x0, x1, e1, e2, ad]
theorem check_yes {m : Int} {st : Hs} (h1 : 1 ≤ m) (h2 : m ≤ 99) : F_check_many [.int m] st = .ok .non st := by
  refine fn_nx (n := 1) (g := g_check_many) (ρ := [some (.int m)]) ?_
  unfold g_check_many
  simp [h1, h2]
theorem check_no {m : Int} {st : Hs} (h : ¬ (1 ≤ m ∧ m ≤ 99)) : F_check_many [.int m] st = .err "BadCount" st := by
  refine fn_err (n := 1) (g := g_check_many) (ρ := [some (.int m)]) ?_
  unfold g_check_many
  by_cases h1 : 1 ≤ m
  · have h2 : ¬ m ≤ 99 := fun z => h ⟨h1, z⟩
    simp [h1, h2, lim]
  · simp [h1, lim]
abbrev cv (m lo hi : Int) : List Nd := cov lo hi 9 0 m
theorem cover {m lo hi : Int} {st : Hs} (h1 : 1 ≤ m) (h2 : m ≤ 99) (h3 : 0 ≤ lo) (h4 : lo < hi) (h5 : hi ≤ m) : ∃ L st', F_cover [.int m, .int lo, .int hi] st = .ok (.ref L) st' ∧ lstOf st' L = some ((cv m lo hi).map pw) ∧ Gr st st' ∧ st.length ≤ L := by
  obtain ⟨L, s, e, l, g⟩ := covering h4 8 (a := 0) (b := m) st (by omega) (by omega) (by have : (2 : Int) ^ 8 = 256 := rfl; omega)
  refine ⟨L, s, ?_, l, g⟩
  have e' : F_covering [.tup [.int 0, .int m], .int lo, .int hi] st = .ok (.ref L) s := e
  refine fn_rt (n := 3) (g := g_cover) ?_
  unfold g_cover
  simp [check_yes h1 h2, h3, h4, h5, e']
theorem cover_no {m lo hi : Int} {st : Hs} (h : ¬ (1 ≤ m ∧ m ≤ 99 ∧ 0 ≤ lo ∧ lo < hi ∧ hi ≤ m)) : F_cover [.int m, .int lo, .int hi] st = .err "BadCount" st := by
  refine fn_err (n := 3) (g := g_cover) (ρ := [some (.int m), some (.int lo), some (.int hi)]) ?_
  unfold g_cover
  by_cases k : 1 ≤ m ∧ m ≤ 99
  · by_cases c1 : 0 ≤ lo
    · by_cases c2 : lo < hi
      · have c3 : ¬ hi ≤ m := fun z => h ⟨k.1, k.2, c1, c2, z⟩
        simp [check_yes k.1 k.2, c1, c2, c3, lim]
      · simp [check_yes k.1 k.2, c1, c2, lim]
    · simp [check_yes k.1 k.2, c1, lim]
  · simp [check_no k]
theorem isE {c d : PySem.Str} {b : Bool} {st : Hs} (h : tbl.lookup (c, d) = some b) : oIsA tbl tblT [.exn c, .cls d] st = .ok (.bl b) st := by
  show (match tbl.lookup (c, d) with | some b => Re.ok (Wv.bl b) st | none => .bad) = _
  rw [h]
theorem isV {st : Hs} : oIsA tbl tblT [.exn "BadCount", .ty "ValueError"] st = .ok (.bl true) st := by
  show (match tblT.lookup (("BadCount" : PySem.Str), ("ValueError" : String)) with | some b => Re.ok (Wv.bl b) st | none => .bad) = _
  rw [show tblT.lookup (("BadCount" : PySem.Str), ("ValueError" : String)) = some true by decide +kernel]
def hb : List Bool := [false, false, false, false, false, false, false, false, true, false, false, false, false, false, false, true]
def hv : Wv → Bool
  | .int i => hb.getD i.toNat false
  | _ => false
theorem hv_rng : ((rngW 0 (16 : Int).toNat).filter hv).map id = [.int 8, .int 15] := by
  rw [List.map_id]
  rfl
theorem kinds {st : Hs} : ∃ (l : Nat) (st' : Hs), F__law_kinds [.exn "BadCount"] st = .ok (.ref l) st' ∧ lstOf st' l = some [.int 8, .int 15] ∧ Gr st st' := by
  have t0 : ∀ st : Hs, oIsA tbl tblT [.exn "BadCount", .cls "BadPlace"] st = .ok (.bl false) st := fun _ => isE (by decide +kernel)
  have t1 : ∀ st : Hs, oIsA tbl tblT [.exn "BadCount", .cls "BadArea"] st = .ok (.bl false) st := fun _ => isE (by decide +kernel)
  have t2 : ∀ st : Hs, oIsA tbl tblT [.exn "BadCount", .cls "BadText"] st = .ok (.bl false) st := fun _ => isE (by decide +kernel)
  have t3 : ∀ st : Hs, oIsA tbl tblT [.exn "BadCount", .cls "BadFormula"] st = .ok (.bl false) st := fun _ => isE (by decide +kernel)
  have t4 : ∀ st : Hs, oIsA tbl tblT [.exn "BadCount", .cls "BadContent"] st = .ok (.bl false) st := fun _ => isE (by decide +kernel)
  have t5 : ∀ st : Hs, oIsA tbl tblT [.exn "BadCount", .cls "Full"] st = .ok (.bl false) st := fun _ => isE (by decide +kernel)
  have t6 : ∀ st : Hs, oIsA tbl tblT [.exn "BadCount", .cls "NoCell"] st = .ok (.bl false) st := fun _ => isE (by decide +kernel)
  have t7 : ∀ st : Hs, oIsA tbl tblT [.exn "BadCount", .cls "NotWaiting"] st = .ok (.bl false) st := fun _ => isE (by decide +kernel)
  have t8 : ∀ st : Hs, oIsA tbl tblT [.exn "BadCount", .cls "BadCount"] st = .ok (.bl true) st := fun _ => isE (by decide +kernel)
  have t9 : ∀ st : Hs, oIsA tbl tblT [.exn "BadCount", .cls "NoRoom"] st = .ok (.bl false) st := fun _ => isE (by decide +kernel)
  have t10 : ∀ st : Hs, oIsA tbl tblT [.exn "BadCount", .cls "BadTable"] st = .ok (.bl false) st := fun _ => isE (by decide +kernel)
  have t11 : ∀ st : Hs, oIsA tbl tblT [.exn "BadCount", .cls "NoTable"] st = .ok (.bl false) st := fun _ => isE (by decide +kernel)
  have t12 : ∀ st : Hs, oIsA tbl tblT [.exn "BadCount", .cls "NoColumn"] st = .ok (.bl false) st := fun _ => isE (by decide +kernel)
  have t13 : ∀ st : Hs, oIsA tbl tblT [.exn "BadCount", .cls "NoDeed"] st = .ok (.bl false) st := fun _ => isE (by decide +kernel)
  have t14 : ∀ st : Hs, oIsA tbl tblT [.exn "BadCount", .cls "Clash"] st = .ok (.bl false) st := fun _ => isE (by decide +kernel)
  obtain ⟨x, hx⟩ : ∃ x : List Wv, [Wv.bl false, .bl false, .bl false, .bl false] = x := ⟨_, rfl⟩
  obtain ⟨y, hy⟩ : ∃ y : List Wv, [Wv.bl true, .bl false, .bl false, .bl false] = y := ⟨_, rfl⟩
  obtain ⟨z, hz⟩ : ∃ z : List Wv, [Wv.bl false, .bl false, .bl false, .bl true] = z := ⟨_, rfl⟩
  have nx : x.length = 4 := by rw [← hx]; rfl
  have ny : y.length = 4 := by rw [← hy]; rfl
  have nz : z.length = 4 := by rw [← hz]; rfl
  have kx : ∀ st : Hs, kLst x st = .ok (.ref st.length) (st ++ [.lst x]) := fun st => kLst_d (by rw [nx]; unfold lim; omega)
  have ky : ∀ st : Hs, kLst y st = .ok (.ref st.length) (st ++ [.lst y]) := fun st => kLst_d (by rw [ny]; unfold lim; omega)
  have kz : ∀ st : Hs, kLst z st = .ok (.ref st.length) (st ++ [.lst z]) := fun st => kLst_d (by rw [nz]; unfold lim; omega)
  obtain ⟨s1, hs1⟩ : ∃ s1, st ++ [Ob.lst x] = s1 := ⟨_, rfl⟩
  obtain ⟨s2, hs2⟩ : ∃ s2, s1 ++ [Ob.lst x] = s2 := ⟨_, rfl⟩
  obtain ⟨s3, hs3⟩ : ∃ s3, s2 ++ [Ob.lst y] = s3 := ⟨_, rfl⟩
  obtain ⟨s4, hs4⟩ : ∃ s4, s3 ++ [Ob.lst z] = s4 := ⟨_, rfl⟩
  have g1 : Gr st s1 := by rw [← hs1]; exact Gr.push
  have g2 : Gr s1 s2 := by rw [← hs2]; exact Gr.push
  have g3 : Gr s2 s3 := by rw [← hs3]; exact Gr.push
  have g4 : Gr s3 s4 := by rw [← hs4]; exact Gr.push
  have l1 : lstOf s4 st.length = some x := (g2.trans (g3.trans g4)).lst (by rw [← hs1]; exact lstOf_new)
  have l2 : lstOf s4 s1.length = some x := (g3.trans g4).lst (by rw [← hs2]; exact lstOf_new)
  have l3 : lstOf s4 s2.length = some y := g4.lst (by rw [← hs3]; exact lstOf_new)
  have l4 : lstOf s4 s3.length = some z := by rw [← hs4]; exact lstOf_new
  have a1 := add_l l1 l2 (by unfold lim; omega)
  obtain ⟨s5, hs5⟩ : ∃ s5, s4 ++ [Ob.lst (x ++ x)] = s5 := ⟨_, rfl⟩
  rw [hs5] at a1
  have g5 : Gr s4 s5 := by rw [← hs5]; exact Gr.push
  have l5 : lstOf s5 s4.length = some (x ++ x) := by rw [← hs5]; exact lstOf_new
  have a2 := add_l l5 (g5.lst l3) (by rw [List.length_append]; unfold lim; omega)
  obtain ⟨s6, hs6⟩ : ∃ s6, s5 ++ [Ob.lst (x ++ x ++ y)] = s6 := ⟨_, rfl⟩
  rw [hs6] at a2
  have g6 : Gr s5 s6 := by rw [← hs6]; exact Gr.push
  have l6 : lstOf s6 s5.length = some (x ++ x ++ y) := by rw [← hs6]; exact lstOf_new
  have a3 := add_l l6 ((g5.trans g6).lst l4) (by rw [List.length_append, List.length_append]; unfold lim; omega)
  obtain ⟨s7, hs7⟩ : ∃ s7, s6 ++ [Ob.lst (x ++ x ++ y ++ z)] = s7 := ⟨_, rfl⟩
  rw [hs7] at a3
  have g7 : Gr s6 s7 := by rw [← hs7]; exact Gr.push
  have l7 : lstOf s7 s6.length = some (hb.map Wv.bl) := by rw [← hs7, lstOf_new, ← hx, ← hy, ← hz]; rfl
  have cp := comp_pure (cs := [("heard", 5)]) (gt := g__law_kinds_C1t) (ge := g__law_kinds_C1e) (ρ := [some (.exn "BadCount"), some (.ref st.length), some (.ref s1.length), some (.ref s2.length), some (.ref s3.length), some (.ref s6.length)]) (w := (none, rngW 0 (16 : Int).toNat)) (st := s7) (t := hv) (f := id) trivial
    (fun v hv' acc => by
      obtain ⟨i, rfl, i0, i1⟩ := rng_mem hv'
      have i2 : i < 16 := by have : ((16 : Int).toNat : Int) = 16 := rfl; omega
      have e : oIx (.ref s6.length) (.int i) (s7 ++ [.lst acc]) = .ok (.bl (hb.getD i.toNat false)) (s7 ++ [.lst acc]) := by
        refine ix_l (lstOf_old l7) ?_
        have : i = 0 ∨ i = 1 ∨ i = 2 ∨ i = 3 ∨ i = 4 ∨ i = 5 ∨ i = 6 ∨ i = 7 ∨ i = 8 ∨ i = 9 ∨ i = 10 ∨ i = 11 ∨ i = 12 ∨ i = 13 ∨ i = 14 ∨ i = 15 := by omega
        rcases this with rfl | rfl | rfl | rfl | rfl | rfl | rfl | rfl | rfl | rfl | rfl | rfl | rfl | rfl | rfl | rfl <;> rfl
      unfold g__law_kinds_C1t
      simp [capR, e, hv])
    (fun v hv' _ acc => rfl) (by show (rngW 0 (16 : Int).toNat).length < lim; rw [rngW_len]; unfold lim; omega)
  rw [show ((none, rngW 0 (16 : Int).toNat) : Wk).2 = rngW 0 (16 : Int).toNat from rfl, hv_rng] at cp
  have cp' : compRun [("heard", 5)] g__law_kinds_C1t g__law_kinds_C1e [some (.exn "BadCount"), some (.ref st.length), some (.ref s1.length), some (.ref s2.length), some (.ref s3.length), some (.ref s6.length)] (none, rngW 0 16) s7 = .ok (.ref s7.length) (s7 ++ [.lst [.int 8, .int 15]]) := cp
  have r1 := rng1_i (j := 16) (st := s7) (crng (by omega) (by omega))
  refine ⟨s7.length, s7 ++ [.lst [.int 8, .int 15]], ?_, lstOf_new, g1.trans (g2.trans (g3.trans (g4.trans (g5.trans (g6.trans (g7.trans Gr.push))))))⟩
  refine fn_rt (n := 6) (g := g__law_kinds) ?_
  unfold g__law_kinds
  simp [-List.append_assoc, -List.length_append, t0, t1, t2, t3, t4, t5, t6, t7, t8, t9, t10, t11, t12, t13, t14, isV, hx, hy, hz, kx, ky, kz, hs1, hs2, hs3, hs4, a1, a2, a3, r1, cp']
theorem refusal {m lo hi : Int} {st : Hs} (h : ¬ (1 ≤ m ∧ m ≤ 99 ∧ 0 ≤ lo ∧ lo < hi ∧ hi ≤ m)) : ∃ (l : Nat) (st' : Hs), F__law_refusal [.int m, .int lo, .int hi] st = .ok (.ref l) st' ∧ lstOf st' l = some [.int 8, .int 15] ∧ Gr st st' := by
  obtain ⟨s1, hs1⟩ : ∃ s1, st ++ [Ob.lst []] = s1 := ⟨_, rfl⟩
  have cn := cover_no (st := s1) h
  obtain ⟨l, s2, e2, l2, g2⟩ := kinds (st := s1)
  have tc : tblC.lookup (("BadCount" : PySem.Str), ("SheetError" : PySem.Str)) = some true := by decide +kernel
  have bd : g__law_refusal_B1 [some (.int m), some (.int lo), some (.int hi), some (.ref st.length), none] s1 = .err "BadCount" [some (.int m), some (.int lo), some (.int hi), some (.ref st.length), none] s1 := by
    unfold g__law_refusal_B1
    simp [cn]
  have su : g__law_refusal_U1 [some (.int m), some (.int lo), some (.int hi), some (.ref st.length), some (.exn "BadCount")] s1 = .nx [some (.int m), some (.int lo), some (.int hi), some (.ref l), some (.exn "BadCount")] s2 := by
    unfold g__law_refusal_U1
    simp [e2]
  have tr := kTry_err (cat := fun y => tblC.lookup (y, ("SheetError" : PySem.Str))) (i := 4) (gs := g__law_refusal_U1) (ρ := [some (.int m), some (.int lo), some (.int hi), some (.ref st.length), none]) (st := s1) tc su
  refine ⟨l, s2, ?_, l2, by rw [← hs1] at g2; exact Gr.push.trans g2⟩
  refine fn_rt (n := 5) (g := g__law_refusal) ?_
  unfold g__law_refusal
  simp [hs1, bd, tr]
theorem forLB_inv {is : List Nat} {gb : GS} {l : Nat} {all : List Wv} (P : Rho → Hs → Prop) : ∀ (ws : List Wv) (ρ : Rho) (st : Hs), P ρ st → lstOf st l = some all →
    (∀ w ∈ ws, ∀ ρ st, P ρ st → lstOf st l = some all → ∃ ρ1 ρ' st', bdT is w ρ = some ρ1 ∧ gb ρ1 st = .nx ρ' st' ∧ lstOf st' l = some all ∧ P ρ' st') →
    ∃ ρ' st', forLB is gb l all ws ρ st = .nx ρ' st' ∧ P ρ' st'
  | [], ρ, st, h, hl, _ => ⟨ρ, st, rfl, h⟩
  | w :: r, ρ, st, h, hl, step => by
    obtain ⟨ρ0, ρ1, st1, e0, e1, l1, p1⟩ := step w List.mem_cons_self ρ st h hl
    obtain ⟨ρ2, st2, e2, p2⟩ := forLB_inv P r ρ1 st1 p1 l1 fun w hw => step w (List.mem_cons_of_mem _ hw)
    refine ⟨ρ2, st2, ?_, p2⟩
    unfold forLB
    rw [e0]
    dsimp only
    rw [e1]
    simp only [if_pos l1]
    exact e2
theorem ne_815 {l l' : Nat} {st : Hs} (h : lstOf st l = some [.int 8, .int 15]) (h' : lstOf st l' = some [.int 8, .int 15]) : oNe (.ref l) (.ref l') st = .ok (.bl false) st :=
  ne_dat (by rw [dat_l h]; rfl) (by rw [dat_l h']; rfl) (by simp [PyData.eqv, PyData.eqvAll])
theorem ref_turn {m lo hi : Int} {ga gb gc : GE} {ρ : Rho} {st : Hs} (ea : ∀ st, ga ρ st = .ok (.int m) st) (eb : ∀ st, gb ρ st = .ok (.int lo) st) (ec : ∀ st, gc ρ st = .ok (.int hi) st) (h : ¬ (1 ≤ m ∧ m ≤ 99 ∧ 0 ≤ lo ∧ lo < hi ∧ hi ≤ m)) :
    ∃ st', gIf (gTst (gBin oNe (gCall 3 F__law_refusal (gCons ga (gCons gb (gCons gc gNil)))) (gLst (gCons (gC (.int 8)) (gCons (gC (.int 15)) gNil))))) (gRet (gC (.bl false))) gNext ρ st = .nx ρ st' ∧ Gr st st' := by
  obtain ⟨l, s1, e1, l1, g1⟩ := refusal (st := st) h
  have ne := ne_815 (st := s1 ++ [.lst [.int 8, .int 15]]) (Gr.push.lst l1) lstOf_new
  refine ⟨s1 ++ [.lst [.int 8, .int 15]], ?_, g1.trans Gr.push⟩
  simp [ea, eb, ec, e1, ne]
theorem refused {m far : Int} {st : Hs} (h1 : 1 ≤ m) (h2 : m ≤ 99) (h3 : 0 ≤ far) : ∃ st', F__law_refused [.int m, .int far] st = .ok (.bl true) st' := by
  obtain ⟨ps, hps⟩ : ∃ ps : List (Int × Int), ps = [(0, 0), (m, m), (1, 0), (-1, 1), (0, m + 1), (-1 - far, 1), (0, m + 1 + far), (m, 0)] := ⟨_, rfl⟩
  have bad : ∀ p ∈ ps, ¬ (1 ≤ m ∧ m ≤ 99 ∧ 0 ≤ p.1 ∧ p.1 < p.2 ∧ p.2 ≤ m) := fun p hp => by
    rw [hps] at hp
    simp only [List.mem_cons, List.not_mem_nil, or_false] at hp
    rcases hp with rfl | rfl | rfl | rfl | rfl | rfl | rfl | rfl <;> dsimp only <;> omega
  obtain ⟨s1, hs1⟩ : ∃ s1, st ++ [Ob.lst (ps.map pw)] = s1 := ⟨_, rfl⟩
  have l1 : lstOf s1 st.length = some (ps.map pw) := by rw [← hs1]; exact lstOf_new
  obtain ⟨ρ1, s2, f1, o3, o4, rfl⟩ := forLB_inv (is := [3, 4]) (gb := g__law_refused_L2) (l := st.length) (all := ps.map pw) (fun ρ _ => ∃ o3 o4, ρ = [some (.int m), some (.int far), some (.ref st.length), o3, o4, none]) (ps.map pw) [some (.int m), some (.int far), some (.ref st.length), none, none, none] s1 ⟨_, _, rfl⟩ l1
    fun w hw ρ s hP hl => by
      obtain ⟨o3, o4, rfl⟩ := hP
      obtain ⟨p, hp, rfl⟩ := List.mem_map.mp hw
      obtain ⟨s', e', g'⟩ := ref_turn (m := m) (lo := p.1) (hi := p.2) (ga := gVar 0) (gb := gVar 3) (gc := gVar 4) (ρ := [some (.int m), some (.int far), some (.ref st.length), some (.int p.1), some (.int p.2), none]) (st := s) (fun _ => rfl) (fun _ => rfl) (fun _ => rfl) (bad p hp)
      exact ⟨_, _, s', rfl, e', g'.lst hl, _, _, rfl⟩
  obtain ⟨qs, hqs⟩ : ∃ qs : List Int, qs = [0, 100, -1, 100 + far, -1 - far] := ⟨_, rfl⟩
  have badq : ∀ q ∈ qs, ¬ (1 ≤ q ∧ q ≤ 99 ∧ (0 : Int) ≤ 0 ∧ (0 : Int) < 1 ∧ 1 ≤ q) := fun q hq => by
    rw [hqs] at hq
    simp only [List.mem_cons, List.not_mem_nil, or_false] at hq
    rcases hq with rfl | rfl | rfl | rfl | rfl <;> omega
  obtain ⟨s3, hs3⟩ : ∃ s3, s2 ++ [Ob.lst (qs.map Wv.int)] = s3 := ⟨_, rfl⟩
  have l3 : lstOf s3 s2.length = some (qs.map Wv.int) := by rw [← hs3]; exact lstOf_new
  obtain ⟨ρ3, s4, f3, ⟨o5, rfl⟩, _⟩ := forL_inv (i := 5) (gb := g__law_refused_L1) (l := s2.length) (all := qs.map Wv.int) (fun ρ _ => ∃ o5, ρ = [some (.int m), some (.int far), some (.ref st.length), o3, o4, o5]) (qs.map Wv.int) [some (.int m), some (.int far), some (.ref st.length), o3, o4, none] s3 ⟨_, rfl⟩ l3
    fun w hw ρ s hP hl => by
      obtain ⟨o5, rfl⟩ := hP
      obtain ⟨q, hq, rfl⟩ := List.mem_map.mp hw
      obtain ⟨s', e', g'⟩ := ref_turn (m := q) (lo := 0) (hi := 1) (ga := gVar 5) (gb := gC (.int 0)) (gc := gC (.int 1)) (ρ := [some (.int m), some (.int far), some (.ref st.length), o3, o4, some (.int q)]) (st := s) (fun _ => rfl) (fun _ => rfl) (fun _ => rfl) (badq q hq)
      exact ⟨_, s', e', g'.lst hl, _, rfl⟩
  have k3 : kFor 5 g__law_refused_L1 [some (.int m), some (.int far), some (.ref st.length), o3, o4, none] (.ref s2.length) s3 = .nx [some (.int m), some (.int far), some (.ref st.length), o3, o4, o5] s4 := by rw [kFor_l l3]; exact f3
  have kB : gForB [3, 4] (gVar 2) g__law_refused_L2 [some (.int m), some (.int far), some (.ref st.length), none, none, none] s1 = .nx [some (.int m), some (.int far), some (.ref st.length), o3, o4, none] s2 := by
    unfold gForB
    simp [l1, f1]
  refine ⟨s4, fn_rt (n := 6) (g := g__law_refused) ?_⟩
  have hs1' : st ++ [Ob.lst [.tup [.int 0, .int 0], .tup [.int m, .int m], .tup [.int 1, .int 0], .tup [.int (-1), .int 1], .tup [.int 0, .int (m + 1)], .tup [.int (-1 - far), .int 1], .tup [.int 0, .int (m + 1 + far)], .tup [.int m, .int 0]]] = s1 := by rw [← hs1, hps]; rfl
  have hs3' : s2 ++ [Ob.lst [.int 0, .int 100, .int (-1), .int (100 + far), .int (-1 - far)]] = s3 := by rw [← hs3, hqs]; rfl
  unfold g__law_refused
  simp [hs1', kB, hs3', k3]
abbrev nw (x : An) : Wv := pw x.1
theorem whl_t {gt : GT} {gb : GS} {n : Nat} {ρ ρ' : Rho} {st st1 st' : Hs} (h : gt ρ st = .ok true st1) (k : gb ρ st1 = .nx ρ' st') : whl gt gb (n + 1) ρ st = whl gt gb n ρ' st' := by
  rw [whl, h]
  simp [k]
theorem whl_f {gt : GT} {gb : GS} {n : Nat} {ρ : Rho} {st st1 : Hs} (h : gt ρ st = .ok false st1) : whl gt gb (n + 1) ρ st = .nx ρ st1 := by
  rw [whl, h]
  simp
abbrev nodes_t : GT := gTst (gBin oLt (gVar 2) (gCallB oLen (gCons (gVar 1) gNil)))
theorem flat_len {q : List An} {x : An} (h : Wd x) : ((x :: q).flatMap T).length = ((q ++ ks x).flatMap T).length + 1 := by
  rw [List.flatMap_cons, T_eq h, List.flatMap_append]
  simp
  omega
theorem nodes_loop {m : Wv} : ∀ (N : Nat) (d q : List An) (k : Nat) (st : Hs) (o3 o4 o5 : Option Wv), (q.flatMap T).length < N → (∀ y ∈ q, Wd y) → d.length + (q.flatMap T).length ≤ 300 → q.length ≤ (q.flatMap T).length → lstOf st k = some ((d ++ q).map nw) →
    ∃ l k' o2' o3' o4' o5' st', whl nodes_t g__law_nodes_L1 N [some m, some (.ref k), some (.int d.length), o3, o4, o5] st = .nx [some m, some (.ref k'), o2', o3', o4', o5'] st' ∧ lstOf st' k' = some (l.map nw) ∧ Gr st st' ∧ Run d q l
  | 0, _, _, _, _, _, _, _, h, _, _, _, _ => by omega
  | N + 1, d, [], k, st, o3, o4, o5, h, hw, hd, hq, hl => by
    refine ⟨d, k, some (.int d.length), o3, o4, o5, st, ?_, by simpa using hl, Gr.refl, .done⟩
    have ln : oLen [.ref k] st = .ok (.int (d.length : Nat)) st := by rw [len_l hl]; simp
    exact whl_f (by simp [ln])
  | N + 1, d, x :: q, k, st, o3, o4, o5, h, hw, hd, hq, hl => by
    have wx := hw x List.mem_cons_self
    have fl := flat_len (q := q) wx
    have hq' : (q ++ ks x).length ≤ ((q ++ ks x).flatMap T).length := by
      have : ∀ r : List An, (∀ y ∈ r, Wd y) → r.length ≤ (r.flatMap T).length := fun r => by
        induction r with
        | nil => intro _; simp
        | cons y r ih =>
          intro hy
          have := ih fun z hz => hy z (List.mem_cons_of_mem _ hz)
          rw [List.flatMap_cons, T_eq (hy y List.mem_cons_self), List.cons_append, List.length_cons, List.length_cons, List.length_append]
          omega
      exact this _ fun y hy => by
        rcases List.mem_append.mp hy with z | z
        · exact hw y (List.mem_cons_of_mem _ z)
        · exact ks_wd wx z
    have hw' : ∀ y ∈ q ++ ks x, Wd y := fun y hy => by
      rcases List.mem_append.mp hy with z | z
      · exact hw y (List.mem_cons_of_mem _ z)
      · exact ks_wd wx z
    have ln : oLen [.ref k] st = .ok (.int ((d.length : Int) + (q.length + 1))) st := by rw [len_l hl]; simp
    have tt : nodes_t [some m, some (.ref k), some (.int d.length), o3, o4, o5] st = .ok true st := by
      have : (d.length : Int) < (d.length : Int) + (q.length + 1) := by omega
      simp [ln, this]
    have ix : oIx (.ref k) (.int d.length) st = .ok (.tup [.int x.1.1, .int x.1.2]) st := ix_l hl (by
      refine L2.atI_nat ?_
      simp)
    have sT : gSetT [3, 4] (gBin oIx (gVar 1) (gVar 2)) [some m, some (.ref k), some (.int d.length), o3, o4, o5] st = .nx [some m, some (.ref k), some (.int d.length), some (.int x.1.1), some (.int x.1.2), o5] st := by
      unfold gSetT
      simp [ix]
      rfl
    have e1 : ((d ++ [x]).length : Int) = (d.length : Int) + 1 := by simp
    by_cases w : 1 < x.1.2 - x.1.1
    · have ek : ks x = [((x.1.1, md x.1.1 x.1.2), some x.1), ((md x.1.1 x.1.2, x.1.2), some x.1)] := by unfold ks; rw [if_pos w]
      obtain ⟨s1, hs1⟩ : ∃ s1, st ++ [Ob.lst [pw (x.1.1, md x.1.1 x.1.2), pw (md x.1.1 x.1.2, x.1.2)]] = s1 := ⟨_, rfl⟩
      have g1 : Gr st s1 := by rw [← hs1]; exact Gr.push
      have l1 : lstOf s1 st.length = some [pw (x.1.1, md x.1.1 x.1.2), pw (md x.1.1 x.1.2, x.1.2)] := by rw [← hs1]; exact lstOf_new
      have ad := add_l (g1.lst hl) l1 (by simp at hd hq ⊢; unfold lim; omega)
      have em : (d ++ x :: q).map nw ++ [pw (x.1.1, md x.1.1 x.1.2), pw (md x.1.1 x.1.2, x.1.2)] = (d ++ [x] ++ (q ++ ks x)).map nw := by rw [ek]; simp
      rw [em] at ad
      have l2 : lstOf (s1 ++ [Ob.lst ((d ++ [x] ++ (q ++ ks x)).map nw)]) s1.length = some ((d ++ [x] ++ (q ++ ks x)).map nw) := lstOf_new
      have g2 : Gr s1 (s1 ++ [Ob.lst ((d ++ [x] ++ (q ++ ks x)).map nw)]) := Gr.push
      generalize s1 ++ [Ob.lst ((d ++ [x] ++ (q ++ ks x)).map nw)] = s2 at ad l2 g2
      have hs1' : st ++ [Ob.lst [.tup [.int x.1.1, .int ((x.1.1 + x.1.2) / 2)], .tup [.int ((x.1.1 + x.1.2) / 2), .int x.1.2]]] = s1 := hs1
      have bd : g__law_nodes_L1 [some m, some (.ref k), some (.int d.length), o3, o4, o5] st = .nx [some m, some (.ref s1.length), some (.int ((d ++ [x]).length : Nat)), some (.int x.1.1), some (.int x.1.2), some (.int ((x.1.1 + x.1.2) / 2))] s2 := by
        rw [e1]
        unfold g__law_nodes_L1
        simp [sT, w, dv2, hs1', ad]
      obtain ⟨l, k', o2', o3', o4', o5', st', e, hl', g, r⟩ := nodes_loop (m := m) N (d ++ [x]) (q ++ ks x) s1.length s2 (some (.int x.1.1)) (some (.int x.1.2)) (some (.int ((x.1.1 + x.1.2) / 2))) (by omega) hw' (by rw [List.length_append, List.length_singleton]; omega) hq' l2
      exact ⟨l, k', o2', o3', o4', o5', st', (whl_t tt bd).trans e, hl', g1.trans (g2.trans g), .next r⟩
    · have ek : ks x = [] := by unfold ks; rw [if_neg w]
      have bd : g__law_nodes_L1 [some m, some (.ref k), some (.int d.length), o3, o4, o5] st = .nx [some m, some (.ref k), some (.int ((d ++ [x]).length : Nat)), some (.int x.1.1), some (.int x.1.2), o5] st := by
        rw [e1]
        unfold g__law_nodes_L1
        simp [sT, w]
      obtain ⟨l, k', o2', o3', o4', o5', st', e, hl', g, r⟩ := nodes_loop (m := m) N (d ++ [x]) (q ++ ks x) k st (some (.int x.1.1)) (some (.int x.1.2)) o5 (by omega) hw' (by rw [List.length_append, List.length_singleton]; omega) hq' (by rw [hl, ek]; simp)
      exact ⟨l, k', o2', o3', o4', o5', st', (whl_t tt bd).trans e, hl', g, .next r⟩
def rt (m : Int) : An := ((0, m), none)
theorem nodes {m : Int} {st : Hs} (h1 : 1 ≤ m) (h2 : m ≤ 99) : ∃ l k st', F__law_nodes [.int m] st = .ok (.ref k) st' ∧ lstOf st' k = some (l.map nw) ∧ Gr st st' ∧ Run [] [rt m] l := by
  have wd : Wd (rt m) := ⟨by show (0 : Int) < m; omega, by show m - 0 ≤ 2 ^ 7; have : (2 : Int) ^ 7 = 128 := rfl; omega⟩
  have tl := tr_len 7 (rt m)
  have e256 : 2 ^ (7 + 1) = 256 := rfl
  have e0 : [rt m].flatMap T = T (rt m) := by simp
  obtain ⟨l, k', o2', o3', o4', o5', st', e, hl', g, r⟩ := nodes_loop (m := .int m) wTurns [] [rt m] st.length (st ++ [.lst [nw (rt m)]]) none none none (by rw [e0]; unfold wTurns; show (tr 7 (rt m)).length < _; omega) (fun y hy => by rw [List.mem_singleton.mp hy]; exact wd) (by rw [e0]; show 0 + (tr 7 (rt m)).length ≤ _; omega) (by rw [e0, T_eq wd]; simp) lstOf_new
  have e' : gWhile wTurns nodes_t g__law_nodes_L1 [some (.int m), some (.ref st.length), some (.int 0), none, none, none] (st ++ [.lst [.tup [.int 0, .int m]]]) = .nx [some (.int m), some (.ref k'), o2', o3', o4', o5'] st' := e
  refine ⟨l, k', st', fn_rt (n := 6) (g := g__law_nodes) ?_, hl', Gr.push.trans g, r⟩
  unfold g__law_nodes
  simp only [e_seq, e_set, e_lst, e_cons, e_tup, e_c, e_var, e_nil, e_ret]
  simp
  erw [e']
  simp
theorem valW_map {κ : Type} [DecidableEq κ] (k j : κ) (v : Wv) : ∀ kvs : List (κ × Wv), valW (kvs.map fun kv => if kv.1 = k then (kv.1, v) else kv) j = if j = k then (if (kvs.any fun kv => decide (kv.1 = k)) = true then some v else none) else valW kvs j
  | [] => by simp [valW]
  | p :: r => by
    have ih := valW_map k j v r
    rw [List.map_cons]
    by_cases h : p.1 = k
    · rw [if_pos h]
      unfold valW
      by_cases e : j = k
      · rw [if_pos (h.trans e.symm), if_pos e, List.any_cons]
        simp [h]
      · rw [if_neg (by dsimp only; rw [h]; exact Ne.symm e), if_neg e, if_neg (by rw [h]; exact Ne.symm e), ih, if_neg e]
    · rw [if_neg h]
      unfold valW
      rw [ih]
      by_cases e : j = k
      · rw [if_pos e, if_pos e, if_neg (by rw [e]; exact h), List.any_cons, decide_eq_false h, Bool.false_or]
      · rw [if_neg e, if_neg e]
theorem valW_app {κ : Type} [DecidableEq κ] (k j : κ) (v : Wv) : ∀ kvs : List (κ × Wv), (kvs.any fun kv => decide (kv.1 = k)) = false → valW (kvs ++ [(k, v)]) j = if j = k then some v else valW kvs j
  | [], _ => by simp [valW, eq_comm]
  | p :: r, h => by
    rw [List.any_cons, Bool.or_eq_false_iff] at h
    have ih := valW_app k j v r h.2
    have hp : ¬ p.1 = k := by simpa using h.1
    rw [List.cons_append]
    unfold valW
    rw [ih]
    by_cases e : j = k
    · rw [if_pos e, if_neg (by rw [e]; exact hp), if_pos e]
    · rw [if_neg e, if_neg e]
theorem valW_put {κ : Type} [DecidableEq κ] (kvs : List (κ × Wv)) (k j : κ) (v : Wv) : valW (putW kvs k v) j = if j = k then some v else valW kvs j := by
  unfold putW
  by_cases h : (kvs.any fun kv => decide (kv.1 = k)) = true
  · rw [if_pos h, valW_map, if_pos h]
  · rw [if_neg h, valW_app _ _ _ _ (Bool.eq_false_iff.mpr h)]
theorem putW_len {κ : Type} [DecidableEq κ] (kvs : List (κ × Wv)) (k : κ) (v : Wv) : (putW kvs k v).length ≤ kvs.length + 1 := by
  unfold putW
  split <;> simp
theorem set_same {st : Hs} {l : Nat} {o : Ob} (h : st[l]? = some o) : st.set l o = st := List.ext_getElem? fun j => by
  by_cases e : l = j
  · subst e; rw [set_get h, h]
  · rw [List.getElem?_set_ne e]
def kk (p : Nd) : List L2.Key := [.inl p.1, .inl p.2]
theorem kk_ne {p q : Nd} (h : p ≠ q) : kk p ≠ kk q := fun z => h (by
  unfold kk at z
  injection z with z1 z2
  injection z2 with z2
  injection z1 with z1
  injection z2 with z2
  exact Prod.ext z1 z2)
theorem putD_T {d : Nat} {kvs : List (List L2.Key × Wv)} {p : Nd} {v : Wv} {st : Hs} (h : st[d]? = some (.dcT kvs)) (hl : kvs.length < 1000) : putD (.ref d) (pw p) v st = some (st.set d (.dcT (putW kvs (kk p) v))) := by
  have hk : keyT (pw p) = some (kk p) := rfl
  unfold putD
  dsimp only
  rw [h]
  dsimp only
  rw [hk]
  dsimp only
  rw [if_pos (by unfold lim; omega)]
theorem ixD_T {d : Nat} {kvs : List (List L2.Key × Wv)} {p : Nd} {v : Wv} {st : Hs} (h : st[d]? = some (.dcT kvs)) (hv : valW kvs (kk p) = some v) : ixD (.ref d) (pw p) st = .ok v st := by
  have hk : keyT (pw p) = some (kk p) := rfl
  unfold ixD getD
  dsimp only
  rw [h]
  dsimp only
  rw [hk]
  dsimp only
  rw [hv]
def an (x : An) : Wv := match x.2 with
  | none => .non
  | some p => pw p
def DI (kvs : List (List L2.Key × Wv)) (t : List An) : Prop := ∀ y ∈ t, valW kvs (kk y.1) = some (an y)
theorem is_nn {st : Hs} : oIs .non .non st = .ok (.bl true) st := rfl
theorem is_pn {p : Nd} {st : Hs} : oIs (pw p) .non st = .ok (.bl false) st := rfl
theorem told_if {lo hi : Int} {x : An} {m F P o6 : Wv} {gt : GS} {st : Hs} : gIf (gAnd (gTru (gVar 8)) (gOr (gTst (gBin oIs (gVar 7) (gC .non))) (gOr (gTst (gBin oLt (gBin oIx (gVar 7) (gC (.int 0))) (gVar 1))) (gTst (gBin oLt (gVar 2) (gBin oIx (gVar 7) (gC (.int 1)))))))) gt gNext
    [some m, some (.int lo), some (.int hi), some F, some P, some (nw x), some o6, some (an x), some (.bl (decide (lo ≤ x.1.1) && decide (x.1.2 ≤ hi)))] st = if Ps lo hi x = true then gt [some m, some (.int lo), some (.int hi), some F, some P, some (nw x), some o6, some (an x), some (.bl (decide (lo ≤ x.1.1) && decide (x.1.2 ≤ hi)))] st else .nx [some m, some (.int lo), some (.int hi), some F, some P, some (nw x), some o6, some (an x), some (.bl (decide (lo ≤ x.1.1) && decide (x.1.2 ≤ hi)))] st := by
  unfold Ps an
  cases hb : (decide (lo ≤ x.1.1) && decide (x.1.2 ≤ hi)) with
  | false => simp
  | true =>
    cases q : x.2 with
    | none => simp [is_nn]
    | some p =>
      by_cases c1 : p.1 < lo
      · simp [is_pn, ix0, ix1, c1]
      · by_cases c2 : hi < p.2
        · simp [is_pn, ix0, ix1, c1, c2]
        · simp [is_pn, ix0, ix1, c1, c2]
theorem inside_ok {lo hi : Int} {x : An} {m F P o6 o7 : Wv} {o8 : Option Wv} {st : Hs} : gSet 8 (gAndV (gBin oLe (gVar 1) (gBin oIx (gVar 5) (gC (.int 0)))) (gBin oLe (gBin oIx (gVar 5) (gC (.int 1))) (gVar 2)))
    [some m, some (.int lo), some (.int hi), some F, some P, some (nw x), some o6, some o7, o8] st = .nx [some m, some (.int lo), some (.int hi), some F, some P, some (nw x), some o6, some o7, some (.bl (decide (lo ≤ x.1.1) && decide (x.1.2 ≤ hi)))] st := by
  by_cases c : lo ≤ x.1.1
  · simp [ix0, ix1, c]
  · simp [ix0, ix1, c]
theorem due_puts {lo hi : Int} {x : An} {m F : Wv} {Pa : Nat} {kvs : List (List L2.Key × Wv)} {o6 : Option Wv} {ρr : Rho} {st : Hs} (h : st[Pa]? = some (.dcT kvs)) (hl : kvs.length < 900) :
    ∃ kvs', gSeq (gSet 6 (gBin oFdiv (gBin oAdd (gBin oIx (gVar 5) (gC (.int 0))) (gBin oIx (gVar 5) (gC (.int 1)))) (gC (.int 2)))) (gIf (gTst (gBin oGt (gBin oSub (gBin oIx (gVar 5) (gC (.int 1))) (gBin oIx (gVar 5) (gC (.int 0)))) (gC (.int 1)))) (gSeq (gDPut (gVar 5) (gVar 4) (gTup (gCons (gBin oIx (gVar 5) (gC (.int 0))) (gCons (gVar 6) gNil))))
    (gDPut (gVar 5) (gVar 4) (gTup (gCons (gVar 6) (gCons (gBin oIx (gVar 5) (gC (.int 1))) gNil))))) gNext) (some m :: some (.int lo) :: some (.int hi) :: some F :: some (.ref Pa) :: some (nw x) :: o6 :: ρr) st = .nx (some m :: some (.int lo) :: some (.int hi) :: some F :: some (.ref Pa) :: some (nw x) :: some (.int (md x.1.1 x.1.2)) :: ρr) (st.set Pa (.dcT kvs')) ∧ kvs'.length ≤ kvs.length + 2 ∧ ∀ t : List An, DI kvs t → ((t ++ ks x).map (·.1)).Nodup → DI kvs' (t ++ ks x) := by
  have em : (x.1.1 + x.1.2) / 2 = md x.1.1 x.1.2 := rfl
  by_cases w : 1 < x.1.2 - x.1.1
  · have ek : ks x = [((x.1.1, md x.1.1 x.1.2), some x.1), ((md x.1.1 x.1.2, x.1.2), some x.1)] := by unfold ks; rw [if_pos w]
    have p1 := putD_T (p := (x.1.1, md x.1.1 x.1.2)) (v := pw x.1) h (by omega)
    have h1 := set_get (o' := .dcT (putW kvs (kk (x.1.1, md x.1.1 x.1.2)) (pw x.1))) h
    have p2 := putD_T (p := (md x.1.1 x.1.2, x.1.2)) (v := pw x.1) h1 (by have := putW_len kvs (kk (x.1.1, md x.1.1 x.1.2)) (pw x.1); omega)
    rw [List.set_set] at p2
    refine ⟨putW (putW kvs (kk (x.1.1, md x.1.1 x.1.2)) (pw x.1)) (kk (md x.1.1 x.1.2, x.1.2)) (pw x.1), ?_, ?_, fun t ht nd => ?_⟩
    · have p1' : putD (.ref Pa) (.tup [.int x.1.1, .int (md x.1.1 x.1.2)]) (nw x) st = some (st.set Pa (.dcT (putW kvs (kk (x.1.1, md x.1.1 x.1.2)) (pw x.1)))) := p1
      have p2' : putD (.ref Pa) (.tup [.int (md x.1.1 x.1.2), .int x.1.2]) (nw x) (st.set Pa (.dcT (putW kvs (kk (x.1.1, md x.1.1 x.1.2)) (pw x.1)))) = some (st.set Pa (.dcT (putW (putW kvs (kk (x.1.1, md x.1.1 x.1.2)) (pw x.1)) (kk (md x.1.1 x.1.2, x.1.2)) (pw x.1)))) := p2
      simp [ix0, ix1, dv2, em, w, gDPut, p1', p2']
    · have q1 := putW_len kvs (kk (x.1.1, md x.1.1 x.1.2)) (pw x.1)
      have q2 := putW_len (putW kvs (kk (x.1.1, md x.1.1 x.1.2)) (pw x.1)) (kk (md x.1.1 x.1.2, x.1.2)) (pw x.1)
      omega
    · rw [ek] at nd ⊢
      rw [List.map_append, List.nodup_append] at nd
      obtain ⟨_, n2, n3⟩ := nd
      have c12 : (x.1.1, md x.1.1 x.1.2) ≠ (md x.1.1 x.1.2, x.1.2) := by simpa using n2
      intro y hy
      rw [valW_put, valW_put]
      rcases List.mem_append.mp hy with z | z
      · have d1 := n3 y.1 (List.mem_map.mpr ⟨y, z, rfl⟩) (x.1.1, md x.1.1 x.1.2) (by simp)
        have d2 := n3 y.1 (List.mem_map.mpr ⟨y, z, rfl⟩) (md x.1.1 x.1.2, x.1.2) (by simp)
        rw [if_neg (kk_ne d2), if_neg (kk_ne d1)]
        exact ht y z
      · simp only [List.mem_cons, List.not_mem_nil, or_false] at z
        rcases z with rfl | rfl
        · rw [if_neg (kk_ne c12), if_pos rfl]; rfl
        · rw [if_pos rfl]; rfl
  · have ek : ks x = [] := by unfold ks; rw [if_neg w]
    refine ⟨kvs, ?_, by omega, fun t ht _ => by rw [ek, List.append_nil]; exact ht⟩
    rw [set_same h]
    simp [ix0, ix1, dv2, em, w]
theorem seq_assoc {a b c : GS} {ρ : Rho} {st : Hs} : gSeq a (gSeq b c) ρ st = (gSeq a b ρ st).sq c := by
  rw [e_seq, e_seq]
  cases a ρ st <;> simp
theorem due_turn {lo hi : Int} {x : An} {m : Wv} {Fo Pa : Nat} {kvs : List (List L2.Key × Wv)} {acc : List Wv} {o6 o7 o8 : Option Wv} {st : Hs} {t : List An} (n1 : Fo ≠ Pa) (h : st[Pa]? = some (.dcT kvs)) (hF : st[Fo]? = some (.lst acc)) (hl : kvs.length < 900) (ha : acc.length < 900) (di : DI kvs t) (nd : ((t ++ ks x).map (·.1)).Nodup) (hx : x ∈ t) :
    ∃ kvs' o6' o7' o8' st', g__law_due_L1 [some m, some (.int lo), some (.int hi), some (.ref Fo), some (.ref Pa), some (nw x), o6, o7, o8] st = .nx [some m, some (.int lo), some (.int hi), some (.ref Fo), some (.ref Pa), some (nw x), o6', o7', o8'] st' ∧ kvs'.length ≤ kvs.length + 2 ∧ DI kvs' (t ++ ks x) ∧ st'[Pa]? = some (.dcT kvs') ∧
      st'[Fo]? = some (.lst (acc ++ ([x].filter (Ps lo hi)).map nw)) ∧ st'.length = st.length ∧ ∀ j, j ≠ Fo → j ≠ Pa → st'[j]? = st[j]? := by
  obtain ⟨kvs', e1, l1, d1⟩ := due_puts (lo := lo) (hi := hi) (x := x) (m := m) (F := .ref Fo) (o6 := o6) (ρr := [o7, o8]) h hl
  have di' := d1 t di nd
  have h1 := set_get (o' := .dcT kvs') h
  have hF1 : (st.set Pa (.dcT kvs'))[Fo]? = some (.lst acc) := by rw [List.getElem?_set_ne (Ne.symm n1)]; exact hF
  have k1 : ∀ j, j ≠ Pa → (st.set Pa (.dcT kvs'))[j]? = st[j]? := fun j hj => List.getElem?_set_ne (Ne.symm hj)
  have n1' : (st.set Pa (.dcT kvs')).length = st.length := by simp
  generalize st.set Pa (.dcT kvs') = s1 at e1 h1 hF1 k1 n1'
  have ix := ixD_T (v := an x) h1 (di' x (List.mem_append_left _ hx))
  have gd : gDGet (gVar 4) (gVar 5) [some m, some (.int lo), some (.int hi), some (.ref Fo), some (.ref Pa), some (nw x), some (.int (md x.1.1 x.1.2)), o7, o8] s1 = .ok (an x) s1 := by
    unfold gDGet
    simp [ix]
  by_cases c : Ps lo hi x = true
  · have ap := app_l (v := nw x) hF1 (by unfold lim; omega)
    refine ⟨kvs', some (.int (md x.1.1 x.1.2)), some (an x), some (.bl (decide (lo ≤ x.1.1) && decide (x.1.2 ≤ hi))), s1.set Fo (.lst (acc ++ [nw x])), ?_, l1, di', by rw [List.getElem?_set_ne n1]; exact h1, by rw [set_get hF1, List.filter_cons_of_pos c]; rfl, by simp [n1'], fun j j1 j2 => by rw [List.getElem?_set_ne (Ne.symm j1)]; exact k1 j j2⟩
    unfold g__law_due_L1
    rw [seq_assoc, e1]
    simp only [sq_nx, e_seq]
    rw [e_set, gd]
    simp only [thn_ok, List.set_cons_succ, List.set_cons_zero, sq_nx]
    rw [e_seq, inside_ok]
    simp only [sq_nx]
    rw [told_if, if_pos c]
    simp [kMeth_l (lst_get hF1), ap]
  · refine ⟨kvs', some (.int (md x.1.1 x.1.2)), some (an x), some (.bl (decide (lo ≤ x.1.1) && decide (x.1.2 ≤ hi))), s1, ?_, l1, di', h1, by rw [hF1, List.filter_cons_of_neg c]; simp, n1', fun j _ j2 => k1 j j2⟩
    unfold g__law_due_L1
    rw [seq_assoc, e1]
    simp only [sq_nx, e_seq]
    rw [e_set, gd]
    simp only [thn_ok, List.set_cons_succ, List.set_cons_zero, sq_nx]
    rw [e_seq, inside_ok]
    simp only [sq_nx]
    rw [told_if, if_neg c]
theorem due_loop {lo hi : Int} {m : Wv} {Fo Pa Lk : Nat} {t : An} (n1 : Fo ≠ Pa) (n2 : Lk ≠ Fo) (n3 : Lk ≠ Pa) {d q l : List An} (r : Run d q l) : d ++ q = t :: d.flatMap ks → ((t :: l.flatMap ks).map (·.1)).Nodup → l.length ≤ 300 →
    ∀ (rest : List An) (kvs : List (List L2.Key × Wv)) (st : Hs) (o5 o6 o7 o8 : Option Wv), l = d ++ rest → st[Fo]? = some (.lst ((d.filter (Ps lo hi)).map nw)) → st[Pa]? = some (.dcT kvs) → DI kvs (t :: d.flatMap ks) → kvs.length ≤ 2 * d.length + 1 → lstOf st Lk = some (l.map nw) →
    ∃ o5' o6' o7' o8' st', forL 5 g__law_due_L1 Lk (l.map nw) (rest.map nw) [some m, some (.int lo), some (.int hi), some (.ref Fo), some (.ref Pa), o5, o6, o7, o8] st = .nx [some m, some (.int lo), some (.int hi), some (.ref Fo), some (.ref Pa), o5', o6', o7', o8'] st' ∧
      st'[Fo]? = some (.lst ((l.filter (Ps lo hi)).map nw)) ∧ st.length ≤ st'.length ∧ ∀ j, j ≠ Fo → j ≠ Pa → st'[j]? = st[j]? := by
  induction r with
  | @done d =>
    intro _ _ _ rest kvs st o5 o6 o7 o8 e hF _ _ _ _
    have : rest = [] := by
      have := congrArg List.length e
      rw [List.length_append] at this
      exact List.length_eq_zero_iff.mp (by omega)
    subst this
    exact ⟨o5, o6, o7, o8, st, rfl, hF, Nat.le_refl _, fun _ _ _ => rfl⟩
  | @next d q l x r ih =>
    intro inv nd hl rest kvs st o5 o6 o7 o8 e hF hP di hk hL
    obtain ⟨z, ez⟩ := Run.pre (.next r)
    have er : rest = x :: (q ++ z) := by
      have : d ++ rest = d ++ (x :: (q ++ z)) := by rw [← e, ez]; simp
      exact List.append_cancel_left this
    subst er
    have hx : x ∈ t :: d.flatMap ks := by rw [← inv]; simp
    have nd' : (((t :: d.flatMap ks) ++ ks x).map (·.1)).Nodup := by
      have es : t :: l.flatMap ks = ((t :: d.flatMap ks) ++ ks x) ++ (q ++ z).flatMap ks := by rw [e]; simp
      rw [es, List.map_append] at nd
      exact (List.nodup_append.mp nd).1
    have ld : d.length < 300 := by have := congrArg List.length e; rw [List.length_append, List.length_cons] at this; omega
    have lf : (d.filter (Ps lo hi)).length ≤ d.length := List.length_filter_le _ _
    obtain ⟨kvs', o6', o7', o8', s1, e1, l1, d1, p1, f1, g1, k1⟩ := due_turn (lo := lo) (hi := hi) (m := m) (o6 := o6) (o7 := o7) (o8 := o8) n1 hP hF (by omega) (by rw [List.length_map]; omega) di nd' hx
    have inv' : d ++ [x] ++ (q ++ ks x) = t :: (d ++ [x]).flatMap ks := by
      rw [List.flatMap_append]
      simp only [List.flatMap_cons, List.flatMap_nil, List.append_nil]
      rw [← List.cons_append, ← inv]
      simp
    have L1 : lstOf s1 Lk = some (l.map nw) := by
      unfold lstOf at hL ⊢
      rw [k1 Lk n2 n3]; exact hL
    have f1' : s1[Fo]? = some (.lst (((d ++ [x]).filter (Ps lo hi)).map nw)) := by rw [f1, List.filter_append, List.map_append]
    obtain ⟨a5, a6, a7, a8, s2, e2, f2, g2, k2⟩ := ih inv' nd hl (q ++ z) kvs' s1 (some (nw x)) o6' o7' o8' (by rw [e]; simp) f1' p1 (by
      rw [List.flatMap_append]
      simp only [List.flatMap_cons, List.flatMap_nil, List.append_nil]
      exact d1) (by rw [List.length_append, List.length_singleton]; omega) L1
    refine ⟨a5, a6, a7, a8, s2, ?_, f2, by omega, fun j j1 j2 => (k2 j j1 j2).trans (k1 j j1 j2)⟩
    rw [List.map_cons]
    unfold forL
    have e1' : g__law_due_L1 ([some m, some (.int lo), some (.int hi), some (.ref Fo), some (.ref Pa), o5, o6, o7, o8].set 5 (some (nw x))) st = .nx [some m, some (.int lo), some (.int hi), some (.ref Fo), some (.ref Pa), some (nw x), o6', o7', o8'] s1 := e1
    rw [e1']
    simp only [if_pos L1]
    exact e2
theorem ch_up {e : Int} : ∀ {s : Int} {l : List Nd}, Ch s l e → UpP l ∧ (∀ x ∈ l, s ≤ x.1 ∧ x.1 < x.2) := by
  intro s l
  induction l generalizing s with
  | nil => intro _; exact ⟨by first | trivial | simp [UpP], fun x hx => by cases hx⟩
  | cons a r ih =>
    intro h
    obtain ⟨h1, h2, h3⟩ := h
    obtain ⟨u, v⟩ := ih h3
    refine ⟨?_, fun x hx => ?_⟩
    · refine List.pairwise_cons.mpr ⟨fun b hb => ?_, u⟩
      have := v b hb
      unfold ltP
      simp
      omega
    · rcases List.mem_cons.mp hx with rfl | hx
      · exact ⟨by omega, h2⟩
      · have := v x hx
        omega
theorem found_ok {m lo hi : Int} {l : List An} (h1 : 1 ≤ m) (h2 : m ≤ 99) (h4 : lo < hi) (r : Run [] [rt m] l) : ((t : An) → t = rt m → ((t :: l.flatMap ks).map (·.1)).Nodup) ∧ l.length ≤ 300 ∧ ((l.filter (Ps lo hi)).map (·.1)).Perm (cov lo hi 8 0 m) := by
  have e7 : (2 : Int) ^ 7 = 128 := rfl
  have wd : Wd (rt m) := ⟨by show (0 : Int) < m; omega, by show m - 0 ≤ 2 ^ 7; omega⟩
  have pm : l.Perm (T (rt m)) := by
    have := r.perm fun y hy => by rw [List.mem_singleton.mp hy]; exact wd
    simpa using this
  have al : l = rt m :: l.flatMap ks := r.all (by simp)
  have tl := tr_len 7 (rt m)
  have e256 : 2 ^ (7 + 1) = 256 := rfl
  refine ⟨fun t ht => ?_, by rw [pm.length_eq]; show (tr 7 (rt m)).length ≤ 300; omega, ?_⟩
  · rw [ht, ← al]
    exact (pm.map _).nodup_iff.mpr (tr_nodup 7 wd.1)
  · refine ((pm.filter _).map _).trans ?_
    rw [sel h4 7 (x := rt m) wd.1 wd.2 (fun p z => by cases z)]
    exact List.Perm.refl _
theorem cov_more {lo hi : Int} : ∀ (n : Nat) {a b : Int}, a < b → b - a ≤ 2 ^ n → cov lo hi (n + 2) a b = cov lo hi (n + 1) a b
  | n, a, b, h1, h2 => by
    by_cases o : hi ≤ a ∨ b ≤ lo
    · rw [cov_out o, cov_out o]
    · by_cases k : lo ≤ a ∧ b ≤ hi
      · rw [cov_in o k, cov_in o k]
      · have w := wide o k
        obtain ⟨m1, m2⟩ := md_in w
        rw [cov_two o k, cov_two o k]
        cases n with
        | zero => exfalso; have : (2 : Int) ^ 0 = 1 := rfl; omega
        | succ n =>
          obtain ⟨w1, w2⟩ := md_w h2
          rw [cov_more n m1 w1, cov_more n m2 w2]
theorem due {m lo hi : Int} {st : Hs} (h1 : 1 ≤ m) (h2 : m ≤ 99) (h3 : 0 ≤ lo) (h4 : lo < hi) (h5 : hi ≤ m) : ∃ L st', F__law_due [.int m, .int lo, .int hi] st = .ok (.ref L) st' ∧ lstOf st' L = some ((cv m lo hi).map pw) ∧ Gr st st' := by
  have e7 : (2 : Int) ^ 7 = 128 := rfl
  have e8 : (2 : Int) ^ 8 = 256 := rfl
  have ec : cov lo hi 8 0 m = cv m lo hi := (cov_more 7 (by omega) (by omega)).symm
  obtain ⟨s1, hs1⟩ : ∃ s1, st ++ [Ob.lst []] = s1 := ⟨_, rfl⟩
  have n1 : s1.length = st.length + 1 := by rw [← hs1]; simp
  obtain ⟨s2, hs2⟩ : ∃ s2, s1 ++ [Ob.dcT [(kk (0, m), .non)]] = s2 := ⟨_, rfl⟩
  have n2 : s2.length = st.length + 2 := by rw [← hs2, List.length_append, n1]; rfl
  have g2 : Gr s1 s2 := by rw [← hs2]; exact Gr.push
  have f2 : s2[st.length]? = some (.lst []) := g2.get (by rw [← hs1]; exact new_get)
  have p2 : s2[s1.length]? = some (.dcT [(kk (0, m), .non)]) := by rw [← hs2]; exact new_get
  have dp : gDispT [((gTup (gCons (gC (.int 0)) (gCons (gVar 0) gNil))), (gC .non))] [some (.int m), some (.int lo), some (.int hi), some (.ref st.length), none, none, none, none, none] s1 = .ok (.ref s1.length) s2 := by
    have pp := putD_T (p := (0, m)) (v := .non) (st := s1 ++ [Ob.dcT []]) (d := s1.length) (kvs := []) new_get (by simp)
    have pp' : putD (.ref s1.length) (.tup [.int 0, .int m]) .non (s1 ++ [Ob.dcT []]) = some s2 := by
      rw [← hs2]
      refine pp.trans ?_
      rw [set_new]
      rfl
    unfold gDispT
    simp [pairsV, putsW, pp']
  obtain ⟨l, k, s3, e3, l3, g3, r⟩ := nodes (st := s2) h1 h2
  obtain ⟨nd, ll, pm⟩ := found_ok (lo := lo) (hi := hi) h1 h2 h4 r
  have f3 : s3[st.length]? = some (.lst ((([] : List An).filter (Ps lo hi)).map nw)) := g3.get f2
  have p3 := g3.get p2
  have kl := lstOf_lt l3
  have k1 : k ≠ st.length := fun z => by
    have q := l3
    unfold lstOf at q
    rw [z, f3] at q
    have al : l = rt m :: l.flatMap ks := r.all (by simp)
    rw [al] at q
    cases q
  have k2 : k ≠ s1.length := fun z => by
    have q := l3
    unfold lstOf at q
    rw [z, p3] at q
    cases q
  obtain ⟨o5, o6, o7, o8, s4, e4, f4, g4, k4⟩ := due_loop (lo := lo) (hi := hi) (m := .int m) (Fo := st.length) (Pa := s1.length) (Lk := k) (t := rt m) (by omega) k1 k2 r (by simp) (nd _ rfl) ll l [(kk (0, m), .non)] s3 none none none none rfl f3 p3 (fun y hy => by
    have : y = rt m := by simpa using hy
    subst this
    unfold valW
    exact if_pos rfl) (by simp) l3
  have so := srt_p (l := st.length) (st := s4) (ps := (l.filter (Ps lo hi)).map (·.1)) (by rw [lst_get f4, List.map_map]; rfl) (by
    rw [pm.length_eq, ec]
    have := cd_short (lo := lo) (hi := hi) (n := 9) (a := 0) (b := m) (by omega)
    show (cov lo hi 9 0 m).length < 64
    omega)
  have ch := cov_ch (lo := lo) (hi := hi) h4 8 (a := 0) (b := m) (by omega) (by omega) (by omega)
  have es : srtP ((l.filter (Ps lo hi)).map (·.1)) = cv m lo hi := srtP_one ((srtP_perm _).trans (pm.trans (by rw [ec]))) (srtP_up _) (ch_up ch).1
  rw [es] at so
  have kf : kFor 5 g__law_due_L1 [some (.int m), some (.int lo), some (.int hi), some (.ref st.length), some (.ref s1.length), none, none, none, none] (.ref k) s3 = .nx [some (.int m), some (.int lo), some (.int hi), some (.ref st.length), some (.ref s1.length), o5, o6, o7, o8] s4 := by rw [kFor_l l3]; exact e4
  refine ⟨s4.length, _, fn_rt (n := 9) (g := g__law_due) ?_, lstOf_new, ?_⟩
  · unfold g__law_due
    simp [hs1, dp, e3, kf, so]
  · have g03 : Gr st s3 := by rw [← hs1] at g2; exact Gr.push.trans (g2.trans g3)
    have g04 : Gr st s4 := ⟨Nat.le_trans g03.1 g4, fun j hj => (k4 j (by omega) (by omega)).trans (g03.2 j hj)⟩
    exact g04.trans Gr.push
theorem pw_same {p : Nd} {st : Hs} : oNe (pw p) (pw p) st = .ok (.bl false) st := ne_dat rfl rfl (by simp [PyData.eqv, PyData.eqvAll])
theorem pw_other {p q : Nd} {st : Hs} (h : p ≠ q) : oNe (pw p) (pw q) st = .ok (.bl true) st := by
  have z : PyData.eqv (.tuple [.int p.1, .int p.2]) (.tuple [.int q.1, .int q.2]) = false := by
    by_cases e : p.1 = q.1
    · have e2 : p.2 ≠ q.2 := fun e2 => h (Prod.ext e e2)
      simp [PyData.eqv, PyData.eqvAll, e2]
    · simp [PyData.eqv, PyData.eqvAll, e]
  show Re.ok (Wv.bl (!PyData.eqv (.tuple [.int p.1, .int p.2]) (.tuple [.int q.1, .int q.2]))) st = _
  rw [z]; rfl
section
variable {lo hi : Int}
theorem cd_sub : ∀ (n : Nat) {d a b : Int} {y : Nd × Int}, a < b → y ∈ cd lo hi n d a b → a ≤ y.1.1 ∧ y.1.1 < y.1.2 ∧ y.1.2 ≤ b
  | 0, _, _, _, _, _, h => by cases h
  | n + 1, d, a, b, y, hab, h => by
    by_cases o : hi ≤ a ∨ b ≤ lo
    · rw [cd_out o] at h; cases h
    · by_cases k : lo ≤ a ∧ b ≤ hi
      · rw [cd_in o k] at h
        rw [List.mem_singleton.mp h]
        exact ⟨Int.le_refl _, hab, Int.le_refl _⟩
      · obtain ⟨m1, m2⟩ := md_in (wide o k)
        rw [cd_two o k] at h
        rcases List.mem_append.mp h with z | z
        · have := cd_sub n m1 z; omega
        · have := cd_sub n m2 z; omega
abbrev hv_t : GT := gTst (gBin oNe (gVar 3) (gVar 1))
theorem hv_loop {m : Wv} : ∀ (n : Nat) {d a b : Int} {x : Nd} {j : Int}, a < b → b - a ≤ 2 ^ n → (x, j) ∈ cd lo hi (n + 1) d a b → ∀ (N : Nat) (o4 : Option Wv) (st : Hs), n < N → ∃ o4', whl hv_t g__law_halvings_L1 N [some m, some (pw x), some (.int d), some (pw (a, b)), o4] st = .nx [some m, some (pw x), some (.int j), some (pw x), o4'] st
  | n, d, a, b, x, j, hab, hw, h, 0, o4, st, hN => by omega
  | n, d, a, b, x, j, hab, hw, h, N + 1, o4, st, hN => by
    by_cases o : hi ≤ a ∨ b ≤ lo
    · rw [cd_out o] at h; cases h
    · by_cases k : lo ≤ a ∧ b ≤ hi
      · rw [cd_in o k] at h
        have e := List.mem_singleton.mp h
        cases e
        exact ⟨o4, whl_f (by simp [pw_same])⟩
      · obtain ⟨m1, m2⟩ := md_in (wide o k)
        rw [cd_two o k] at h
        cases n with
        | zero => exfalso; have := wide o k; have : (2 : Int) ^ 0 = 1 := rfl; omega
        | succ n =>
          obtain ⟨w1, w2⟩ := md_w hw
          have em : (a + b) / 2 = md a b := rfl
          rcases List.mem_append.mp h with z | z
          · have s := cd_sub (n + 1) m1 z
            have ne : (a, b) ≠ x := fun e => by rw [← e] at s; dsimp only at s; omega
            have le : x.2 ≤ md a b := s.2.2
            obtain ⟨o4', e⟩ := hv_loop n m1 w1 z N (some (.int (md a b))) st (by omega)
            refine ⟨o4', (whl_t (st1 := st) ?_ ?_).trans e⟩
            · simp [pw_other ne]
            · unfold g__law_halvings_L1
              simp [ix0, ix1, dv2, em, le]
          · have s := cd_sub (n + 1) m2 z
            have ne : (a, b) ≠ x := fun e => by rw [← e] at s; dsimp only at s; omega
            have le : ¬ x.2 ≤ md a b := by have := s.1; have := s.2.1; dsimp only at *; omega
            obtain ⟨o4', e⟩ := hv_loop n m2 w2 z N (some (.int (md a b))) st (by omega)
            refine ⟨o4', (whl_t (st1 := st) ?_ ?_).trans e⟩
            · simp [pw_other ne]
            · unfold g__law_halvings_L1
              simp [ix0, ix1, dv2, em, le]
theorem halvings {m : Int} {x : Nd} {j : Int} {st : Hs} (h1 : 1 ≤ m) (h2 : m ≤ 99) (h : (x, j) ∈ cd lo hi 9 0 0 m) : F__law_halvings [.int m, pw x] st = .ok (.int j) st := by
  have e8 : (2 : Int) ^ 8 = 256 := rfl
  obtain ⟨o4, e⟩ := hv_loop (m := .int m) 8 (by omega) (by omega) h wTurns none st (by unfold wTurns; omega)
  have e' : gWhile wTurns hv_t g__law_halvings_L1 [some (.int m), some (pw x), some (.int 0), some (.tup [.int 0, .int m]), none] st = .nx [some (.int m), some (pw x), some (.int j), some (pw x), o4] st := e
  refine fn_rt (n := 5) (g := g__law_halvings) ?_
  unfold g__law_halvings
  simp only [e_seq, e_set, e_cons, e_tup, e_c, e_var, e_nil, e_ret]
  simp
  erw [e']
  simp
end
def dpt (l : List (Nd × Int)) (x : Nd) : Int := match l.find? (fun y => y.1 == x) with
  | some y => y.2
  | none => 0
theorem dpt_mem {l : List (Nd × Int)} {x : Nd} (h : x ∈ l.map (·.1)) : (x, dpt l x) ∈ l := by
  unfold dpt
  cases e : l.find? (fun y => y.1 == x) with
  | none =>
    obtain ⟨y, hy, rfl⟩ := List.mem_map.mp h
    have := List.find?_eq_none.mp e y hy
    simp at this
  | some y =>
    have h1 := List.mem_of_find?_eq_some e
    have h2 := List.find?_some e
    have h3 : y.1 = x := by simpa using h2
    rw [← h3]
    exact h1
theorem dpt_all {lo hi m : Int} (h1 : 1 ≤ m) (h2 : m ≤ 99) : (cv m lo hi).map (dpt (cd lo hi 9 0 0 m)) = deps (cd lo hi 9 0 0 m) := by
  show ((cd lo hi 9 0 0 m).map (·.1)).map (dpt (cd lo hi 9 0 0 m)) = (cd lo hi 9 0 0 m).map (·.2)
  rw [List.map_map]
  refine List.map_congr_left fun y hy => ?_
  have a := halvings (st := []) h1 h2 (dpt_mem (List.mem_map.mpr ⟨y, hy, rfl⟩))
  have b := halvings (x := y.1) (j := y.2) (st := []) h1 h2 hy
  rw [a] at b
  injection b with b
  injection b with b
theorem isA_list {l : Nat} {ws : List Wv} {st : Hs} (h : lstOf st l = some ws) : oIsA tbl tblT [.ref l, .ty "list"] st = .ok (.bl true) st := by
  show (if okTy "list" = true then (match isW st "list" (.ref l) with | some b => Re.ok (Wv.bl b) st | none => .bad) else .bad) = _
  rw [if_pos (by decide)]
  have : isW st "list" (.ref l) = some true := by show (lstOf st l).map (fun _ => "list" == "list") = _; rw [h]; rfl
  rw [this]
theorem dat_p {st : Hs} : ∀ (ps : List Nd), mapO (datum st 19) (ps.map pw) = some (ps.map fun p => PyData.tuple [.int p.1, .int p.2])
  | [] => rfl
  | p :: r => by
    rw [List.map_cons, List.map_cons]
    unfold mapO
    rw [show datum st 19 (pw p) = some (.tuple [.int p.1, .int p.2]) from rfl, dat_p r]
theorem lay_p : ∀ (ps : List Nd), PyData.canLayAll0 (ps.map fun p => PyData.tuple [.int p.1, .int p.2]) = true
  | [] => rfl
  | p :: r => by simp [PyData.canLayAll0, PyData.canLay0, lay_p r]
theorem ne_ps {l k : Nat} {ps : List Nd} {st : Hs} (h : lstOf st l = some (ps.map pw)) (h' : lstOf st k = some (ps.map pw)) : oNe (.ref l) (.ref k) st = .ok (.bl false) st :=
  ne_dat (by rw [dat_l h, dat_p]; rfl) (by rw [dat_l h', dat_p]; rfl) (PySem.SeqAt.eqv_refl (.list (ps.map fun p : Nd => PyData.tuple [.int p.1, .int p.2])) (lay_p ps))
theorem eq_ps {l k : Nat} {ps : List Nd} {st : Hs} (h : lstOf st l = some (ps.map pw)) (h' : lstOf st k = some (ps.map pw)) : oEq (.ref l) (.ref k) st = .ok (.bl true) st :=
  eq_dat (by rw [dat_l h, dat_p]; rfl) (by rw [dat_l h', dat_p]; rfl) (PySem.SeqAt.eqv_refl (.list (ps.map fun p : Nd => PyData.tuple [.int p.1, .int p.2])) (lay_p ps))
theorem Ch.next : ∀ {l : List Nd} {s e : Int} {k : Nat} {x y : Nd}, Ch s l e → l[k]? = some x → l[k + 1]? = some y → x.2 = y.1
  | a :: b :: r, s, e, 0, x, y, h, h1, h2 => by
    cases h1; cases h2
    exact h.2.2.1.symm
  | a :: r, s, e, k + 1, x, y, h, h1, h2 => Ch.next h.2.2 h1 h2
  | [], _, _, _, _, _, _, h1, _ => by cases h1
  | [a], _, _, 0, _, _, _, _, h2 => by cases h2
theorem Ch.last : ∀ {l : List Nd} {s e : Int} {t : List Nd} {x : Nd}, Ch s l e → l = t ++ [x] → x.2 = e
  | _, s, e, [], x, h, rfl => h.2.2
  | _, s, e, a :: t, x, h, rfl => Ch.last (t := t) h.2.2 rfl
theorem adj {ps : List Nd} {lo hi m : Int} {D F : Nat} {o6 : Option Wv} {st : Hs} (hc : Ch lo ps hi) (hl : lstOf st F = some (ps.map pw)) (hn : ps.length < 1000) :
    ∃ o5, forT 5 g__law_told_L1 (rngW 1 ((ps.length : Int) - 1).toNat) [some (.int m), some (.int lo), some (.int hi), some (.ref D), some (.ref F), none, o6] st = .nx [some (.int m), some (.int lo), some (.int hi), some (.ref D), some (.ref F), o5, o6] st := by
  obtain ⟨ρ', st', e, o5, rfl, rfl⟩ := forT_inv (i := 5) (gb := g__law_told_L1) (fun ρ s => ∃ o5, ρ = [some (.int m), some (.int lo), some (.int hi), some (.ref D), some (.ref F), o5, o6] ∧ s = st) (rngW 1 ((ps.length : Int) - 1).toNat) [some (.int m), some (.int lo), some (.int hi), some (.ref D), some (.ref F), none, o6] st ⟨_, rfl, rfl⟩
    fun w hw ρ s hP => by
      obtain ⟨o5, rfl, rfl⟩ := hP
      obtain ⟨k, rfl, k1, k2⟩ := rng_mem hw
      obtain ⟨j, rfl⟩ : ∃ j : Nat, k = ((j + 1 : Nat) : Int) := ⟨(k - 1).toNat, by omega⟩
      have j1 : j + 1 < ps.length := by omega
      have x0 : oIx (.ref F) (.int ((j + 1 : Nat) : Int)) s = .ok (pw ps[j + 1]) s := ix_l hl (L2.atI_nat (by simp [j1]))
      have x1 : oIx (.ref F) (.int (((j + 1 : Nat) : Int) - 1)) s = .ok (pw (ps[j]'(by omega))) s := ix_l hl (by
        rw [show (((j + 1 : Nat) : Int) - 1) = ((j : Nat) : Int) by omega]
        refine L2.atI_nat ?_
        have : j < ps.length := by omega
        simp [this])
      have en := Ch.next (k := j) hc (List.getElem?_eq_getElem (by omega)) (List.getElem?_eq_getElem j1)
      refine ⟨[some (.int m), some (.int lo), some (.int hi), some (.ref D), some (.ref F), some (.int ((j + 1 : Nat) : Int)), o6], s, ?_, _, rfl, rfl⟩
      unfold g__law_told_L1
      simp only [e_if, e_tst, e_bin, e_var, List.set_cons_succ, List.set_cons_zero, List.getElem?_cons_succ, List.getElem?_cons_zero, rdV_s, bind_ok, kB_d, e_c, sub_i, nox_ok, x0, x1, ix0, ix1, ne_i, en]
      simp
  exact ⟨o5, e⟩
theorem count_i {l : Nat} {ds : List Int} {j : Int} {st : Hs} (h : lstOf st l = some (ds.map Wv.int)) : mLCount (.ref l) (.int j) st = .ok (.int (ds.count j : Nat)) st := by
  have f : (ds.map Wv.int).all flatW = true := by simp [flatW]
  unfold mLCount
  simp only [h]
  rw [if_pos ⟨rfl, f⟩, List.countP_map]
  rfl
theorem few {ds : List Int} {l : Nat} {ρ : Rho} {st : Hs} (h : lstOf st l = some (ds.map Wv.int)) (hρ : ρ[6]? = some (some (.ref l))) (hc : ∀ j, ds.count j ≤ 2) (hn : ds.length < 1000) : compRun [("deep", 6)] g__law_told_C1t g__law_told_C1e ρ (some l, ds.map Wv.int) st = .ok (.ref st.length) (st ++ [.lst []]) := by
  have q := comp_pure (cs := [("deep", 6)]) (gt := g__law_told_C1t) (ge := g__law_told_C1e) (ρ := ρ) (w := (some l, ds.map Wv.int)) (st := st) (t := fun _ => false) (f := id) h
    (fun v hv acc => by
      obtain ⟨j, _, rfl⟩ := List.mem_map.mp hv
      have cn := count_i (j := j) (lstOf_old (o := .lst acc) h)
      have hcj := hc j
      have no : ¬ (2 : Int) < (ds.count j : Nat) := by omega
      have al : gAlt (gMethS mCount (gVar 1) (gCons (gVar 0) gNil)) (gMeth mLCount (gVar 1) (gVar 0)) [some (.int j), some (.ref l)] (st ++ [.lst acc]) = .ok (.int (ds.count j : Nat)) (st ++ [.lst acc]) := by
        rw [e_alt2 rfl]
        simp [kMeth_l (lstOf_old (o := .lst acc) h), cn]
      unfold g__law_told_C1t capR
      simp only [List.map_cons, List.map_nil, hρ]
      show gTst _ [some (.int j), some (.ref l)] _ = _
      rw [e_tst, e_bin, al]
      simp [no]) (fun v hv z acc => by cases z) (by rw [show ((some l, ds.map Wv.int) : Wk).2 = ds.map Wv.int from rfl, List.length_map]; unfold lim; omega)
  rw [q]
  simp
theorem told {m lo hi : Int} {st : Hs} (h1 : 1 ≤ m) (h2 : m ≤ 99) (h3 : 0 ≤ lo) (h4 : lo < hi) (h5 : hi ≤ m) : ∃ st', F__law_told [.int m, .int lo, .int hi] st = .ok (.bl true) st' ∧ Gr st st' := by
  have e8 : (2 : Int) ^ 8 = 256 := rfl
  obtain ⟨D, s1, e1, l1, g1⟩ := due (st := st) h1 h2 h3 h4 h5
  obtain ⟨F, s2, e2, l2, g2, n2⟩ := cover (st := s1) h1 h2 h3 h4 h5
  have ch := cov_ch (lo := lo) (hi := hi) h4 8 (a := 0) (b := m) (by omega) (by omega) (by omega)
  have ch' : Ch lo (cv m lo hi) hi := by
    rw [show max (0 : Int) lo = lo by omega, show min m hi = hi by omega] at ch
    exact ch
  have sh := cd_short (lo := lo) (hi := hi) (n := 9) (a := 0) (b := m) (by omega)
  have ca := fun j => (cd_all (lo := lo) (hi := hi) 9 0 0 m j (by omega)).1
  have da := dpt_all (lo := lo) (hi := hi) h1 h2
  have hv : ∀ x ∈ cv m lo hi, ∀ st : Hs, F__law_halvings [.int m, pw x] st = .ok (.int (dpt (cd lo hi 9 0 0 m) x)) st := fun x hx st => halvings h1 h2 (dpt_mem hx)
  obtain ⟨ps, hps⟩ : ∃ ps, cv m lo hi = ps := ⟨_, rfl⟩
  have sh' : ps.length ≤ 18 := by rw [← hps]; exact sh
  rw [hps] at l1 l2 ch' da hv
  have ne := ne_ps l2 (g2.lst l1)
  obtain ⟨x, r, er⟩ : ∃ x r, ps = x :: r := by
    cases ps with
    | nil => exfalso; have : lo = hi := ch'; omega
    | cons x r => exact ⟨x, r, rfl⟩
  obtain ⟨t, z, ez⟩ : ∃ t z, ps = t ++ [z] := ⟨ps.dropLast, ps.getLast (by rw [er]; simp), (List.dropLast_concat_getLast (by rw [er]; simp)).symm⟩
  have x0 : oIx (.ref F) (.int 0) s2 = .ok (pw x) s2 := ix_l l2 (by rw [er]; exact atI_0)
  have z0 : oIx (.ref F) (.int (-1)) s2 = .ok (pw z) s2 := ix_l l2 (by rw [ez, List.map_append]; exact atI_last)
  have hx : x.1 = lo := by rw [er] at ch'; exact ch'.1
  have hz : z.2 = hi := Ch.last ch' ez
  have ln := len_l l2
  rw [List.length_map] at ln
  obtain ⟨o5, ea⟩ := adj (m := m) (D := D) (o6 := none) ch' l2 (by omega)
  have cr : CRng 1 ∧ CRng (ps.length : Int) := ⟨crng (by omega) (by omega), crng (by omega) (by omega)⟩
  have cp := comp_pure (cs := [("many", 0)]) (gt := g__law_told_C2t) (ge := g__law_told_C2e) (ρ := [some (.int m), some (.int lo), some (.int hi), some (.ref D), some (.ref F), o5, none]) (w := (some F, ps.map pw)) (st := s2) (t := fun _ => true) (f := fun v => match v with
      | .tup [.int a, .int b] => .int (dpt (cd lo hi 9 0 0 m) (a, b))
      | _ => .non) l2 (fun v hv acc => rfl) (fun v hv' _ acc => by
      obtain ⟨p, hp, rfl⟩ := List.mem_map.mp hv'
      unfold g__law_told_C2e capR
      have := hv p hp (s2 ++ [.lst acc])
      simp [this]) (by rw [show ((some F, ps.map pw) : Wk).2 = ps.map pw from rfl, List.length_map]; unfold lim; omega)
  have ed : (((some F, ps.map pw) : Wk).2.filter fun _ => true).map (fun v => match v with
      | .tup [.int a, .int b] => Wv.int (dpt (cd lo hi 9 0 0 m) (a, b))
      | _ => .non) = (deps (cd lo hi 9 0 0 m)).map Wv.int := by
    rw [← da, List.filter_eq_self.mpr (fun _ _ => rfl), List.map_map, List.map_map]
    rfl
  rw [ed] at cp
  have ld : (deps (cd lo hi 9 0 0 m)).length ≤ 18 := by rw [← da, List.length_map]; exact sh'
  generalize deps (cd lo hi 9 0 0 m) = ds at cp ca ld
  have l3 : lstOf (s2 ++ [.lst (ds.map Wv.int)]) s2.length = some (ds.map Wv.int) := lstOf_new
  have g3 : Gr s2 (s2 ++ [.lst (ds.map Wv.int)]) := Gr.push
  generalize s2 ++ [.lst (ds.map Wv.int)] = s3 at cp l3 g3
  have fw := few (ρ := [some (.int m), some (.int lo), some (.int hi), some (.ref D), some (.ref F), o5, some (.ref s2.length)]) l3 rfl ca (by omega)
  have l4 : lstOf (s3 ++ [.lst []]) s3.length = some [] := lstOf_new
  have g4 : Gr s3 (s3 ++ [.lst []]) := Gr.push
  generalize s3 ++ [.lst []] = s4 at fw l4 g4
  have ln4 := len_l l4
  have lF := (g3.trans g4).lst l2
  have hF : s4[F]? = some (.lst (ps.map pw)) := by
    unfold lstOf at lF
    cases q : s4[F]? with
    | none => rw [q] at lF; cases lF
    | some o =>
      rw [q] at lF
      cases o with
      | lst ws => cases lF; rfl
      | scr ns =>
        rw [er] at lF
        cases ns <;> cases lF
      | dct _ => cases lF
      | dcT _ => cases lF
  have ap := app_l (v := .tup [.int 0, .int m]) hF (by rw [List.length_map]; unfold lim; omega)
  have kF : Keep F s4 (s4.set F (.lst (ps.map pw ++ [.tup [.int 0, .int m]]))) := Keep.set
  generalize s4.set F (.lst (ps.map pw ++ [.tup [.int 0, .int m]])) = s5 at ap kF
  have lD : lstOf s5 D = some (ps.map pw) := kF.lst ((g2.trans (g3.trans g4)).lst l1) (by have := lstOf_lt l1; omega)
  obtain ⟨L, s6, e6, l6, g6, _⟩ := cover (st := s5) h1 h2 h3 h4 h5
  rw [hps] at l6
  have eq := eq_ps l6 (g6.lst lD)
  refine ⟨s6, ?_, (Gr.keepAt (l := F) (Nat.le_trans g1.1 n2) (g1.trans (g2.trans (g3.trans g4))) kF).trans g6⟩
  refine fn_rt (n := 7) (g := g__law_told) ?_
  have km := fun ga => kMeth_l (mt := mApp) (ga := ga) (ρ := [some (.int m), some (.int lo), some (.int hi), some (.ref D), some (.ref F), o5, some (.ref s2.length)]) lF
  rw [show ((ps.length : Int) - 1).toNat = ps.length - 1 by omega] at ea
  unfold g__law_told
  simp [e1, e2, isA_list l2, ne, x0, z0, ix0, ix1, hx, hz, ln, cr, ea, seqW_l l2, cp, seqW_l l3, fw, ln4, km, ap, e6, eq]
theorem mixed {st : Hs} {c k : Int} (h0 : 0 ≤ k) (h1 : k < 1000000) : ∃ v : Int, 0 ≤ v ∧ v < 2147483647 ∧ F__law_mixed [.int c, .int k] st = .ok (.int v) st := by
  have z1 : oMulL (.int 7919) (.int k) st = .ok (.int (7919 * k)) st := mul_l (by decide) (by decide)
  have z2 : ∀ i : Int, oMulL (.int i) (.int 48271) st = .ok (.int (i * 48271)) st := fun i => mul_r (by decide) (by decide)
  have z3 : ∀ i : Int, oMulL (.int i) (.int 69621) st = .ok (.int (i * 69621)) st := fun i => mul_r (by decide) (by decide)
  generalize hs : ((c.fmod 1000000007 + 7919 * k + 1) * 48271).fmod 2147483647 = s
  have s0 : 0 ≤ s := by rw [← hs]; exact Int.fmod_nonneg_of_pos _ (by decide)
  have s1 : s < 2147483647 := by rw [← hs]; exact Int.fmod_lt_of_pos _ (by decide)
  have z4 : oMulL (.int s) (.int s) st = .ok (.int (s * s)) st := mul_l (by omega) (by omega)
  refine ⟨((s * s).fmod 2147483629 * 69621).fmod 2147483647, Int.fmod_nonneg_of_pos _ (by decide), Int.fmod_lt_of_pos _ (by decide), ?_⟩
  unfold F__law_mixed fnF g__law_mixed
  simp [z1, z2, z3, z4, hs, mod_i]
theorem cell_at {st : Hs} {l : Nat} {ns : List Int} (h : lstOf st l = some (ns.map Wv.int)) {k : Int} (h0 : 0 ≤ k) : ∃ v : Int, F__law_cell_at [.ref l, .int k] st = .ok (.int v) st := by
  have ln := len_l h
  rw [List.length_map] at ln
  unfold F__law_cell_at fnF g__law_cell_at
  by_cases c : k < ns.length
  · have hk : k.toNat < ns.length := by omega
    have ek : k = ((k.toNat : Nat) : Int) := by omega
    have a : L2.atI (ns.map Wv.int) k = some (.int ns[k.toNat]) := by
      have q := L2.atI_nat (xs := ns.map Wv.int) (j := k.toNat) (v := .int ns[k.toNat]) (by simp [hk])
      rw [← ek] at q
      exact q
    exact ⟨ns[k.toNat], by simp [ln, c, ix_l h a]⟩
  · exact ⟨0, by simp [ln, c]⟩
theorem row_of {st : Hs} {l : Nat} {ns : List Int} (h : lstOf st l = some (ns.map Wv.int)) {k : Int} (h0 : 0 ≤ k) (h1 : k < 1000) : ∃ n : Int, F__law_row_of [.ref l, .int k] st = .ok (.ref st.length) (st ++ [.lst [.int n]]) := by
  obtain ⟨v, ev⟩ := cell_at h h0
  obtain ⟨v0, ev0⟩ := cell_at h (k := 0) (Int.le_refl _)
  have ln := len_l h
  rw [List.length_map] at ln
  have sm := sum_l h
  have m3 : oMulL (.int 3) (.int k) st = .ok (.int (3 * k)) st := mul_l (by decide) (by decide)
  obtain ⟨a, a0, a1, ea⟩ := mixed (st := st) (c := v + ns.sum) (k := 3 * k) (by omega) (by omega)
  obtain ⟨b, b0, b1, eb⟩ := mixed (st := st) (c := v) (k := 3 * k + 1) (by omega) (by omega)
  have d8 : oFdiv (.int a) (.int 8) st = .ok (.int (a.fdiv 8)) st := fdiv_i ⟨by decide, by decide⟩
  have mm : oMulL (.int (a.fdiv 8)) (.int 2147483647) st = .ok (.int (a.fdiv 8 * 2147483647)) st := mul_r (by decide) (by decide)
  have o2 : oMod (.int v0) (.int 2) st = .ok (.int (v0.fmod 2)) st := mod_i (by decide)
  by_cases c1 : v0.fmod 2 = 1
  · by_cases c2 : k < ns.length
    · refine ⟨v, fn_rt (n := 3) (g := g__law_row_of) ?_⟩
      unfold g__law_row_of
      simp [ev, ev0, o2, c1, c2, ln]
    · refine ⟨a.fdiv 8 * 2147483647 + b, fn_rt (n := 3) (g := g__law_row_of) ?_⟩
      unfold g__law_row_of
      simp [ev, ev0, o2, c1, c2, ln, sm, m3, ea, eb, d8, mm]
  · refine ⟨a.fdiv 8 * 2147483647 + b, fn_rt (n := 3) (g := g__law_row_of) ?_⟩
    unfold g__law_row_of
    simp [ev, ev0, o2, (beq_false_of_ne c1 : (v0.fmod 2 == 1) = false), ln, sm, m3, ea, eb, d8, mm]
theorem digit {st : Hs} {l : Nat} {n many : Int} (h : st[l]? = some (.lst [.int n])) (hm : many ≠ 0 ∧ many.natAbs.log2 < 9000) :
    F__law_digit [.ref l, .int many] st = .ok (.int (n.fmod many)) (st.set l (.lst [.int (n.fdiv many)])) := by
  have hl : lstOf st l = some [.int n] := by unfold lstOf; rw [h]
  have h0 : L2.atI [Wv.int n] 0 = some (.int n) := rfl
  unfold F__law_digit fnF g__law_digit
  simp [ix_l hl h0, mod_i hm.1, fdiv_i hm, gSetI, oSet, h, L2.ixN]
theorem draw {st : Hs} {l : Nat} {n : Int} (many : Int) (h : st[l]? = some (.lst [.int n])) (hp : 0 < many) (hm : many ≤ 1000) : ∃ d n' st', F__law_digit [.ref l, .int many] st = .ok (.int d) st' ∧ 0 ≤ d ∧ d < many ∧ Keep l st st' ∧ st'[l]? = some (.lst [.int n']) :=
  ⟨_, _, _, digit h ⟨by omega, Nat.lt_trans (log_lt (k := 20) (b := 1000) (by omega) hm (by decide) (by decide)) (by decide)⟩, Int.fmod_nonneg_of_pos _ hp, Int.fmod_lt_of_pos _ hp, Keep.set, set_get h⟩
def Sd (m : Int) (p : Nd) : Prop := 0 ≤ p.1 ∧ p.1 < p.2 ∧ p.2 ≤ m
theorem draw_turn {m : Int} {ns : List Int} {hd : Wv} {L : Nat} {ps : List Nd} {j : Int} {o5 o6 o7 : Option Wv} {st : Hs} (h1 : 1 ≤ m) (h2 : m ≤ 99) (j0 : 0 ≤ j) (j1 : j < 12) (hs : lstOf st 0 = some (ns.map Wv.int)) (hL : st[L]? = some (.lst (ps.map pw))) (L0 : L ≠ 0) (hn : ps.length < 100) :
    ∃ o5' o6' p st', g_law_L2 [some (.ref 0), some hd, some (.int m), some (.ref L), some (.int j), o5, o6, o7] st = .nx [some (.ref 0), some hd, some (.int m), some (.ref L), some (.int j), o5', o6', o7] st' ∧ lstOf st' 0 = some (ns.map Wv.int) ∧ st'[L]? = some (.lst ((ps ++ [p]).map pw)) ∧ Sd m p := by
  obtain ⟨n, e1⟩ := row_of hs (k := j + 1) (by omega) (by omega)
  have q1 : (st ++ [.lst [.int n]])[st.length]? = some (.lst [.int n]) := new_get
  have hs1 : lstOf (st ++ [.lst [.int n]]) 0 = some (ns.map Wv.int) := lstOf_old hs
  have hL1 : (st ++ [.lst [.int n]])[L]? = some (.lst (ps.map pw)) := push_get hL
  have lt0 := lstOf_lt hs
  have ltL := get_lt hL
  generalize st ++ [.lst [.int n]] = s1 at e1 q1 hs1 hL1
  obtain ⟨d, n2, s2, e2, d0, d1, k2, q2⟩ := draw m q1 (by omega) (by omega)
  obtain ⟨d', n3, s3, e3, f0, f1, k3, q3⟩ := draw (m - d) q2 (by omega) (by omega)
  have k := k2.trans k3
  have hs3 := k.lst hs1 (by omega)
  have hL3 : s3[L]? = some (.lst (ps.map pw)) := by rw [k.2 L (get_lt hL1) (by omega)]; exact hL1
  have ap := app_l (v := pw (d, d + 1 + d')) hL3 (by rw [List.length_map]; unfold lim; omega)
  have ap' : mApp (.ref L) (.tup [.int d, .int (d + 1 + d')]) s3 = .ok .non (s3.set L (.lst (ps.map pw ++ [pw (d, d + 1 + d')]))) := ap
  have kF : Keep L s3 (s3.set L (.lst (ps.map pw ++ [pw (d, d + 1 + d')]))) := Keep.set
  have hL2 : lstOf s2 L = some (ps.map pw) := k2.lst (lst_get hL1) (by omega)
  have km := fun ga => kMeth_l (mt := mApp) (ga := ga) (ρ := [some (.ref 0), some hd, some (.int m), some (.ref L), some (.int j), some (.ref st.length), some (.int d), o7]) hL2
  refine ⟨some (.ref st.length), some (.int d), (d, d + 1 + d'), s3.set L (.lst (ps.map pw ++ [pw (d, d + 1 + d')])), ?_, kF.lst hs3 (Ne.symm L0), by rw [set_get hL3]; simp, d0, by show d < d + 1 + d'; omega, by show d + 1 + d' ≤ m; omega⟩
  unfold g_law_L2
  simp [e1, e2, km, e3, ap']
theorem few_all {m : Int} {ρ : Rho} {st : Hs} (hρ : ρ[2]? = some (some (.int m))) : ∃ ps : List Nd, compRun [("many", 2)] g_law_C1t g_law_C1e ρ (none, rngW 0 100) st = .ok (.ref st.length) (st ++ [.lst (ps.map pw)]) ∧ ∀ p ∈ ps, Sd m p := by
  let t : Wv → Bool := fun v => match v with
    | .int k => decide (k.fdiv 10 < k.fmod 10) && decide (k.fmod 10 ≤ m)
    | _ => false
  let f : Wv → Wv := fun v => match v with
    | .int k => pw (k.fdiv 10, k.fmod 10)
    | _ => .non
  have q := comp_pure (cs := [("many", 2)]) (gt := g_law_C1t) (ge := g_law_C1e) (ρ := ρ) (w := (none, rngW 0 100)) (st := st) (t := t) (f := f) trivial
    (fun v hv acc => by
      obtain ⟨k, rfl, _, _⟩ := rng_mem hv
      have a1 : oFdiv (.int k) (.int 10) (st ++ [.lst acc]) = .ok (.int (k.fdiv 10)) (st ++ [.lst acc]) := fdiv_i ⟨by decide, by decide⟩
      have a2 : oMod (.int k) (.int 10) (st ++ [.lst acc]) = .ok (.int (k.fmod 10)) (st ++ [.lst acc]) := mod_i (by decide)
      unfold g_law_C1t capR
      show _ = Re.ok (decide (k.fdiv 10 < k.fmod 10) && decide (k.fmod 10 ≤ m)) _
      by_cases c : k.fdiv 10 < k.fmod 10
      · simp [hρ, a1, a2, c]
      · simp [hρ, a1, a2, c])
    (fun v hv _ acc => by
      obtain ⟨k, rfl, _, _⟩ := rng_mem hv
      have a1 : oFdiv (.int k) (.int 10) (st ++ [.lst acc]) = .ok (.int (k.fdiv 10)) (st ++ [.lst acc]) := fdiv_i ⟨by decide, by decide⟩
      have a2 : oMod (.int k) (.int 10) (st ++ [.lst acc]) = .ok (.int (k.fmod 10)) (st ++ [.lst acc]) := mod_i (by decide)
      unfold g_law_C1e capR
      simp [a1, a2]
      rfl) (by show (rngW 0 100).length < lim; rw [rngW_len]; unfold lim; omega)
  have key : ∀ ws : List Wv, (∀ w ∈ ws, ∃ k : Int, w = .int k ∧ 0 ≤ k) → ∃ ps : List Nd, (ws.filter t).map f = ps.map pw ∧ ∀ p ∈ ps, Sd m p := by
    intro ws
    induction ws with
    | nil => intro _; exact ⟨[], rfl, fun p hp => by cases hp⟩
    | cons w r ih =>
      intro h
      obtain ⟨k, rfl, k0⟩ := h w List.mem_cons_self
      obtain ⟨ps, e, hp⟩ := ih fun w hw => h w (List.mem_cons_of_mem _ hw)
      by_cases c : t (.int k) = true
      · have c' : (decide (k.fdiv 10 < k.fmod 10) && decide (k.fmod 10 ≤ m)) = true := c
        simp at c'
        refine ⟨(k.fdiv 10, k.fmod 10) :: ps, by rw [List.filter_cons_of_pos c, List.map_cons, e]; rfl, fun p hq => ?_⟩
        rcases List.mem_cons.mp hq with rfl | hq
        · exact ⟨Int.fdiv_nonneg k0 (by decide), c'.1, c'.2⟩
        · exact hp p hq
      · exact ⟨ps, by rw [List.filter_cons_of_neg c]; exact e, hp⟩
  obtain ⟨ps, e, hp⟩ := key (rngW 0 100) fun w hw => by
    obtain ⟨k, rfl, k0, _⟩ := rng_mem hw
    exact ⟨k, rfl, k0⟩
  refine ⟨ps, ?_, hp⟩
  rw [q, show ((none, rngW 0 100) : Wk).2 = rngW 0 100 from rfl, e]
theorem all_told {m : Int} {hd : Wv} {L : Nat} {ps : List Nd} {o4 o5 o6 o7 : Option Wv} {st : Hs} (h1 : 1 ≤ m) (h2 : m ≤ 99) (hL : lstOf st L = some (ps.map pw)) (hp : ∀ p ∈ ps, Sd m p) :
    ∃ o6' o7' st', gForB [6, 7] (gVar 3) g_law_L1 [some (.ref 0), some hd, some (.int m), some (.ref L), o4, o5, o6, o7] st = .nx [some (.ref 0), some hd, some (.int m), some (.ref L), o4, o5, o6', o7'] st' ∧ Gr st st' := by
  obtain ⟨ρ', s', e, o6', o7', rfl, g⟩ := forLB_inv (is := [6, 7]) (gb := g_law_L1) (l := L) (all := ps.map pw) (fun ρ s => ∃ o6 o7, ρ = [some (.ref 0), some hd, some (.int m), some (.ref L), o4, o5, o6, o7] ∧ Gr st s) (ps.map pw) [some (.ref 0), some hd, some (.int m), some (.ref L), o4, o5, o6, o7] st ⟨_, _, rfl, Gr.refl⟩ hL
    fun w hw ρ s hP hl => by
      obtain ⟨o6, o7, rfl, g⟩ := hP
      obtain ⟨p, hq, rfl⟩ := List.mem_map.mp hw
      obtain ⟨a, b, c⟩ := hp p hq
      obtain ⟨s2, e2, g2⟩ := told (st := s) h1 h2 a b c
      refine ⟨[some (.ref 0), some hd, some (.int m), some (.ref L), o4, o5, some (.int p.1), some (.int p.2)], [some (.ref 0), some hd, some (.int m), some (.ref L), o4, o5, some (.int p.1), some (.int p.2)], s2, rfl, ?_, g2.lst hl, _, _, rfl, g.trans g2⟩
      unfold g_law_L1
      simp [e2]
  refine ⟨o6', o7', s', ?_, g⟩
  unfold gForB
  simp [hL, e]
theorem law_true : ∀ ns : List Int, ns.length ≤ 63 → ∃ st, F_law [.ref 0] [.scr ns] = .ok (.bl true) st := by
  intro ns _
  have l0 : lstOf [Ob.scr ns] 0 = some (ns.map Wv.int) := rfl
  obtain ⟨v, e0⟩ := cell_at l0 (k := 0) (Int.le_refl _)
  have d2 : oFdiv (.int v) (.int 2) [Ob.scr ns] = .ok (.int (v.fdiv 2)) [Ob.scr ns] := fdiv_i ⟨by decide, by decide⟩
  have m99 : oMod (.int (v.fdiv 2)) (.int 99) [Ob.scr ns] = .ok (.int ((v.fdiv 2).fmod 99)) [Ob.scr ns] := mod_i (by decide)
  obtain ⟨m, hm⟩ : ∃ m, 1 + (v.fdiv 2).fmod 99 = m := ⟨_, rfl⟩
  have h1 : 1 ≤ m := by have := Int.fmod_nonneg_of_pos (v.fdiv 2) (b := 99) (by decide); omega
  have h2 : m ≤ 99 := by have := Int.fmod_lt_of_pos (v.fdiv 2) (b := 99) (by decide); omega
  obtain ⟨s1, hs1⟩ : ∃ s1, [Ob.scr ns] ++ [Ob.lst ([(0, m), (0, 1), (m - 1, m)].map pw)] = s1 := ⟨_, rfl⟩
  have n1 : s1.length = 2 := by rw [← hs1]; rfl
  have q1 : s1[1]? = some (.lst ([(0, m), (0, 1), (m - 1, m)].map pw)) := by rw [← hs1]; rfl
  have l1 : lstOf s1 0 = some (ns.map Wv.int) := by rw [← hs1]; rfl
  have sd : ∀ p ∈ ([(0, m), (0, 1), (m - 1, m)] : List Nd), Sd m p := fun p hp => by
    simp only [List.mem_cons, List.not_mem_nil, or_false] at hp
    rcases hp with rfl | rfl | rfl
    · exact ⟨Int.le_refl _, by show (0 : Int) < m; omega, Int.le_refl _⟩
    · exact ⟨Int.le_refl _, by show (0 : Int) < 1; omega, h1⟩
    · exact ⟨by show 0 ≤ m - 1; omega, by show m - 1 < m; omega, Int.le_refl _⟩
  obtain ⟨ρ2, s2, e2, o4, o5, o6, ps, rfl, l2, q2, sd2, n2⟩ := forT_ix (i := 4) (gb := g_law_L2) (fun k ρ s => ∃ o4 o5 o6 ps, ρ = [some (.ref 0), some (.int v), some (.int m), some (.ref 1), o4, o5, o6, none] ∧ lstOf s 0 = some (ns.map Wv.int) ∧ s[1]? = some (.lst (ps.map pw)) ∧ (∀ p ∈ ps, Sd m p) ∧ ps.length = 3 + k) (rngW 0 12) 0
    [some (.ref 0), some (.int v), some (.int m), some (.ref 1), none, none, none, none] s1 ⟨_, _, _, _, rfl, l1, q1, sd, rfl⟩ fun j w hw ρ s hP => by
      obtain ⟨o4, o5, o6, ps, rfl, l, q, sd, n⟩ := hP
      obtain ⟨i, rfl, i0, i1⟩ := rng_mem (List.mem_of_getElem? hw)
      have jl := (List.getElem?_eq_some_iff.mp hw).1
      rw [rngW_len] at jl
      obtain ⟨a5, a6, p, s', e, l', q', sp⟩ := draw_turn (hd := .int v) (j := i) (o5 := o5) (o6 := o6) (o7 := none) h1 h2 i0 (by omega) l q (by omega) (by omega)
      refine ⟨_, s', e, _, _, _, ps ++ [p], rfl, l', q', fun x hx => ?_, by rw [List.length_append, n]; simp; omega⟩
      rcases List.mem_append.mp hx with z | z
      · exact sd x z
      · rw [List.mem_singleton.mp z]; exact sp
  have c12 : CRng 12 := crng (by decide) (by decide)
  have lt2 := get_lt q2
  obtain ⟨L, ps3, s3, e3, l3, k3, sd3⟩ : ∃ (L : Nat) (ps3 : List Nd) (s3 : Hs), gIf (gTst (gBin oLt (gVar 2) (gC (.int 10)))) (gSet 3 (gComp [("many", 2)] (giR1 (gCons (gC (.int 100)) gNil)) g_law_C1t g_law_C1e)) gNext [some (.ref 0), some (.int v), some (.int m), some (.ref 1), o4, o5, o6, none] s2 = .nx [some (.ref 0), some (.int v), some (.int m), some (.ref L), o4, o5, o6, none] s3 ∧ lstOf s3 L = some (ps3.map pw) ∧ lstOf s3 0 = some (ns.map Wv.int) ∧ ∀ p ∈ ps3, Sd m p := by
    by_cases c : m < 10
    · obtain ⟨qs, e, sq⟩ := few_all (m := m) (ρ := [some (.ref 0), some (.int v), some (.int m), some (.ref 1), o4, o5, o6, none]) (st := s2) rfl
      have r1 := rng1_i (j := 100) (st := s2) (crng (by decide) (by decide))
      exact ⟨s2.length, qs, s2 ++ [.lst (qs.map pw)], by simp [c, r1, e], lstOf_new, lstOf_old l2, sq⟩
    · exact ⟨1, ps, s2, by simp [c], lst_get q2, l2, sd2⟩
  obtain ⟨o6', o7', s4, e4, g4⟩ := all_told (hd := .int v) (o4 := o4) (o5 := o5) (o6 := o6) (o7 := none) h1 h2 l3 sd3
  have sm := sum_l (g4.lst k3)
  have p30 : oPow (.int 10) (.int 30) s4 = .ok (.int 1000000000000000000000000000000) s4 := pow_i (i := 10) (j := 30) (by decide)
  have mf : oMod (.int ns.sum) (.int 1000000000000000000000000000000) s4 = .ok (.int (ns.sum.fmod 1000000000000000000000000000000)) s4 := mod_i (by decide)
  obtain ⟨s5, e5⟩ := refused (m := m) (far := ns.sum.fmod 1000000000000000000000000000000) (st := s4) h1 h2 (Int.fmod_nonneg_of_pos _ (by decide))
  have hs1' : [Ob.scr ns, Ob.lst [.tup [.int 0, .int m], .tup [.int 0, .int 1], .tup [.int (m - 1), .int m]]] = s1 := hs1
  refine ⟨s5, fn_rt (n := 8) (g := g_law) ?_⟩
  have e2' : forT 4 g_law_L2 (rngW 0 12) [some (.ref 0), some (.int v), some (.int m), some (.ref 1), none, none, none, none] s1 = .nx [some (.ref 0), some (.int v), some (.int m), some (.ref 1), o4, o5, o6, none] s2 := e2
  unfold g_law
  simp only [e_seq]
  simp [-e_if, e0, d2, m99, hm, hs1', c12, e2', e3, e4, sm, p30, mf, e5]
end K81
def PySem.W.Fast.tw1735202961767510236 : Unit := ()
def PySem.W.Fast.tw5850409951243398420 : Unit := ()
def PySem.W.Fast.tw9718380786780034473 : Unit := ()
def PySem.W.Fast.tw9813059939027948659 : Unit := ()
def PySem.W.Fast.tw3159615782693949155 : Unit := ()
def PySem.W.Fast.tw5589555325262260910 : Unit := ()
def PySem.W.Fast.tw8586194845817136125 : Unit := ()
def PySem.W.Fast.tw13961490508958862696 : Unit := ()
def PySem.W.Fast.tw6752859753212382435 : Unit := ()
def PySem.W.Fast.tw10834665116098180550 : Unit := ()
def PySem.W.Fast.tw3140258820864074623 : Unit := ()
def PySem.W.Fast.tw17313429906561532846 : Unit := ()
def PySem.W.Fast.tw1939121356552670873 : Unit := ()
def PySem.W.Fast.tw6957003406643493620 : Unit := ()
def PySem.W.Fast.tw11798520680929266343 : Unit := ()
def PySem.W.Fast.tw17781766624431673549 : Unit := ()
def PySem.W.Fast.tw15936463207810781201 : Unit := ()
def PySem.W.Fast.tw18226560140356688767 : Unit := ()
def PySem.W.Fast.tw13590546665750588253 : Unit := ()
def PySem.W.Fast.tw8775269206719148869 : Unit := ()
def PySem.W.Fast.tw6197584637128682731 : Unit := ()
def PySem.W.Fast.tw10295043524998175608 : Unit := ()
namespace K81
open PySem PySem.W PyProof.Rows
set_option maxHeartbeats 0 in
open_top head for PySem.Challenge.rw_onelook_k81_covers
end K81
namespace K81
open PySem J
open L2 (defScope defBody defArgs FnScope CX0 FnOk XK Hp)
theorem all_mk {l : PySem.W.OpenLaw} {w : World} {K : PySem.W.Frag} {h : Heap} {mg : Str → Option Value} {fa : Addr} (X : K.In h) (G : h.Ns mainGlobals mg) (hfa : mg "law" = some (.ref fa))
    {f1 f2 f3 f4 f5 f6 f7 f8 f9 f10 f11 f12 f13 f14 f15 f16 : Addr} {od1 od2 od3 od4 od5 od6 od7 od8 od9 od10 od11 od12 od13 od14 od15 od16 an1 an2 an3 an4 an5 an6 an7 an8 an9 an10 an11 an12 an13 an14 an15 an16 : Option Addr} {sl1 sl2 sl3 sl4 sl5 sl6 sl7 sl8 sl9 sl10 sl11 sl12 sl13 sl14 sl15 sl16 : Array (Option Value)} {oc1 oc2 oc3 oc4 oc5 oc6 oc7 oc8 oc9 oc10 oc11 oc12 oc13 oc14 oc15 oc16 kV1 kV2 kV3 kV4 kV5 kV6 kV7 kV8 kV9 kV10 kV11 kV12 kV13 kV14 kV15 kV16 dc1 dc2 dc3 dc4 dc5 dc6 dc7 dc8 dc9 dc10 dc11 dc12 dc13 dc14 dc15 dc16 pm1 pm2 pm3 pm4 pm5 pm6 pm7 pm8 pm9 pm10 pm11 pm12 pm13 pm14 pm15 pm16 cd1 cd2 cd3 cd4 cd5 cd6 cd7 cd8 cd9 cd10 cd11 cd12 cd13 cd14 cd15 cd16 ct1 ct2 ct3 ct4 ct5 ct6 ct7 ct8 ct9 ct10 ct11 ct12 ct13 ct14 ct15 ct16 : Value} {tk0 : Tok} {X0 X1 X2 X3 X4 X5 X6 X7 X8 X9 X10 X11 X12 X13 X14 X15 : Addr} 
    (a1 : PySem.W.nsIn K mainGlobals "_law_cell_at" = some (some (.ref f1))) (l1 : K.lookup f1 = some ⟨oc1, od1, .func (PySem.W.fnOf "_law_cell_at" "_law_cell_at" (defArgs s__law_cell_at) (defBody s__law_cell_at) (defScope s__law_cell_at) .none kV1 dc1 pm1 an1 cd1 ct1), sl1⟩) (c1 : PySem.W.codeIn K cd1 "_law_cell_at" = true) (k1 : PySem.W.keepIn K (.ref f1) = true)
    (a2 : PySem.W.nsIn K mainGlobals "check_many" = some (some (.ref f2))) (l2 : K.lookup f2 = some ⟨oc2, od2, .func (PySem.W.fnOf "check_many" "check_many" (defArgs s_check_many) (defBody s_check_many) (defScope s_check_many) .none kV2 dc2 pm2 an2 cd2 ct2), sl2⟩) (c2 : PySem.W.codeIn K cd2 "check_many" = true) (k2 : PySem.W.keepIn K (.ref f2) = true)
    (a3 : PySem.W.nsIn K mainGlobals "halves_of" = some (some (.ref f3))) (l3 : K.lookup f3 = some ⟨oc3, od3, .func (PySem.W.fnOf "halves_of" "halves_of" (defArgs s_halves_of) (defBody s_halves_of) (defScope s_halves_of) .none kV3 dc3 pm3 an3 cd3 ct3), sl3⟩) (c3 : PySem.W.codeIn K cd3 "halves_of" = true) (k3 : PySem.W.keepIn K (.ref f3) = true)
    (a4 : PySem.W.nsIn K mainGlobals "covering" = some (some (.ref f4))) (l4 : K.lookup f4 = some ⟨oc4, od4, .func (PySem.W.fnOf "covering" "covering" (defArgs s_covering) (defBody s_covering) (defScope s_covering) .none kV4 dc4 pm4 an4 cd4 ct4), sl4⟩) (c4 : PySem.W.codeIn K cd4 "covering" = true) (k4 : PySem.W.keepIn K (.ref f4) = true)
    (a5 : PySem.W.nsIn K mainGlobals "cover" = some (some (.ref f5))) (l5 : K.lookup f5 = some ⟨oc5, od5, .func (PySem.W.fnOf "cover" "cover" (defArgs s_cover) (defBody s_cover) (defScope s_cover) .none kV5 dc5 pm5 an5 cd5 ct5), sl5⟩) (c5 : PySem.W.codeIn K cd5 "cover" = true) (k5 : PySem.W.keepIn K (.ref f5) = true)
    (a6 : PySem.W.nsIn K mainGlobals "_law_kinds" = some (some (.ref f6))) (l6 : K.lookup f6 = some ⟨oc6, od6, .func (PySem.W.fnOf "_law_kinds" "_law_kinds" (defArgs s__law_kinds) (defBody s__law_kinds) (defScope s__law_kinds) .none kV6 dc6 pm6 an6 cd6 ct6), sl6⟩) (c6 : PySem.W.codeIn K cd6 "_law_kinds" = true) (k6 : PySem.W.keepIn K (.ref f6) = true)
    (a7 : PySem.W.nsIn K mainGlobals "_law_refusal" = some (some (.ref f7))) (l7 : K.lookup f7 = some ⟨oc7, od7, .func (PySem.W.fnOf "_law_refusal" "_law_refusal" (defArgs s__law_refusal) (defBody s__law_refusal) (defScope s__law_refusal) .none kV7 dc7 pm7 an7 cd7 ct7), sl7⟩) (c7 : PySem.W.codeIn K cd7 "_law_refusal" = true) (k7 : PySem.W.keepIn K (.ref f7) = true)
    (a8 : PySem.W.nsIn K mainGlobals "_law_refused" = some (some (.ref f8))) (l8 : K.lookup f8 = some ⟨oc8, od8, .func (PySem.W.fnOf "_law_refused" "_law_refused" (defArgs s__law_refused) (defBody s__law_refused) (defScope s__law_refused) .none kV8 dc8 pm8 an8 cd8 ct8), sl8⟩) (c8 : PySem.W.codeIn K cd8 "_law_refused" = true) (k8 : PySem.W.keepIn K (.ref f8) = true)
    (a9 : PySem.W.nsIn K mainGlobals "_law_mixed" = some (some (.ref f9))) (l9 : K.lookup f9 = some ⟨oc9, od9, .func (PySem.W.fnOf "_law_mixed" "_law_mixed" (defArgs s__law_mixed) (defBody s__law_mixed) (defScope s__law_mixed) .none kV9 dc9 pm9 an9 cd9 ct9), sl9⟩) (c9 : PySem.W.codeIn K cd9 "_law_mixed" = true) (k9 : PySem.W.keepIn K (.ref f9) = true)
    (a10 : PySem.W.nsIn K mainGlobals "_law_row_of" = some (some (.ref f10))) (l10 : K.lookup f10 = some ⟨oc10, od10, .func (PySem.W.fnOf "_law_row_of" "_law_row_of" (defArgs s__law_row_of) (defBody s__law_row_of) (defScope s__law_row_of) .none kV10 dc10 pm10 an10 cd10 ct10), sl10⟩) (c10 : PySem.W.codeIn K cd10 "_law_row_of" = true) (k10 : PySem.W.keepIn K (.ref f10) = true)
    (a11 : PySem.W.nsIn K mainGlobals "_law_digit" = some (some (.ref f11))) (l11 : K.lookup f11 = some ⟨oc11, od11, .func (PySem.W.fnOf "_law_digit" "_law_digit" (defArgs s__law_digit) (defBody s__law_digit) (defScope s__law_digit) .none kV11 dc11 pm11 an11 cd11 ct11), sl11⟩) (c11 : PySem.W.codeIn K cd11 "_law_digit" = true) (k11 : PySem.W.keepIn K (.ref f11) = true)
    (a12 : PySem.W.nsIn K mainGlobals "_law_nodes" = some (some (.ref f12))) (l12 : K.lookup f12 = some ⟨oc12, od12, .func (PySem.W.fnOf "_law_nodes" "_law_nodes" (defArgs s__law_nodes) (defBody s__law_nodes) (defScope s__law_nodes) .none kV12 dc12 pm12 an12 cd12 ct12), sl12⟩) (c12 : PySem.W.codeIn K cd12 "_law_nodes" = true) (k12 : PySem.W.keepIn K (.ref f12) = true)
    (a13 : PySem.W.nsIn K mainGlobals "_law_due" = some (some (.ref f13))) (l13 : K.lookup f13 = some ⟨oc13, od13, .func (PySem.W.fnOf "_law_due" "_law_due" (defArgs s__law_due) (defBody s__law_due) (defScope s__law_due) .none kV13 dc13 pm13 an13 cd13 ct13), sl13⟩) (c13 : PySem.W.codeIn K cd13 "_law_due" = true) (k13 : PySem.W.keepIn K (.ref f13) = true)
    (a14 : PySem.W.nsIn K mainGlobals "_law_halvings" = some (some (.ref f14))) (l14 : K.lookup f14 = some ⟨oc14, od14, .func (PySem.W.fnOf "_law_halvings" "_law_halvings" (defArgs s__law_halvings) (defBody s__law_halvings) (defScope s__law_halvings) .none kV14 dc14 pm14 an14 cd14 ct14), sl14⟩) (c14 : PySem.W.codeIn K cd14 "_law_halvings" = true) (k14 : PySem.W.keepIn K (.ref f14) = true)
    (a15 : PySem.W.nsIn K mainGlobals "_law_told" = some (some (.ref f15))) (l15 : K.lookup f15 = some ⟨oc15, od15, .func (PySem.W.fnOf "_law_told" "_law_told" (defArgs s__law_told) (defBody s__law_told) (defScope s__law_told) .none kV15 dc15 pm15 an15 cd15 ct15), sl15⟩) (c15 : PySem.W.codeIn K cd15 "_law_told" = true) (k15 : PySem.W.keepIn K (.ref f15) = true)
    (a16 : PySem.W.nsIn K mainGlobals "law" = some (some (.ref f16))) (l16 : K.lookup f16 = some ⟨oc16, od16, .func (PySem.W.fnOf "law" "law" (defArgs s_law) (defBody s_law) (defScope s_law) .none kV16 dc16 pm16 an16 cd16 ct16), sl16⟩) (c16 : PySem.W.codeIn K cd16 "law" = true) (k16 : PySem.W.keepIn K (.ref f16) = true)
    (z0 : PySem.W.nsIn K mainGlobals "len" = some none)
    (z1 : PySem.W.nsIn K mainGlobals "isinstance" = some none)
    (z2 : PySem.W.nsIn K mainGlobals "ValueError" = some none)
    (z3 : PySem.W.nsIn K mainGlobals "range" = some none)
    (z4 : PySem.W.nsIn K mainGlobals "sum" = some none)
    (z5 : PySem.W.nsIn K mainGlobals "sorted" = some none)
    (z6 : PySem.W.nsIn K mainGlobals "list" = some none)
    (v0 : PySem.W.nsIn K mainGlobals "MOST_WORTHS" = some (some (.int 99 tk0)))
    (xa0 : PySem.W.nsIn K mainGlobals "BadCount" = some (some (.ref X0))) (xe0 : PySem.W.excIn K X0 bmV nwV = true) (xg0 : PySem.W.findIn K (.ref X0) "__getattribute__" = some (some (.builtin "BaseException.__getattribute__"))) (xx0 : PySem.W.findIn K (.ref X0) "__getattr__" = some none) (xc0 : PySem.W.findIn K (.ref X0) "__class__" = some (some (.builtin "object.__class__")))
    (xa1 : PySem.W.nsIn K mainGlobals "BadPlace" = some (some (.ref X1)))
    (xa2 : PySem.W.nsIn K mainGlobals "BadArea" = some (some (.ref X2)))
    (xa3 : PySem.W.nsIn K mainGlobals "BadText" = some (some (.ref X3)))
    (xa4 : PySem.W.nsIn K mainGlobals "BadFormula" = some (some (.ref X4)))
    (xa5 : PySem.W.nsIn K mainGlobals "BadContent" = some (some (.ref X5)))
    (xa6 : PySem.W.nsIn K mainGlobals "Full" = some (some (.ref X6)))
    (xa7 : PySem.W.nsIn K mainGlobals "NoCell" = some (some (.ref X7)))
    (xa8 : PySem.W.nsIn K mainGlobals "NotWaiting" = some (some (.ref X8)))
    (xa9 : PySem.W.nsIn K mainGlobals "NoRoom" = some (some (.ref X9)))
    (xa10 : PySem.W.nsIn K mainGlobals "BadTable" = some (some (.ref X10)))
    (xa11 : PySem.W.nsIn K mainGlobals "NoTable" = some (some (.ref X11)))
    (xa12 : PySem.W.nsIn K mainGlobals "NoColumn" = some (some (.ref X12)))
    (xa13 : PySem.W.nsIn K mainGlobals "NoDeed" = some (some (.ref X13)))
    (xa14 : PySem.W.nsIn K mainGlobals "Clash" = some (some (.ref X14)))
    (xa15 : PySem.W.nsIn K mainGlobals "SheetError" = some (some (.ref X15))) (xe15 : PySem.W.excIn K X15 bmV nwV = true)
    (pk0 : PySem.W.kitOne K (.ref X0) (.ref X0) = some true)
    (pk1 : PySem.W.kitOne K (.ref X0) (.ref X1) = some false)
    (pk2 : PySem.W.kitOne K (.ref X0) (.ref X2) = some false)
    (pk3 : PySem.W.kitOne K (.ref X0) (.ref X3) = some false)
    (pk4 : PySem.W.kitOne K (.ref X0) (.ref X4) = some false)
    (pk5 : PySem.W.kitOne K (.ref X0) (.ref X5) = some false)
    (pk6 : PySem.W.kitOne K (.ref X0) (.ref X6) = some false)
    (pk7 : PySem.W.kitOne K (.ref X0) (.ref X7) = some false)
    (pk8 : PySem.W.kitOne K (.ref X0) (.ref X8) = some false)
    (pk9 : PySem.W.kitOne K (.ref X0) (.ref X9) = some false)
    (pk10 : PySem.W.kitOne K (.ref X0) (.ref X10) = some false)
    (pk11 : PySem.W.kitOne K (.ref X0) (.ref X11) = some false)
    (pk12 : PySem.W.kitOne K (.ref X0) (.ref X12) = some false)
    (pk13 : PySem.W.kitOne K (.ref X0) (.ref X13) = some false)
    (pk14 : PySem.W.kitOne K (.ref X0) (.ref X14) = some false)
    (pk15 : PySem.W.kitOne K (.ref X0) (.ref X15) = some true)
    (pm0 : PySem.W.mroIn K X0 (.ref X15) = some true)
    (pt0 : PySem.W.kitOne K (.ref X0) (.type "ValueError") = some true)
     :
    ∃ fd : FuncData, (∀ (s : Shared) (u : Value), BindsTo s fd ⟨[u], []⟩ [("script", u)]) ∧ ∀ base : Heap, K.In base → base.Ns mainGlobals mg → FnOk l.prog w K mg base (CXJ l.prog w) 14 fa fd ["script"] (spW K 1 F_law) := by
  refine J.law_has X G hfa (J.def_at a16 l16 c16 k16) (fun _ _ _ _ _ _ s u => .of_eq rfl) (fun f fd Fu base kb nb => ?_)
  have Z0 := PySem.W.mg_none_of kb nb z0
  have Z1 := PySem.W.mg_none_of kb nb z1
  have Z2 := PySem.W.mg_none_of kb nb z2
  have Z3 := PySem.W.mg_none_of kb nb z3
  have Z4 := PySem.W.mg_none_of kb nb z4
  have Z5 := PySem.W.mg_none_of kb nb z5
  have Z6 := PySem.W.mg_none_of kb nb z6
  have V0 := PySem.W.mg_of kb nb v0
  have TB : TabOk K tbl tblT tblC := J.tab_mk ⟨⟨X0, X0, xa0, xa0, ⟨xe0, xg0, xx0, xc0⟩, pk0⟩, ⟨X0, X1, xa0, xa1, ⟨xe0, xg0, xx0, xc0⟩, pk1⟩, ⟨X0, X2, xa0, xa2, ⟨xe0, xg0, xx0, xc0⟩, pk2⟩, ⟨X0, X3, xa0, xa3, ⟨xe0, xg0, xx0, xc0⟩, pk3⟩, ⟨X0, X4, xa0, xa4, ⟨xe0, xg0, xx0, xc0⟩, pk4⟩, ⟨X0, X5, xa0, xa5, ⟨xe0, xg0, xx0, xc0⟩, pk5⟩, ⟨X0, X6, xa0, xa6, ⟨xe0, xg0, xx0, xc0⟩, pk6⟩, ⟨X0, X7, xa0, xa7, ⟨xe0, xg0, xx0, xc0⟩, pk7⟩, ⟨X0, X8, xa0, xa8, ⟨xe0, xg0, xx0, xc0⟩, pk8⟩, ⟨X0, X9, xa0, xa9, ⟨xe0, xg0, xx0, xc0⟩, pk9⟩, ⟨X0, X10, xa0, xa10, ⟨xe0, xg0, xx0, xc0⟩, pk10⟩, ⟨X0, X11, xa0, xa11, ⟨xe0, xg0, xx0, xc0⟩, pk11⟩, ⟨X0, X12, xa0, xa12, ⟨xe0, xg0, xx0, xc0⟩, pk12⟩, ⟨X0, X13, xa0, xa13, ⟨xe0, xg0, xx0, xc0⟩, pk13⟩, ⟨X0, X14, xa0, xa14, ⟨xe0, xg0, xx0, xc0⟩, pk14⟩, ⟨X0, X15, xa0, xa15, ⟨xe0, xg0, xx0, xc0⟩, pk15⟩, trivial⟩ ⟨⟨X0, xa0, ⟨xe0, xg0, xx0, xc0⟩, pt0⟩, trivial⟩ ⟨⟨X0, X15, xa0, xa15, xe0, xe15, pm0⟩, trivial⟩
  have H1 : J.Has l.prog w K mg base 1 "_law_cell_at" 2 F__law_cell_at := J.has_def (ps := ["script", "k"]) kb nb (J.def_at a1 l1 c1 k1) (J.topOk_mk (c := c__law_cell_at) (k := 0) trivial ⟨Z0, trivial⟩ trivial TB trivial trivial trivial) sc__law_cell_at rfl r__law_cell_at (fun _ _ _ _ _ _ us hl => J.ln2 us hl fun _ _ => rfl)
  have H2 : J.Has l.prog w K mg base 1 "check_many" 1 F_check_many := J.has_def (ps := ["many"]) kb nb (J.def_at a2 l2 c2 k2) (J.topOk_mk (c := c_check_many) (k := 0) ⟨⟨_, V0⟩, trivial⟩ trivial trivial TB ⟨⟨X0, PySem.W.mg_of kb nb xa0, ⟨xa0, xe0⟩⟩, trivial⟩ trivial trivial) sc_check_many rfl r_check_many (fun _ _ _ _ _ _ us hl => J.ln1 us hl fun _ => rfl)
  have H3 : J.Has l.prog w K mg base 1 "halves_of" 1 F_halves_of := J.has_def (ps := ["node"]) kb nb (J.def_at a3 l3 c3 k3) (J.topOk_mk (c := c_halves_of) (k := 0) trivial trivial trivial TB trivial trivial trivial) sc_halves_of rfl r_halves_of (fun _ _ _ _ _ _ us hl => J.ln1 us hl fun _ => rfl)
  have G4 : ∀ n : Nat, J.Has l.prog w K mg base (1 + n) "covering" 3 (R_covering n) := fun n => by
    induction n with
    | zero => exact J.has_bad (ps := ["node", "low", "high"]) kb nb (J.def_at a4 l4 c4 k4) (fun _ _ _ _ _ _ us hl => J.ln3 us hl fun _ _ _ => rfl)
    | succ n ih => exact J.has_def (ps := ["node", "low", "high"]) kb nb (J.def_at a4 l4 c4 k4) (J.topOk_mk (c := (c_covering (R_covering n))) (k := (1 + n)) trivial trivial ⟨H3.mono (by omega), ih, trivial⟩ TB trivial trivial trivial) (sc_covering (R_covering n)) rfl (r_covering (R_covering n)) (fun _ _ _ _ _ _ us hl => J.ln3 us hl fun _ _ _ => rfl)
  have H4 : J.Has l.prog w K mg base 10 "covering" 3 F_covering := (G4 9)
  have H5 : J.Has l.prog w K mg base 11 "cover" 3 F_cover := J.has_def (ps := ["many", "low", "high"]) kb nb (J.def_at a5 l5 c5 k5) (J.topOk_mk (c := c_cover) (k := 10) trivial trivial ⟨H2.mono (by decide), H4.mono (by decide), trivial⟩ TB ⟨⟨X0, PySem.W.mg_of kb nb xa0, ⟨xa0, xe0⟩⟩, trivial⟩ trivial trivial) sc_cover rfl r_cover (fun _ _ _ _ _ _ us hl => J.ln3 us hl fun _ _ _ => rfl)
  have H6 : J.Has l.prog w K mg base 1 "_law_kinds" 1 F__law_kinds := J.has_def (ps := ["e"]) kb nb (J.def_at a6 l6 c6 k6) (J.topOk_mk (c := c__law_kinds) (k := 0) trivial ⟨Z1, Z2, Z3, trivial⟩ trivial TB trivial ⟨⟨X1, PySem.W.mg_of kb nb xa1, xa1⟩, ⟨X2, PySem.W.mg_of kb nb xa2, xa2⟩, ⟨X3, PySem.W.mg_of kb nb xa3, xa3⟩, ⟨X4, PySem.W.mg_of kb nb xa4, xa4⟩, ⟨X5, PySem.W.mg_of kb nb xa5, xa5⟩, ⟨X6, PySem.W.mg_of kb nb xa6, xa6⟩, ⟨X7, PySem.W.mg_of kb nb xa7, xa7⟩, ⟨X8, PySem.W.mg_of kb nb xa8, xa8⟩, ⟨X0, PySem.W.mg_of kb nb xa0, xa0⟩, ⟨X9, PySem.W.mg_of kb nb xa9, xa9⟩, ⟨X10, PySem.W.mg_of kb nb xa10, xa10⟩, ⟨X11, PySem.W.mg_of kb nb xa11, xa11⟩, ⟨X12, PySem.W.mg_of kb nb xa12, xa12⟩, ⟨X13, PySem.W.mg_of kb nb xa13, xa13⟩, ⟨X14, PySem.W.mg_of kb nb xa14, xa14⟩, trivial⟩ trivial) sc__law_kinds rfl r__law_kinds (fun _ _ _ _ _ _ us hl => J.ln1 us hl fun _ => rfl)
  have U6 : J.HasU l.prog w K mg base 1 "_law_kinds" 1 F__law_kinds := J.has_defU (ps := ["e"]) kb nb (J.def_at a6 l6 c6 k6) (J.topOk_mk (c := c__law_kinds) (k := 0) trivial ⟨Z1, Z2, Z3, trivial⟩ trivial TB trivial ⟨⟨X1, PySem.W.mg_of kb nb xa1, xa1⟩, ⟨X2, PySem.W.mg_of kb nb xa2, xa2⟩, ⟨X3, PySem.W.mg_of kb nb xa3, xa3⟩, ⟨X4, PySem.W.mg_of kb nb xa4, xa4⟩, ⟨X5, PySem.W.mg_of kb nb xa5, xa5⟩, ⟨X6, PySem.W.mg_of kb nb xa6, xa6⟩, ⟨X7, PySem.W.mg_of kb nb xa7, xa7⟩, ⟨X8, PySem.W.mg_of kb nb xa8, xa8⟩, ⟨X0, PySem.W.mg_of kb nb xa0, xa0⟩, ⟨X9, PySem.W.mg_of kb nb xa9, xa9⟩, ⟨X10, PySem.W.mg_of kb nb xa10, xa10⟩, ⟨X11, PySem.W.mg_of kb nb xa11, xa11⟩, ⟨X12, PySem.W.mg_of kb nb xa12, xa12⟩, ⟨X13, PySem.W.mg_of kb nb xa13, xa13⟩, ⟨X14, PySem.W.mg_of kb nb xa14, xa14⟩, trivial⟩ trivial) sc__law_kinds rfl ru__law_kinds (fun _ _ _ _ _ _ us hl => J.ln1 us hl fun _ => rfl)
  have H7 : J.Has l.prog w K mg base 12 "_law_refusal" 3 F__law_refusal := J.has_def (ps := ["many", "low", "high"]) kb nb (J.def_at a7 l7 c7 k7) (J.topOk_mk (c := c__law_refusal) (k := 11) trivial trivial ⟨H5.mono (by decide), H6.mono (by decide), trivial⟩ TB ⟨⟨X15, PySem.W.mg_of kb nb xa15, ⟨xa15, xe15⟩⟩, trivial⟩ trivial trivial ⟨(fun _ _ h => by cases h; exact U6.mono (by decide)), trivial⟩) sc__law_refusal rfl r__law_refusal (fun _ _ _ _ _ _ us hl => J.ln3 us hl fun _ _ _ => rfl)
  have H8 : J.Has l.prog w K mg base 13 "_law_refused" 2 F__law_refused := J.has_def (ps := ["many", "far"]) kb nb (J.def_at a8 l8 c8 k8) (J.topOk_mk (c := c__law_refused) (k := 12) trivial trivial ⟨H7.mono (by decide), trivial⟩ TB trivial trivial trivial) sc__law_refused rfl r__law_refused (fun _ _ _ _ _ _ us hl => J.ln2 us hl fun _ _ => rfl)
  have H9 : J.Has l.prog w K mg base 1 "_law_mixed" 2 F__law_mixed := J.has_def (ps := ["cell", "k"]) kb nb (J.def_at a9 l9 c9 k9) (J.topOk_mk (c := c__law_mixed) (k := 0) trivial trivial trivial TB trivial trivial trivial) sc__law_mixed rfl r__law_mixed (fun _ _ _ _ _ _ us hl => J.ln2 us hl fun _ _ => rfl)
  have H10 : J.Has l.prog w K mg base 2 "_law_row_of" 2 F__law_row_of := J.has_def (ps := ["script", "k"]) kb nb (J.def_at a10 l10 c10 k10) (J.topOk_mk (c := c__law_row_of) (k := 1) trivial ⟨Z0, Z4, trivial⟩ ⟨H1.mono (by decide), H9.mono (by decide), trivial⟩ TB trivial trivial trivial) sc__law_row_of rfl r__law_row_of (fun _ _ _ _ _ _ us hl => J.ln2 us hl fun _ _ => rfl)
  have H11 : J.Has l.prog w K mg base 1 "_law_digit" 2 F__law_digit := J.has_def (ps := ["row", "many"]) kb nb (J.def_at a11 l11 c11 k11) (J.topOk_mk (c := c__law_digit) (k := 0) trivial trivial trivial TB trivial trivial trivial) sc__law_digit rfl r__law_digit (fun _ _ _ _ _ _ us hl => J.ln2 us hl fun _ _ => rfl)
  have H12 : J.Has l.prog w K mg base 1 "_law_nodes" 1 F__law_nodes := J.has_def (ps := ["many"]) kb nb (J.def_at a12 l12 c12 k12) (J.topOk_mk (c := c__law_nodes) (k := 0) trivial ⟨Z0, trivial⟩ trivial TB trivial trivial trivial) sc__law_nodes rfl r__law_nodes (fun _ _ _ _ _ _ us hl => J.ln1 us hl fun _ => rfl)
  have H13 : J.Has l.prog w K mg base 2 "_law_due" 3 F__law_due := J.has_def (ps := ["many", "low", "high"]) kb nb (J.def_at a13 l13 c13 k13) (J.topOk_mk (c := c__law_due) (k := 1) trivial ⟨Z5, trivial⟩ ⟨H12.mono (by decide), trivial⟩ TB trivial trivial trivial) sc__law_due rfl r__law_due (fun _ _ _ _ _ _ us hl => J.ln3 us hl fun _ _ _ => rfl)
  have H14 : J.Has l.prog w K mg base 1 "_law_halvings" 2 F__law_halvings := J.has_def (ps := ["many", "node"]) kb nb (J.def_at a14 l14 c14 k14) (J.topOk_mk (c := c__law_halvings) (k := 0) trivial trivial trivial TB trivial trivial trivial) sc__law_halvings rfl r__law_halvings (fun _ _ _ _ _ _ us hl => J.ln2 us hl fun _ _ => rfl)
  have H15 : J.Has l.prog w K mg base 12 "_law_told" 3 F__law_told := J.has_def (ps := ["many", "low", "high"]) kb nb (J.def_at a15 l15 c15 k15) (J.topOk_mk (c := c__law_told) (k := 11) trivial ⟨Z3, Z0, Z1, Z6, trivial⟩ ⟨H13.mono (by decide), H5.mono (by decide), H14.mono (by decide), trivial⟩ TB trivial trivial trivial) sc__law_told rfl r__law_told (fun _ _ _ _ _ _ us hl => J.ln3 us hl fun _ _ _ => rfl)
  exact J.fn_def Fu (J.topOk_mk (c := c_law) (k := 13) trivial ⟨Z3, Z4, trivial⟩ ⟨H1.mono (by decide), H8.mono (by decide), H10.mono (by decide), H11.mono (by decide), H15.mono (by decide), trivial⟩ TB trivial trivial trivial) sc_law rfl r_law
end K81
open PySem PySem.W PyProof.Rows
set_option maxRecDepth 100000 in
set_option maxHeartbeats 0 in
theorem PySem.Challenge.cw_onelook_k81_covers_holds : PySem.Challenge.rw_onelook_k81_covers.Holds := by
  refine K81.head ?_
  k_fill
  refine L2.walk_of (l := PySem.Challenge.rw_onelook_k81_covers) (n := 63) (k := 14) (x := "script") (CX := fun w => J.CXJ PySem.Challenge.rw_onelook_k81_covers.prog w) (sp := fun w => J.spW _ 1 K81.F_law) rfl (by decide) rfl ⟨rfl, by decide, by decide⟩ (fun w h Y => PySem.W.kIn_of Y) ?F (fun w H a ns hl hO hS => J.law_sp K81.law_true H a ns hl (J.OnlyT.of hO) hS (J.tb_none ?Ta ?Tb ?Tc)) (fun _ _ _ _ _ z => z.elim fun _ y => y.elim fun _ x => x.2)
  case F =>
    intro w mg fa h KX G hmg
    refine' K81.all_mk KX G hmg ?a1 ?l1 ?c1 ?k1 ?a2 ?l2 ?c2 ?k2 ?a3 ?l3 ?c3 ?k3 ?a4 ?l4 ?c4 ?k4 ?a5 ?l5 ?c5 ?k5 ?a6 ?l6 ?c6 ?k6 ?a7 ?l7 ?c7 ?k7 ?a8 ?l8 ?c8 ?k8 ?a9 ?l9 ?c9 ?k9 ?a10 ?l10 ?c10 ?k10 ?a11 ?l11 ?c11 ?k11 ?a12 ?l12 ?c12 ?k12 ?a13 ?l13 ?c13 ?k13 ?a14 ?l14 ?c14 ?k14 ?a15 ?l15 ?c15 ?k15 ?a16 ?l16 ?c16 ?k16 ?z0 ?z1 ?z2 ?z3 ?z4 ?z5 ?z6 ?v0 ?xa0 ?xe0 ?xg0 ?xx0 ?xc0 ?xa1 ?xa2 ?xa3 ?xa4 ?xa5 ?xa6 ?xa7 ?xa8 ?xa9 ?xa10 ?xa11 ?xa12 ?xa13 ?xa14 ?xa15 ?xe15 ?pk0 ?pk1 ?pk2 ?pk3 ?pk4 ?pk5 ?pk6 ?pk7 ?pk8 ?pk9 ?pk10 ?pk11 ?pk12 ?pk13 ?pk14 ?pk15 ?pm0 ?pt0
    (case a1 => k_is)
    (case l1 => k_is)
    (case c1 => k_is)
    (case k1 => k_is)
    (case a2 => k_is)
    (case l2 => k_is)
    (case c2 => k_is)
    (case k2 => k_is)
    (case a3 => k_is)
    (case l3 => k_is)
    (case c3 => k_is)
    (case k3 => k_is)
    (case a4 => k_is)
    (case l4 => k_is)
    (case c4 => k_is)
    (case k4 => k_is)
    (case a5 => k_is)
    (case l5 => k_is)
    (case c5 => k_is)
    (case k5 => k_is)
    (case a6 => k_is)
    (case l6 => k_is)
    (case c6 => k_is)
    (case k6 => k_is)
    (case a7 => k_is)
    (case l7 => k_is)
    (case c7 => k_is)
    (case k7 => k_is)
    (case a8 => k_is)
    (case l8 => k_is)
    (case c8 => k_is)
    (case k8 => k_is)
    (case a9 => k_is)
    (case l9 => k_is)
    (case c9 => k_is)
    (case k9 => k_is)
    (case a10 => k_is)
    (case l10 => k_is)
    (case c10 => k_is)
    (case k10 => k_is)
    (case a11 => k_is)
    (case l11 => k_is)
    (case c11 => k_is)
    (case k11 => k_is)
    (case a12 => k_is)
    (case l12 => k_is)
    (case c12 => k_is)
    (case k12 => k_is)
    (case a13 => k_is)
    (case l13 => k_is)
    (case c13 => k_is)
    (case k13 => k_is)
    (case a14 => k_is)
    (case l14 => k_is)
    (case c14 => k_is)
    (case k14 => k_is)
    (case a15 => k_is)
    (case l15 => k_is)
    (case c15 => k_is)
    (case k15 => k_is)
    (case a16 => k_is)
    (case l16 => k_is)
    (case c16 => k_is)
    (case k16 => k_is)
    (case z0 => k_is)
    (case z1 => k_is)
    (case z2 => k_is)
    (case z3 => k_is)
    (case z4 => k_is)
    (case z5 => k_is)
    (case z6 => k_is)
    (case v0 => k_is)
    (case xa0 => k_is)
    (case xe0 => k_exc)
    (case xg0 => k_is)
    (case xx0 => k_is)
    (case xc0 => k_is)
    (case xa1 => k_is)
    (case xa2 => k_is)
    (case xa3 => k_is)
    (case xa4 => k_is)
    (case xa5 => k_is)
    (case xa6 => k_is)
    (case xa7 => k_is)
    (case xa8 => k_is)
    (case xa9 => k_is)
    (case xa10 => k_is)
    (case xa11 => k_is)
    (case xa12 => k_is)
    (case xa13 => k_is)
    (case xa14 => k_is)
    (case xa15 => k_is)
    (case xe15 => k_exc)
    (case pk0 => kit_is)
    (case pk1 => kit_is)
    (case pk2 => kit_is)
    (case pk3 => kit_is)
    (case pk4 => kit_is)
    (case pk5 => kit_is)
    (case pk6 => kit_is)
    (case pk7 => kit_is)
    (case pk8 => kit_is)
    (case pk9 => kit_is)
    (case pk10 => kit_is)
    (case pk11 => kit_is)
    (case pk12 => kit_is)
    (case pk13 => kit_is)
    (case pk14 => kit_is)
    (case pk15 => kit_is)
    (case pm0 => k_is)
    (case pt0 => kit_is)
  (case Ta => k_is)
  (case Tb => k_is)
  (case Tc => k_is)
