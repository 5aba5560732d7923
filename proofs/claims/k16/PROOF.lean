import PyProof.Rows.All
import Wide.All
import OpenK.AllK
import Wide.FinOn
import Lean
import PyProof.EqAt
import PyProof.EqKinds
import PyProof.TupleCall
import PySem.Challenge.RW_onelook_k16_worths_gathered
-- CHANGE: your row's module here, as the last of these rows
set_option Elab.async false
set_option linter.all false
set_option maxRecDepth 100000
namespace L2
open PySem PySem.Spec PyProof.Rows
abbrev Key := Sum Int Str
def keyIs : Key → Value → Bool
  | .inl k, v => Value.isInt k v
  | .inr x, v => Value.isStrOf x v
def keyH (w : World) : Key → Int
  | .inl k => hashInt k
  | .inr x => hashStr w x
theorem keyIs_shape : ∀ {k : Key} {v : Value}, keyIs k v = true → (∃ i t, k = Sum.inl i ∧ v = Value.int i t) ∨ (∃ x t, k = Sum.inr x ∧ v = Value.str x t)
  | .inl i, v, h => by
    obtain ⟨t, e⟩ := Value.isInt_shape (k := i) (v := v) h
    exact .inl ⟨i, t, rfl, e⟩
  | .inr x, v, h => by
    obtain ⟨t, e⟩ := Value.isStrOf_shape (x := x) (v := v) h
    exact .inr ⟨x, t, rfl, e⟩
theorem keyIs_int (i : Int) (t : Tok) : keyIs (.inl i) (.int i t) = true := by simp [keyIs, Value.isInt]
theorem keyIs_str (x : Str) (t : Tok) : keyIs (.inr x) (.str x t) = true := by simp [keyIs, Value.isStrOf]
theorem key_ll (a b : Int) : decide ((Sum.inl a : Key) = Sum.inl b) = (a == b) := by
  by_cases e : a = b
  · subst e; simp
  · have h : ¬ (Sum.inl a : Key) = Sum.inl b := fun q => e (Sum.inl.inj q)
    rw [decide_eq_false h]
    exact (beq_eq_false_iff_ne.mpr e).symm
theorem key_rr (a b : Str) : decide ((Sum.inr a : Key) = Sum.inr b) = decide (a = b) := by
  by_cases e : a = b
  · subst e; simp
  · have h : ¬ (Sum.inr a : Key) = Sum.inr b := fun q => e (Sum.inr.inj q)
    rw [decide_eq_false h, decide_eq_false e]
theorem key_lr (a : Int) (b : Str) : decide ((Sum.inl a : Key) = Sum.inr b) = false := decide_eq_false (fun q => nomatch q)
theorem key_rl (a : Str) (b : Int) : decide ((Sum.inr a : Key) = Sum.inl b) = false := decide_eq_false (fun q => nomatch q)
def mixKind (prog : Program) (w : World) : PySem.KeyKind prog w Key where
  is := keyIs
  hash := keyH w
  inj := fun v a b ha hb => by
    rcases keyIs_shape ha with ⟨i, t, rfl, rfl⟩ | ⟨x, t, rfl, rfl⟩
    · rcases keyIs_shape hb with ⟨j, u, rfl, e⟩ | ⟨y, u, rfl, e⟩
      · injection e with e1 _; rw [e1]
      · exact nomatch e
    · rcases keyIs_shape hb with ⟨j, u, rfl, e⟩ | ⟨y, u, rfl, e⟩
      · exact nomatch e
      · injection e with e1 _; rw [e1]
  byValue := fun k v h => by
    rcases keyIs_shape h with ⟨i, t, rfl, rfl⟩ | ⟨x, t, rfl, rfl⟩ <;> rfl
  pyHash := fun hv h => by
    rcases keyIs_shape hv with ⟨i, t, rfl, rfl⟩ | ⟨x, t, rfl, rfl⟩
    · exact wpAny_pyHash_int h
    · exact wpAny_pyHash_str h
  eqBool := fun hu hv h => by
    rcases keyIs_shape hu with ⟨i, t, rfl, rfl⟩ | ⟨x, t, rfl, rfl⟩
    · rcases keyIs_shape hv with ⟨j, u, rfl, rfl⟩ | ⟨y, u, rfl, rfl⟩
      · rw [key_ll] at h; exact wpAny_eqBool_int h
      · rw [key_lr] at h; exact SeqAt.EqAt.int_str i t y u _ _ _ _ h
    · rcases keyIs_shape hv with ⟨j, u, rfl, rfl⟩ | ⟨y, u, rfl, rfl⟩
      · rw [key_rl] at h; exact SeqAt.EqAt.str_int x t j u _ _ _ _ h
      · rw [key_rr] at h; exact wpAny_eqBool_str h
  «strs» := fun k x t v h => by
    rcases keyIs_shape h with ⟨i, u, rfl, e⟩ | ⟨y, u, rfl, e⟩
    · exact nomatch e
    · injection e with e1 _
      subst e1
      cases v <;> rfl
theorem mixKind_int (prog : Program) (w : World) (i : Int) (t : Tok) : (mixKind prog w).is (.inl i) (.int i t) = true := keyIs_int i t
theorem mixKind_str (prog : Program) (w : World) (x : Str) (t : Tok) : (mixKind prog w).is (.inr x) (.str x t) = true := keyIs_str x t
end L2
namespace L2
open PySem PySem.Spec PyProof.Rows
inductive V where
  | non | bl (b : Bool) | int (i : Int) | str (x : Str) | byt (b : Array UInt8) | flt (b : UInt64) | ref (a : Addr) | ty (n : String)
  deriving DecidableEq
def RelV : V → Value → Prop
  | .non, u => u = Value.none
  | .bl b, u => u = Value.bool b
  | .int i, u => ∃ t, u = Value.int i t
  | .str x, u => ∃ t, u = Value.str x t
  | .byt b, u => ∃ t, u = Value.bytes b t
  | .flt b, u => ∃ t, u = Value.float b t
  | .ref a, u => u = Value.ref a
  | .ty n, u => u = Value.type n
abbrev Vals : List V → List Value → Prop := Paired RelV
theorem Vals.length {xs : List V} {us : List Value} (r : Vals xs us) : xs.length = us.length := Paired.length r
theorem Vals.get : ∀ {xs : List V} {us : List Value} {i : Nat} {x : V}, Vals xs us → xs[i]? = some x → ∃ u, us[i]? = some u ∧ RelV x u
  | _, _, _, _, .nil, e => by simp at e
  | _, _, 0, _, .cons r _, e => by simp at e; subst e; exact ⟨_, rfl, r⟩
  | _, _, i + 1, x, .cons _ t, e => by
    obtain ⟨u, h1, h2⟩ := Vals.get (i := i) (x := x) t (by simpa using e)
    exact ⟨u, by simpa using h1, h2⟩
theorem Vals.set {x : V} {u : Value} (r : RelV x u) : ∀ {xs : List V} {us : List Value} (i : Nat), Vals xs us → Vals (xs.set i x) (us.set i u)
  | _, _, _, .nil => .nil
  | _, _, 0, .cons _ t => .cons r t
  | _, _, i + 1, .cons q t => .cons q (Vals.set r i t)
theorem Vals.append : ∀ {xs ys : List V} {us ws : List Value}, Vals xs us → Vals ys ws → Vals (xs ++ ys) (us ++ ws)
  | _, _, _, _, .nil, s => s
  | _, _, _, _, .cons r t, s => .cons r (Vals.append t s)
theorem Vals.take : ∀ {xs : List V} {us : List Value} (n : Nat), Vals xs us → Vals (xs.take n) (us.take n)
  | _, _, 0, _ => .nil
  | _, _, _ + 1, .nil => .nil
  | _, _, n + 1, .cons r t => .cons r (Vals.take n t)
theorem Vals.drop : ∀ {xs : List V} {us : List Value} (n : Nat), Vals xs us → Vals (xs.drop n) (us.drop n)
  | _, _, 0, r => r
  | _, _, _ + 1, .nil => .nil
  | _, _, n + 1, .cons _ t => Vals.drop n t
def RelO : Option V → Option Value → Prop
  | some v, some u => RelV v u
  | none, none => True
  | _, _ => False
def KV {κ : Type} : List (κ × V) → List (κ × Value) → Prop := Paired fun (p : κ × V) (q : κ × Value) => p.1 = q.1 ∧ RelV p.2 q.2
def kV : Key → V
  | .inl i => .int i
  | .inr x => .str x
inductive HO where
    | lst (xs : List V)
    | tup (xs : List V)
    | dK (kvs : List (Key × V)) | dT (kvs : List (List Key × V))
    | set (S : Int → Bool) (n : Nat)
    | ins (C dx : Addr) (fs : List (Str × V))
    | own (x : Addr)
    | xd (fs : List (Str × V))
    | met (f x : Addr)
    | rng (lo hi : Int)
    | frz (o : Obj) (u : HO)
    | tbl (ps : Array Value)
    | ext (φ : Heap → Prop)
abbrev Hp := Addr → Option HO
def upd (H : Hp) (a : Addr) (o : HO) : Hp := fun b => if b = a then some o else H b
theorem upd_same {H : Hp} {a : Addr} {o : HO} : upd H a o a = some o := by unfold upd; rw [if_pos rfl]
theorem upd_ne {H : Hp} {a b : Addr} {o : HO} (h : b ≠ a) : upd H a o b = H b := by unfold upd; rw [if_neg h]
theorem ne_of_none {H : Hp} {a b : Addr} {o : HO} (h : H a = some o) (h' : H b = none) : a ≠ b := by
  intro e; subst e; rw [h] at h'; cases h'
def NoDi (h : Heap) (a : Addr) : Prop := ∀ o, h.get? a = some o → o.dict = none
theorem NoDi.new (h : Heap) (us : Array Value) : NoDi (h.push { cls := .type "tuple", data := .seq us }) h.objs.size := fun o q => by
  rw [Heap.get?_push_size _ rfl] at q
  cases q
  rfl
section
variable (P : Program) (w : World)
def ObjOk (H : Hp) (h : Heap) (a : Addr) : HO → Prop
  | .lst xs => xs.length ≤ sizeLine ∧ ∃ (its : List Value) (n : Nat), Vals xs its ∧ h.get? a = some { cls := .type "list", data := .seq its.toArray n }
  | .tup xs => xs.length ≤ sizeLine ∧ ∃ its : List Value, Vals xs its ∧ IsTup h a its.toArray ∧ NoDi h a
  | .dK kvs => kvs.length ≤ sizeLine ∧ (a == sysModules) = false ∧ ∃ vs, KV kvs vs ∧ h.DictOf (mixKind P w) a vs
  | .dT kvs => kvs.length ≤ sizeLine ∧ (a == sysModules) = false ∧ ∃ xs : List (List Key × Addr × Value),
      Paired (fun (p : List Key × V) (q : List Key × Addr × Value) => p.1 = q.1 ∧ H q.2.1 = some (.tup (p.1.map kV)) ∧ RelV p.2 q.2.2) kvs xs ∧
      ∃ o es ep, h.get? a = some o ∧ o.ExactDict ∧ o.data = .dict es ep ∧ es.toList = xs.map (entryOfKey (tupleKind (mixKind P w))) ∧ (xs.map (·.1)).Nodup
  | .set S n => h.SetOf (intKind P w) a S n
  | .ins C dx fs => H dx = some (.own a) ∧ fs.length ≤ 1000 ∧ dx ≠ a ∧ h.get? a = some (PySem.W.instObj C dx) ∧
      ∃ mA, h.Ns1 dx mA ∧ (∀ f, RelO (fs.lookup f) (mA f)) ∧ PySem.Within mA (fs.map (·.1))
  | .own _ => ∃ o, h.get? a = some o
  | .xd fs => ∃ mA, h.Ns1 a mA ∧ ∀ f, RelO (fs.lookup f) (mA f)
  | .rng lo hi => ∃ t u v, h.get? a = some { cls := .type "range", data := .fields #[.int lo t, .int hi u, .int 1 v] }
  | .frz o u => h.get? a = some o ∧ ObjOk H h a u
  | .tbl ps => h.get? a = some { cls := .none, data := .fields ps }
  | .met f x => h.get? a = some (PySem.W.methodObj (.ref f) (.ref x))
  | .ext φ => φ h ∧ (∃ o, h.get? a = some o) ∧ ∀ h1 h2 : Heap, φ h1 → (∀ o, h1.get? a = some o → h2.get? a = some o) → φ h2
def HOk (H : Hp) (h : Heap) : Prop := ∀ a o, H a = some o → ObjOk P w H h a o
end
section
variable {P : Program} {w : World} {H H' : Hp} {h h' : Heap} {a : Addr} {o : HO}
theorem ObjOk.lt (x : ObjOk P w H h a o) : a < h.objs.size := by
  cases o with
  | lst xs => obtain ⟨_, _, _, _, e⟩ := x; exact Heap.lt_size e
  | tup xs => obtain ⟨_, _, _, p, _⟩ := x; exact p.lt
  | dK kvs => obtain ⟨_, _, _, _, o, _, _, e, _⟩ := x; exact Heap.lt_size e
  | dT kvs => obtain ⟨_, _, _, _, o, _, _, e, _⟩ := x; exact Heap.lt_size e
  | set S n => obtain ⟨o, _, _, _, e, _⟩ := x; exact Heap.lt_size e
  | ins C dx fs => obtain ⟨_, _, _, e, _⟩ := x; exact Heap.lt_size e
  | own y => obtain ⟨_, e⟩ := x; exact Heap.lt_size e
  | xd fs => obtain ⟨_, ⟨_, _, _, e, _⟩, _⟩ := x; exact Heap.lt_size e
  | rng lo hi => obtain ⟨_, _, _, e⟩ := x; exact Heap.lt_size e
  | frz ob u => obtain ⟨e, _⟩ := x; exact Heap.lt_size e
  | tbl ps => exact Heap.lt_size (show h.get? a = some _ from x)
  | met f y => exact Heap.lt_size (show h.get? a = some _ from x)
  | ext φ => obtain ⟨_, ⟨_, e⟩, _⟩ := x; exact Heap.lt_size e
theorem Paired.mapP {α β : Type} {F G : α → β → Prop} : ∀ {l₁ : List α} {l₂ : List β}, Paired F l₁ l₂ → (∀ a b, F a b → G a b) → Paired G l₁ l₂
  | _, _, .nil, _ => .nil
  | _, _, .cons r t, f => .cons (f _ _ r) (Paired.mapP t f)
theorem ObjOk.stay (x : ObjOk P w H h a o) (k : ∀ b u, (b = a ∨ H b = some (.own a)) → h.get? b = some u → h'.get? b = some u)
    (ho : ∀ b, H b = some (.own a) → H' b = some (.own a)) (ht : ∀ b xs, H b = some (.tup xs) → H' b = some (.tup xs)) : ObjOk P w H' h' a o := by
  induction o with
  | lst xs => obtain ⟨z, its, n, r, e⟩ := x; exact ⟨z, its, n, r, k _ _ (.inl rfl) e⟩
  | tup xs => obtain ⟨z, us, r, ⟨ob, e, c⟩, nd⟩ := x; exact ⟨z, us, r, ⟨ob, k _ _ (.inl rfl) e, c⟩, fun o q => by rw [k _ _ (.inl rfl) e] at q; cases q; exact nd _ e⟩
  | dK kvs => obtain ⟨z, y, vs, r, ob, es, ep, e, c⟩ := x; exact ⟨z, y, vs, r, ob, es, ep, k _ _ (.inl rfl) e, c⟩
  | dT kvs =>
    obtain ⟨z, y, xs, r, ob, es, ep, e, c⟩ := x
    exact ⟨z, y, xs, Paired.mapP r fun p q z => ⟨z.1, ht _ _ z.2.1, z.2.2⟩, ob, es, ep, k _ _ (.inl rfl) e, c⟩
  | set S n => obtain ⟨ob, es, ep, t, e, c⟩ := x; exact ⟨ob, es, ep, t, k _ _ (.inl rfl) e, c⟩
  | ins C dx fs =>
    obtain ⟨d, z, ne, e, mA, ⟨od, es, ep, e2, c⟩, r⟩ := x
    exact ⟨ho _ d, z, ne, k _ _ (.inl rfl) e, mA, ⟨od, es, ep, k _ _ (.inr d) e2, c⟩, r⟩
  | own y => obtain ⟨ob, e⟩ := x; exact ⟨ob, k _ _ (.inl rfl) e⟩
  | xd fs => obtain ⟨mA, ⟨od, es, ep, e, c⟩, r⟩ := x; exact ⟨mA, ⟨od, es, ep, k _ _ (.inl rfl) e, c⟩, r⟩
  | rng lo hi => obtain ⟨t, u, v, e⟩ := x; exact ⟨t, u, v, k _ _ (.inl rfl) e⟩
  | frz ob u ih => obtain ⟨e, q⟩ := x; exact ⟨k _ _ (.inl rfl) e, ih q⟩
  | tbl ps =>
    have e : h.get? a = some { cls := .none, data := .fields ps } := x
    show h'.get? a = some { cls := .none, data := .fields ps }
    exact k a _ (.inl rfl) e
  | met f y =>
    have e : h.get? a = some (PySem.W.methodObj (.ref f) (.ref y)) := x
    show h'.get? a = some (PySem.W.methodObj (.ref f) (.ref y))
    exact k a _ (.inl rfl) e
  | ext φ => obtain ⟨p, ⟨o, e⟩, st⟩ := x; exact ⟨st _ _ p fun o q => k _ _ (.inl rfl) q, ⟨o, k _ _ (.inl rfl) e⟩, st⟩
theorem HOk.lt (x : HOk P w H h) (e : H a = some o) : a < h.objs.size := (x a o e).lt
theorem HOk.fresh (x : HOk P w H h) (e : h.objs.size ≤ a) : H a = none := by
  cases q : H a with
  | none => rfl
  | some u => exact absurd (Nat.lt_of_lt_of_le (x.lt q) e) (Nat.lt_irrefl _)
theorem HOk.kept (x : HOk P w H h) (k : ∀ b u, h.get? b = some u → h'.get? b = some u) : HOk P w H h' := fun a o e =>
  (x a o e).stay (fun b u _ q => k b u q) (fun _ q => q) fun _ _ q => q
theorem HOk.laid (x : HOk P w H h) (k : ∀ b u, h.get? b = some u → h'.get? b = some u) (hp : h.objs.size ≤ a) (new : ObjOk P w (upd H a o) h' a o) : HOk P w (upd H a o) h' := fun b u e => by
  have hn := x.fresh hp
  by_cases hb : b = a
  · subst hb; rw [upd_same] at e; cases e; exact new
  · rw [upd_ne hb] at e
    exact (x b u e).stay (fun c v _ q => k c v q) (fun c q => by rw [upd_ne (ne_of_none q hn)]; exact q) fun c xs q => by rw [upd_ne (ne_of_none q hn)]; exact q
end
def Rd (H : Hp) (a : Addr) (u : HO) : Prop := H a = some u ∨ ∃ o, H a = some (.frz o u)
theorem Rd.ok {P : Program} {w : World} {H : Hp} {h : Heap} {a : Addr} {u : HO} (r : Rd H a u) (x : HOk P w H h) : ObjOk P w H h a u := by
  rcases r with r | ⟨o, r⟩
  · exact x a u r
  · obtain ⟨_, q⟩ := x a _ r
    exact q
def Mut : Option HO → Prop
  | some (.lst _) => True
  | some (.dK _) => True
  | some (.dT _) => True
  | some (.set _ _) => True
  | some (.ins _ _ _) => True
  | some (.ext _) => True
  | _ => False
section
variable {P : Program} {w : World} {H : Hp} {h h' : Heap} {x e : Addr} {o' : HO}
theorem HOk.write (ok : HOk P w H h) (mu : Mut (H x)) (he : e = x ∨ H e = some (.own x)) (k : ∀ b u, b ≠ e → h.get? b = some u → h'.get? b = some u) (heo : ∃ u, h'.get? e = some u)
    (new : ObjOk P w (upd H x o') h' x o') : HOk P w (upd H x o') h' := fun b u q => by
  have nown : ∀ c y, H c = some (.own y) → c ≠ x := fun c y r z => by subst z; rw [r] at mu; exact mu
  have ntup : ∀ c xs, H c = some (.tup xs) → c ≠ x := fun c xs r z => by subst z; rw [r] at mu; exact mu
  by_cases hb : b = x
  · subst hb; rw [upd_same] at q; cases q; exact new
  · rw [upd_ne hb] at q
    by_cases hbe : b = e
    · have q' : H b = some (.own x) := by
        rcases he with z | z
        · exact absurd (hbe.trans z) hb
        · rw [hbe]; exact z
      rw [q] at q'; cases q'
      obtain ⟨v, hv⟩ := heo
      exact ⟨v, by rw [hbe]; exact hv⟩
    · refine (ok b u q).stay (fun c v hc r => k c v ?_ r) (fun c r => by rw [upd_ne (nown c b r)]; exact r) fun c xs r => by rw [upd_ne (ntup c xs r)]; exact r
      rcases hc with rfl | hc
      · exact hbe
      · rintro rfl
        rcases he with z | z
        · exact nown c b hc z
        · rw [hc] at z; cases z; exact hb rfl
end
structure Un (fs ex : List Addr) (H H' : Hp) (h h' : Heap) : Prop where
  keep : ∀ b o, h.get? b = some o → H b = none → b ∉ fs → b ∉ ex → h'.get? b = some o
  slot : ∀ b o, h.get? b = some o → H b = none → b ∈ fs → b ∉ ex → ∃ sl, h'.get? b = some { o with slots := sl }
  free : ∀ b o, h.get? b = some o → H b = none → b ∉ ex → H' b = none
  there : ∀ b o, h.get? b = some o → b ∉ ex → ∃ o', h'.get? b = some o'
  tups : ∀ b xs, H b = some (.tup xs) → H' b = some (.tup xs)
  frzs : ∀ b o u, H b = some (.frz o u) → H' b = some (.frz o u)
  tbls : ∀ b ps, H b = some (.tbl ps) → ∃ more, H' b = some (.tbl (ps ++ more))
section
variable {fs fs' ex ex' : List Addr} {H H1 H2 : Hp} {h h1 h2 h' : Heap} {a x e : Addr} {o : HO}
theorem Un.any (u : Un fs ex H H1 h h1) {b : Addr} {ob : Obj} (q : h.get? b = some ob) (n : H b = none) (hx : b ∉ ex) : ∃ sl, h1.get? b = some { ob with slots := sl } := by
  by_cases hb : b ∈ fs
  · exact u.slot b ob q n hb hx
  · exact ⟨ob.slots, u.keep b ob q n hb hx⟩
theorem Un.kept (k : ∀ b u, h.get? b = some u → h'.get? b = some u) : Un fs ex H H h h' :=
  ⟨fun b ob q _ _ _ => k b ob q, fun b ob q _ _ _ => ⟨ob.slots, k b ob q⟩, fun _ _ _ n _ => n, fun b ob q _ => ⟨ob, k b ob q⟩, fun _ _ q => q, fun _ _ _ q => q, fun _ ps q => ⟨#[], by rw [q]; simp⟩⟩
theorem Un.refl : Un fs ex H H h h := Un.kept fun _ _ q => q
theorem Un.laid (k : ∀ b u, h.get? b = some u → h'.get? b = some u) (hp : h.objs.size ≤ a) (hn : H a = none) : Un fs ex H (upd H a o) h h' where
  keep := fun b u q _ _ _ => k b u q
  slot := fun b u q _ _ _ => ⟨u.slots, k b u q⟩
  free := fun b u q n _ => by rw [upd_ne (Nat.ne_of_lt (Nat.lt_of_lt_of_le (Heap.lt_size q) hp))]; exact n
  there := fun b u q _ => ⟨u, k b u q⟩
  tups := fun b xs q => by rw [upd_ne (ne_of_none q hn)]; exact q
  frzs := fun b u xs q => by rw [upd_ne (ne_of_none q hn)]; exact q
  tbls := fun b ps q => ⟨#[], by rw [upd_ne (ne_of_none q hn), q]; simp⟩
theorem Un.write (mu : Mut (H x)) (he : e = x ∨ H e = some (.own x)) (k : ∀ b u, b ≠ e → h.get? b = some u → h'.get? b = some u) (heo : ∃ u, h'.get? e = some u) : Un fs ex H (upd H x o) h h' := by
  have hx : ∀ b, H b = none → b ≠ x := fun b n z => by subst z; rw [n] at mu; exact mu
  have hb : ∀ b, H b = none → b ≠ e := fun b n z => by
    subst z
    rcases he with r | r
    · exact hx b n r
    · rw [n] at r; cases r
  have hm : ∀ b u, H b = some u → ¬ Mut (some u) → b ≠ x := fun b u q nm z => by subst z; rw [q] at mu; exact nm mu
  refine ⟨fun b u q n _ _ => k b u (hb b n) q, fun b u q n _ _ => ⟨u.slots, k b u (hb b n) q⟩, fun b u q n _ => by rw [upd_ne (hx b n)]; exact n, fun b u q _ => ?_,
    fun b xs q => by rw [upd_ne (hm b _ q fun z => z)]; exact q, fun b u xs q => by rw [upd_ne (hm b _ q fun z => z)]; exact q, fun b ps q => ⟨#[], by rw [upd_ne (hm b _ q fun z => z), q]; simp⟩⟩
  by_cases hbe : b = e
  · subst hbe; exact heo
  · exact ⟨u, k b u hbe q⟩
end
def trk (h : Heap) (H : Hp) : List Addr := (List.range h.objs.size).filter fun a => (H a).isSome
def hidT (h : Heap) (H : Hp) : Heap := PySem.W.hideAll h (trk h H)
theorem hidT_size (h : Heap) (H : Hp) : (hidT h H).objs.size = h.objs.size := PySem.W.hideAll_size _ _
theorem hidT_get {h : Heap} {H : Hp} {b : Addr} {o : Obj} (e : h.get? b = some o) (n : H b = none) : (hidT h H).get? b = some o :=
  PySem.W.hideAll_get _ e fun hm => by
    have q : (H b).isSome = true := (List.mem_filter.mp hm).2
    rw [n] at q; simp at q
theorem of_hidT {h : Heap} {H : Hp} {b : Addr} {o : Obj} (e : (hidT h H).get? b = some o) : h.get? b = some o ∧ H b = none := by
  have e' : h.get? b = some o := PySem.W.of_hideAll (trk h H) e
  refine ⟨e', ?_⟩
  cases q : H b with
  | none => rfl
  | some x =>
    have hm : b ∈ trk h H := List.mem_filter.mpr ⟨List.mem_range.mpr (Heap.lt_size e'), by simp [q]⟩
    have z : (hidT h H).get? b = none := PySem.W.hideAll_none (trk h H) hm
    rw [z] at e; cases e
def allNews (g h : Heap) (L : Addr) : List (Addr × Obj) := (List.range h.objs.size).filterMap fun a => if a = L ∨ (g.get? a).isSome = true then none else (h.get? a).map fun o => (a, o)
theorem mem_allNews {g h : Heap} {L a : Addr} {o : Obj} (h1 : a ≠ L) (h2 : g.get? a = none) (h3 : h.get? a = some o) : (a, o) ∈ allNews g h L :=
  List.mem_filterMap.mpr ⟨a, List.mem_range.mpr (Heap.lt_size h3), by simp [h1, h2, h3]⟩
theorem of_mem_allNews {g h : Heap} {L : Addr} {p : Addr × Obj} (hp : p ∈ allNews g h L) : p.1 ≠ L ∧ g.get? p.1 = none ∧ h.get? p.1 = some p.2 := by
  obtain ⟨b, _, e⟩ := List.mem_filterMap.mp hp
  split at e
  · cases e
  · rename_i hn
    cases q : h.get? b with
    | none => rw [q] at e; simp at e
    | some u =>
      rw [q] at e
      simp only [Option.map_some, Option.some.injEq] at e
      subst e
      refine ⟨fun z => hn (.inl z), ?_, q⟩
      show g.get? b = none
      cases r : g.get? b with
      | none => rfl
      | some v => exact (hn (.inr (by simp [r]))).elim
theorem news_all {g h : Heap} {L : Addr} : News g L h (allNews g h L) := fun p hp => let ⟨a, b, c⟩ := of_mem_allNews hp; ⟨c, a, b⟩
end L2
namespace L2
open PySem PySem.Spec PyProof.Rows
structure Mod (K : PySem.W.Frag) (mg : Str → Option Value) (base : Heap) : Prop where
  kin : K.In base
  glob : base.Ns mainGlobals mg
  blt : ∃ mb, base.Ns builtinsNs mb ∧ ∀ x : Str, x ≠ "__name__" → mb x = bootBuiltins x
  nolimit : base.NoLimit
structure Cx where
  prog : Program
  w : World
  K : PySem.W.Frag
  mg : Str → Option Value
  base : Heap
  A : Around
  N : List Str
  s₀ : Shared
  H₀ : Hp
  env : Env
  outer : List Env
  stack : List Env
  ex : List Addr
  fn : Str → Bool
  calm : Bool
  pn : List (Addr × Obj)
  xe : Value → Shared → Prop
def frs (l : List Env) : List Addr := l.filterMap (·.frame)
abbrev Cx.fs (X : Cx) : List Addr := frs X.outer
def Vis (sc : Scope) (x : Str) : Prop := sc.names.lookup x = some .local ∨ sc.names.lookup x = some .cell ∨ sc.names.lookup x = some .free
def Loc (sc : Scope) (x : Str) : Prop := sc.names.lookup x = some .local ∨ sc.names.lookup x = some .cell
def Look (env : Env) (h : Heap) (m : Str → Option Value) (x : Str) (u : Value) : Prop :=
  (env.kindOf x = some .local ∧ m x = some u) ∨ ((env.kindOf x = some .cell ∨ env.kindOf x = some .free) ∧ ∃ c, env.cells.lookup x = some c ∧ h.IsCell c (some u))
structure Cx.Ok (X : Cx) : Prop where
  mod : Mod X.K X.mg X.base
  kind : X.env.scope.kind = .function
  glob : X.env.globals = mainGlobals
  blt : X.env.builtins = builtinsNs
  above : X.s₀.heap.objs.size ≤ X.env.locals
  inj : ∀ x y c, X.env.cells.lookup x = some c → X.env.cells.lookup y = some c → x = y
  has : ∀ x, (X.env.kindOf x = some .cell ∨ X.env.kindOf x = some .free) → ∃ c, X.env.cells.lookup x = some c
  cab : ∀ x c, X.fn x = true → X.env.cells.lookup x = some c → X.s₀.heap.objs.size ≤ c
  hd : X.calm = true → X.A.handled = none
  frames : X.A.frames = some X.stack
  stk : X.stack = X.outer ∨ (X.stack = X.env :: X.outer ∧ X.env.frame = some X.env.locals)
  exf : ∀ b ∈ X.ex, b ≠ X.env.locals ∧ ∀ x c, X.env.cells.lookup x = some c → c ≠ b
  bs : ∀ b o, X.base.get? b = some o → X.s₀.heap.get? b = some o ∧ X.H₀ b = none
  bsz : X.base.objs.size ≤ X.s₀.heap.objs.size
  noex : ∀ b o, X.base.get? b = some o → b ∉ X.ex
  exfs : ∀ b ∈ X.ex, b ∉ X.fs
  funs : X.s₀.heap.FunFrames X.base X.outer
  frf : ∀ b ∈ X.fs, X.H₀ b = none
structure Inv (X : Cx) (pins : List (Addr × Obj)) (σ : List (Option V)) (H : Hp) (s : Shared) : Prop where
  ok : X.Ok
  os : s.os = X.s₀.os
  bare : AllBare s.gens
  base : Un X.fs X.ex X.H₀ H X.s₀.heap s.heap
  loc : ∃ m, s.heap.Ns X.env.locals m ∧ ∀ (i : Nat) (x : Str) (v : V), X.N[i]? = some x → σ[i]? = some (some v) → Vis X.env.scope x → ∃ u, RelV v u ∧ Look X.env s.heap m x u
  cell : ∀ x c, X.env.cells.lookup x = some c → ∃ v, s.heap.IsCell c v
  free : H X.env.locals = none
  freeC : ∀ x c, X.env.cells.lookup x = some c → H c = none
  pin : ∀ p ∈ X.pn ++ pins, s.heap.get? p.1 = some p.2 ∧ H p.1 = none ∧ p.1 ≠ X.env.locals ∧ p.1 ∉ X.fs ∧ ∀ v, p.2.data ≠ .cell v
  hok : HOk X.prog X.w H s.heap
  len : σ.length = X.N.length
section
variable {X : Cx} {pins : List (Addr × Obj)} {σ : List (Option V)} {H H' : Hp} {s : Shared} {h' : Heap}
theorem Cx.Ok.nofr (ok : X.Ok) {b : Addr} {o : Obj} (e : X.base.get? b = some o) : b ∉ X.fs := fun hb => by
  have := (ok.funs.mem hb).1
  rw [e] at this; cases this
theorem Inv.bs (I : Inv X pins σ H s) : ∀ b o, X.base.get? b = some o → s.heap.get? b = some o ∧ H b = none := fun b o e =>
  ⟨I.base.keep b o (I.ok.bs b o e).1 (I.ok.bs b o e).2 (I.ok.nofr e) (I.ok.noex b o e), I.base.free b o (I.ok.bs b o e).1 (I.ok.bs b o e).2 (I.ok.noex b o e)⟩
theorem Inv.bk (I : Inv X pins σ H s) : ∀ b o, X.base.get? b = some o → s.heap.get? b = some o := fun b o e => (I.bs b o e).1
theorem Inv.mod (I : Inv X pins σ H s) : Mod X.K X.mg X.base := I.ok.mod
theorem Inv.kIn (I : Inv X pins σ H s) : X.K.In s.heap := I.ok.mod.kin.keeps I.bk
theorem Inv.lt (I : Inv X pins σ H s) : X.env.locals < s.heap.objs.size := let ⟨_, hn, _⟩ := I.loc; hn.lt
theorem Inv.sz (I : Inv X pins σ H s) : X.s₀.heap.objs.size ≤ s.heap.objs.size := Nat.le_trans I.ok.above (Nat.le_of_lt I.lt)
theorem Inv.nofs (I : Inv X pins σ H s) {a : Addr} (h : s.heap.objs.size ≤ a) : a ∉ X.fs := fun hb => by
  obtain ⟨_, o, ho, _⟩ := I.ok.funs.mem hb
  exact absurd (Nat.lt_of_lt_of_le (Heap.lt_size ho) (Nat.le_trans I.sz h)) (Nat.lt_irrefl _)
theorem Inv.cne (I : Inv X pins σ H s) : ∀ x c, X.env.cells.lookup x = some c → c ≠ X.env.locals := fun x c e z => by
  obtain ⟨v, o, ho, hd⟩ := I.cell x c e
  obtain ⟨m, ⟨o', es, ep, ho', hd', _⟩, _⟩ := I.loc
  rw [z, ho'] at ho; cases ho; rw [hd'] at hd; cases hd
theorem Inv.funs (I : Inv X pins σ H s) : s.heap.FunFrames X.base X.outer := by
  have all : ∀ (l : List Env), (∀ b ∈ frs l, b ∈ X.fs) → X.s₀.heap.FunFrames X.base l → s.heap.FunFrames X.base l := by
    intro l
    induction l with
    | nil => intro _ _; trivial
    | cons env r ih =>
      intro hs hl
      obtain ⟨hk, ⟨L, o, hf, hn, ho, hd⟩, hr⟩ := hl
      have hL : L ∈ X.fs := hs L (by unfold frs; rw [List.filterMap_cons, hf]; exact List.mem_cons_self)
      obtain ⟨sl, e⟩ := I.base.slot L o ho (I.ok.frf L hL) hL fun z => I.ok.exfs L z hL
      exact ⟨hk, ⟨L, _, hf, hn, e, hd⟩, ih (fun b hb => hs b (by unfold frs; rw [List.filterMap_cons, hf]; exact List.mem_cons_of_mem _ hb)) hr⟩
  exact all X.outer (fun _ hb => hb) I.ok.funs
theorem Inv.stack (I : Inv X pins σ H s) : s.heap.FunFrames X.base X.stack := by
  rcases I.ok.stk with e | ⟨e, hf⟩
  · rw [e]; exact I.funs
  · rw [e]
    obtain ⟨m, hn, _⟩ := I.loc
    refine .cons (by rw [I.ok.kind]; decide) hf hn ?_ I.funs
    exact Heap.get?_none_of_le (Nat.le_trans I.ok.bsz I.ok.above)
theorem Inv.stkSub (I : Inv X pins σ H s) : ∀ b ∈ frs X.stack, b ∈ X.env.locals :: X.fs := fun b hb => by
  rcases I.ok.stk with e | ⟨e, hf⟩
  · rw [e] at hb; exact List.mem_cons_of_mem _ hb
  · rw [e] at hb
    unfold frs at hb
    rw [List.filterMap_cons, hf] at hb
    exact hb
theorem Inv.stkFree (I : Inv X pins σ H s) : ∀ b ∈ frs X.stack, H b = none := fun b hb => by
  rcases List.mem_cons.mp (I.stkSub b hb) with e | hb
  · rw [e]; exact I.free
  · obtain ⟨_, o, ho, _⟩ := I.ok.funs.mem hb
    exact I.base.free b o ho (I.ok.frf b hb) fun z => I.ok.exfs b z hb
theorem Inv.step {g' : Array GenState} {t' : Nat} {d' : Drawn} {ch : List Addr} (I : Inv X pins σ H s)
    (hch : ∀ b ∈ ch, (b ∈ X.ex ∨ X.s₀.heap.objs.size ≤ b) ∧ b ≠ X.env.locals ∧ (∀ x c, X.env.cells.lookup x = some c → c ≠ b) ∧ ∀ p ∈ X.pn ++ pins, p.1 ≠ b)
    (keep : ∀ b o, b ≠ X.env.locals → b ∉ X.fs → b ∉ ch → s.heap.get? b = some o → H b = none → h'.get? b = some o)
    (slot : ∀ b o, b ≠ X.env.locals → b ∈ X.fs → b ∉ ch → s.heap.get? b = some o → H b = none → ∃ sl, h'.get? b = some { o with slots := sl }) (free : ∀ b o, b ∉ ch → s.heap.get? b = some o → H b = none → H' b = none)
    (there : ∀ b o, b ∉ ch → s.heap.get? b = some o → ∃ o', h'.get? b = some o')
    (tups : ∀ b xs, H b = some (.tup xs) → H' b = some (.tup xs)) (frzs : ∀ b o u, H b = some (.frz o u) → H' b = some (.frz o u)) (tbls : ∀ b ps, H b = some (.tbl ps) → ∃ more, H' b = some (.tbl (ps ++ more)))
    (ns : ∀ m, s.heap.Ns X.env.locals m → h'.Ns X.env.locals m) (hok : HOk X.prog X.w H' h') (hg : AllBare g') :
    Inv X pins σ H' { s with heap := h', gens := g', drawn := d', toks := t' } := by
  have neL : ∀ b o, X.s₀.heap.get? b = some o → b ≠ X.env.locals := fun b o e => Nat.ne_of_lt (Nat.lt_of_lt_of_le (Heap.lt_size e) I.ok.above)
  have neC : ∀ b o, X.s₀.heap.get? b = some o → b ∉ X.ex → b ∉ ch := fun b o e hx hb => by
    rcases (hch b hb).1 with z | z
    · exact hx z
    · exact absurd (Nat.lt_of_lt_of_le (Heap.lt_size e) z) (Nat.lt_irrefl _)
  have cellK : ∀ x c, X.env.cells.lookup x = some c → ∀ v, s.heap.IsCell c v → h'.IsCell c v := fun x c e v ⟨o, ho, hd⟩ => by
    have nch : c ∉ ch := fun z => (hch c z).2.2.1 x c e rfl
    by_cases hc : c ∈ X.fs
    · obtain ⟨sl, q⟩ := slot c o (I.cne x c e) hc nch ho (I.freeC x c e)
      exact ⟨_, q, hd⟩
    · exact ⟨o, keep c o (I.cne x c e) hc nch ho (I.freeC x c e), hd⟩
  refine ⟨I.ok, I.os, hg, ⟨fun b o e n hb hx => ?_, fun b o e n hb hx => ?_, fun b o e n hx => ?_, fun b o e hx => ?_, fun b xs e => tups b xs (I.base.tups b xs e), fun b o xs e => frzs b o xs (I.base.frzs b o xs e), fun b ps e => ?_⟩, ?_, fun x c e => ?_, ?_, fun x c e => ?_, fun p hp => ?_, hok, I.len⟩
  · exact keep b o (neL b o e) hb (neC b o e hx) (I.base.keep b o e n hb hx) (I.base.free b o e n hx)
  · obtain ⟨sl, e1⟩ := I.base.slot b o e n hb hx
    obtain ⟨sl', e2⟩ := slot b _ (neL b o e) hb (neC b o e hx) e1 (I.base.free b o e n hx)
    exact ⟨sl', e2⟩
  · obtain ⟨o', e1⟩ := I.base.there b o e hx
    exact free b o' (neC b o e hx) e1 (I.base.free b o e n hx)
  · obtain ⟨o', e1⟩ := I.base.there b o e hx
    exact there b o' (neC b o e hx) e1
  · obtain ⟨m1, e1⟩ := I.base.tbls b ps e
    obtain ⟨m2, e2⟩ := tbls b _ e1
    exact ⟨m1 ++ m2, by rw [e2, Array.append_assoc]⟩
  · obtain ⟨m, hn, hl⟩ := I.loc
    refine ⟨m, ns m hn, fun i x v e1 e2 e3 => ?_⟩
    obtain ⟨u, r, l⟩ := hl i x v e1 e2 e3
    refine ⟨u, r, ?_⟩
    rcases l with l | ⟨k, c, e, z⟩
    · exact .inl l
    · exact .inr ⟨k, c, e, cellK x c e _ z⟩
  · obtain ⟨v, z⟩ := I.cell x c e
    exact ⟨v, cellK x c e v z⟩
  · obtain ⟨m, ⟨o, _, _, ho, _⟩, _⟩ := I.loc
    exact free _ o (fun z => (hch _ z).2.1 rfl) ho I.free
  · obtain ⟨v, o, ho, hd⟩ := I.cell x c e
    exact free c o (fun z => (hch c z).2.2.1 x c e rfl) ho (I.freeC x c e)
  · obtain ⟨e, n, ne, nf, d⟩ := I.pin p hp
    have nch : p.1 ∉ ch := fun z => (hch p.1 z).2.2.2 p hp rfl
    exact ⟨keep p.1 p.2 ne nf nch e n, free p.1 p.2 nch e n, ne, nf, d⟩
theorem Inv.un {t' : Nat} (I : Inv X pins σ H s) (u : Un X.fs [] H H' s.heap h') (hok : HOk X.prog X.w H' h') : Inv X pins σ H' { s with heap := h', toks := t' } := by
  obtain ⟨m, ⟨o, es, ep, ho, r⟩, _⟩ := id I.loc
  obtain ⟨sl, hL⟩ := u.any ho I.free (by simp)
  exact I.step (g' := s.gens) (d' := s.drawn) (ch := []) (fun _ z => nomatch z) (fun b o _ hb _ e n => u.keep b o e n hb (by simp)) (fun b o _ hb _ e n => u.slot b o e n hb (by simp)) (fun b o _ e n => u.free b o e n (by simp)) (fun b o _ e => u.there b o e (by simp)) u.tups u.frzs u.tbls (fun m' hm => by
    obtain ⟨o', es', ep', ho', r'⟩ := hm
    rw [ho] at ho'; cases ho'
    exact ⟨_, es', ep', hL, r'⟩) hok I.bare
theorem Inv.call {g' : Array GenState} {t' : Nat} {d' : Drawn} {ch : List Addr} (I : Inv X pins σ H s) (u : Un (frs X.stack) ch H H' s.heap h') (hok : HOk X.prog X.w H' h') (hg : AllBare g')
    (hch : ∀ b ∈ ch, (b ∈ X.ex ∨ X.s₀.heap.objs.size ≤ b) ∧ b ≠ X.env.locals ∧ (∀ x c, X.env.cells.lookup x = some c → c ≠ b) ∧ ∀ p ∈ X.pn ++ pins, p.1 ≠ b) :
    Inv X pins σ H' { s with heap := h', gens := g', drawn := d', toks := t' } := by
  obtain ⟨m, ⟨o, es, ep, ho, r⟩, _⟩ := id I.loc
  obtain ⟨sl, hL⟩ := u.any ho I.free fun z => (hch _ z).2.1 rfl
  exact I.step (ch := ch) hch (fun b o hL hb hc e n => u.keep b o e n (fun z => (List.mem_cons.mp (I.stkSub b z)).elim hL hb) hc) (fun b o _ _ hc e n => u.any e n hc) (fun b o hc e n => u.free b o e n hc) (fun b o hc e => u.there b o e hc) u.tups u.frzs u.tbls (fun m' hm => by
    obtain ⟨o', es', ep', ho', r'⟩ := hm
    rw [ho] at ho'; cases ho'
    exact ⟨_, es', ep', hL, r'⟩) hok hg
theorem Inv.turned {t' : Nat} {it : Addr} (I : Inv X pins σ H s) (k : ∀ b o, b ≠ it → s.heap.get? b = some o → h'.get? b = some o) (hn : H it = none) (hL : it ≠ X.env.locals)
    (h1 : it ∈ X.ex ∨ X.s₀.heap.objs.size ≤ it) (h2 : ∀ x c, X.env.cells.lookup x = some c → c ≠ it) (h3 : ∀ p ∈ X.pn ++ pins, p.1 ≠ it) : Inv X pins σ H { s with heap := h', toks := t' } := by
  have nit : ∀ b u, H b = some u → b ≠ it := fun b u e z => by rw [z, hn] at e; cases e
  refine I.step (g' := s.gens) (d' := s.drawn) (ch := [it]) (fun b hb => ?_) (fun b o _ _ hc e _ => k b o (fun z => hc (by simp [z])) e) (fun b o _ _ hc e _ => ⟨o.slots, k b o (fun z => hc (by simp [z])) e⟩) (fun _ _ _ _ n => n)
    (fun b o hc e => ⟨o, k b o (fun z => hc (by simp [z])) e⟩) (fun _ _ e => e) (fun _ _ _ e => e) (fun b ps e => ⟨#[], by rw [e]; simp⟩) (fun m hm => ?_) (fun b u e => ?_) I.bare
  · have e : b = it := by simpa using hb
    subst e
    exact ⟨h1, hL, h2, h3⟩
  · obtain ⟨o, es, ep, ho, r⟩ := hm
    exact ⟨o, es, ep, k _ o (Ne.symm hL) ho, r⟩
  · refine (I.hok b u e).stay (fun c v hc q => k c v ?_ q) (fun _ q => q) fun _ _ q => q
    rcases hc with z | z
    · rw [z]; exact nit b u e
    · exact nit c _ z
theorem Inv.tok (I : Inv X pins σ H s) (t : Nat) : Inv X pins σ H { s with toks := t } := I.un (h' := s.heap) (t' := t) Un.refl I.hok
theorem Inv.kept {t' : Nat} (I : Inv X pins σ H s) (k : ∀ b u, s.heap.get? b = some u → h'.get? b = some u) : Inv X pins σ H { s with heap := h', toks := t' } := I.un (Un.kept k) (I.hok.kept k)
theorem Inv.laid {a : Addr} {o : HO} {t' : Nat} (I : Inv X pins σ H s) (k : ∀ b u, s.heap.get? b = some u → h'.get? b = some u) (hp : s.heap.objs.size ≤ a) (new : ObjOk X.prog X.w (upd H a o) h' a o) :
    Inv X pins σ (upd H a o) { s with heap := h', toks := t' } := I.un (Un.laid k hp (I.hok.fresh hp)) (I.hok.laid k hp new)
theorem Inv.write {x e : Addr} {o : HO} {t' : Nat} (I : Inv X pins σ H s) (mu : Mut (H x)) (he : e = x ∨ H e = some (.own x)) (k : ∀ b u, b ≠ e → s.heap.get? b = some u → h'.get? b = some u) (heo : ∃ u, h'.get? e = some u)
    (new : ObjOk X.prog X.w (upd H x o) h' x o) : Inv X pins σ (upd H x o) { s with heap := h', toks := t' } := I.un (Un.write mu he k heo) (I.hok.write mu he k heo new)
theorem Inv.pins_of {pins' : List (Addr × Obj)} (I : Inv X pins σ H s) (h : ∀ p ∈ pins', s.heap.get? p.1 = some p.2 ∧ H p.1 = none ∧ p.1 ≠ X.env.locals ∧ p.1 ∉ X.fs ∧ ∀ v, p.2.data ≠ .cell v) : Inv X pins' σ H s :=
  ⟨I.ok, I.os, I.bare, I.base, I.loc, I.cell, I.free, I.freeC, fun p hp => (List.mem_append.mp hp).elim (fun z => I.pin p (List.mem_append_left _ z)) (h p), I.hok, I.len⟩
theorem nodup_ix {N : List Str} (hN : N.Nodup) {i j : Nat} {x : Str} (a : N[i]? = some x) (b : N[j]? = some x) : i = j := by
  obtain ⟨h1, e1⟩ := List.getElem?_eq_some_iff.mp a
  obtain ⟨h2, e2⟩ := List.getElem?_eq_some_iff.mp b
  exact (List.getElem_inj hN).mp (e1.trans e2.symm)
theorem store_ok2 {M : Model} {A : Around} {E : Value → Shared → Prop} {i : Nat} {x : Str} {v : V} {u : Value} {Q : Unit → Shared → Prop} (I : Inv X pins σ H s) (hN : X.N.Nodup) (hi : X.N[i]? = some x) (hx : Loc X.env.scope x) (r : RelV v u)
    (h : ∀ s', Inv X pins (σ.set i (some v)) H s' → (∃ a, Heap.SameBut a s.heap s'.heap ∧ (a = X.env.locals ∨ X.env.cells.lookup x = some a)) → Q () s') (hf : X.fn x = true ∨ X.env.scope.names.lookup x = some .local := by first | exact .inl rfl | exact .inr rfl | assumption) : wpAny M A (storeName X.env x u) Q E s := by
  obtain ⟨m, hn, hl⟩ := id I.loc
  have hcls : (X.env.scope.kind == .class || (X.env.scope.kind == .module && X.env.locals != X.env.globals)) = false := by rw [I.ok.kind]; rfl
  have hiσ : i < σ.length := by rw [I.len]; exact (List.getElem?_eq_some_iff.mp hi).1
  have cne := I.cne
  have tracked : ∀ {a : Addr} {h' : Heap}, (∃ o, s.heap.get? a = some o ∧ H a = none) → Heap.SameBut a s.heap h' → HOk X.prog X.w H h' := fun {a h'} ha hs b ob e => by
    obtain ⟨_, _, hfree⟩ := ha
    refine (I.hok b ob e).stay (fun c w' hc q => (hs.2 c ?_).trans q) (fun _ q => q) fun _ _ q => q
    rintro rfl
    rcases hc with rfl | hc
    · rw [hfree] at e; cases e
    · rw [hfree] at hc; cases hc
  rcases hx with hk | hk
  · refine wpAny_storeName_local hk hn (fun h' hn' hs => ?_) hcls
    obtain ⟨oL, _, _, hoL, _⟩ := id hn
    refine h _ ⟨I.ok, I.os, I.bare, ⟨fun b o e n hb hx => ?_, fun b o e n hb hx => ?_, I.base.free, fun b o e hx => ?_, I.base.tups, I.base.frzs, I.base.tbls⟩, ⟨_, hn', fun j y v' e1 e2 e3 => ?_⟩, fun y c e => ?_, I.free, I.freeC, fun p hp => ?_, tracked ⟨oL, hoL, I.free⟩ hs, by simpa using I.len⟩ ⟨_, hs, .inl rfl⟩
    · exact (hs.2 b (Nat.ne_of_lt (Nat.lt_of_lt_of_le (Heap.lt_size e) I.ok.above))).trans (I.base.keep b o e n hb hx)
    · obtain ⟨sl, e1⟩ := I.base.slot b o e n hb hx
      exact ⟨sl, (hs.2 b (Nat.ne_of_lt (Nat.lt_of_lt_of_le (Heap.lt_size e) I.ok.above))).trans e1⟩
    · obtain ⟨o', e1⟩ := I.base.there b o e hx
      exact ⟨o', (hs.2 b (Nat.ne_of_lt (Nat.lt_of_lt_of_le (Heap.lt_size e) I.ok.above))).trans e1⟩
    · by_cases hj : j = i
      · subst hj
        rw [hi] at e1; cases e1
        rw [List.getElem?_set_self hiσ] at e2
        cases e2
        exact ⟨u, r, .inl ⟨hk, by simp⟩⟩
      · rw [List.getElem?_set_ne (Ne.symm hj)] at e2
        obtain ⟨u', r', q⟩ := hl j y v' e1 e2 e3
        refine ⟨u', r', ?_⟩
        rcases q with ⟨k, e⟩ | ⟨k, c, e, z⟩
        · refine .inl ⟨k, ?_⟩
          have : y ≠ x := fun e => hj (nodup_ix hN e1 (e ▸ hi))
          simp [this, e]
        · exact .inr ⟨k, c, e, z.sameBut hs (cne y c e)⟩
    · obtain ⟨w', z⟩ := I.cell y c e
      exact ⟨w', z.sameBut hs (cne y c e)⟩
    · obtain ⟨e, n, ne, nf, d⟩ := I.pin p hp
      exact ⟨(hs.2 p.1 ne).trans e, n, ne, nf, d⟩
  · have hfn : X.fn x = true := by
      rcases hf with z | z
      · exact z
      · rw [z] at hk; cases hk
    obtain ⟨c, hc⟩ := I.ok.has x (.inl hk)
    obtain ⟨w', z⟩ := I.cell x c hc
    refine wpAny_storeName_cell I.ok.kind hk hc z (fun h' hc' hs => ?_)
    obtain ⟨oc, hoc, hocd⟩ := id z
    refine h { s with heap := h' } ⟨I.ok, I.os, I.bare, ⟨fun b o e n hb hx => ?_, fun b o e n hb hx => ?_, I.base.free, fun b o e hx => ?_, I.base.tups, I.base.frzs, I.base.tbls⟩, ⟨m, hn.sameBut hs (Ne.symm (cne x c hc)), fun j y v' e1 e2 e3 => ?_⟩, fun y c' e => ?_, I.free, I.freeC, fun p hp => ?_, tracked ⟨oc, hoc, I.freeC x c hc⟩ hs, by simpa using I.len⟩ ⟨c, hs, .inr hc⟩
    · exact (hs.2 b (Nat.ne_of_lt (Nat.lt_of_lt_of_le (Heap.lt_size e) (I.ok.cab x c hfn hc)))).trans (I.base.keep b o e n hb hx)
    · obtain ⟨sl, e1⟩ := I.base.slot b o e n hb hx
      exact ⟨sl, (hs.2 b (Nat.ne_of_lt (Nat.lt_of_lt_of_le (Heap.lt_size e) (I.ok.cab x c hfn hc)))).trans e1⟩
    · obtain ⟨o', e1⟩ := I.base.there b o e hx
      exact ⟨o', (hs.2 b (Nat.ne_of_lt (Nat.lt_of_lt_of_le (Heap.lt_size e) (I.ok.cab x c hfn hc)))).trans e1⟩
    · by_cases hj : j = i
      · subst hj
        rw [hi] at e1; cases e1
        rw [List.getElem?_set_self hiσ] at e2
        cases e2
        exact ⟨u, r, .inr ⟨.inl hk, c, hc, hc'⟩⟩
      · rw [List.getElem?_set_ne (Ne.symm hj)] at e2
        obtain ⟨u', r', q⟩ := hl j y v' e1 e2 e3
        refine ⟨u', r', ?_⟩
        rcases q with q | ⟨k, c', e, z'⟩
        · exact .inl q
        · refine .inr ⟨k, c', e, z'.sameBut hs ?_⟩
          rintro rfl
          exact hj (nodup_ix hN e1 (I.ok.inj _ _ _ e hc ▸ hi))
    · by_cases hcc : c' = c
      · subst hcc; exact ⟨_, hc'⟩
      · obtain ⟨w2, z2⟩ := I.cell y c' e
        exact ⟨w2, z2.sameBut hs hcc⟩
    · obtain ⟨e, n, ne, nf, d⟩ := I.pin p hp
      refine ⟨(hs.2 p.1 ?_).trans e, n, ne, nf, d⟩
      intro q
      rw [q, hoc] at e
      have q' : oc = p.2 := Option.some.inj e
      exact d w' (by rw [← q']; exact hocd)
theorem store_ok {M : Model} {A : Around} {E : Value → Shared → Prop} {i : Nat} {x : Str} {v : V} {u : Value} {Q : Unit → Shared → Prop} (I : Inv X pins σ H s) (hN : X.N.Nodup) (hi : X.N[i]? = some x) (hx : Loc X.env.scope x) (r : RelV v u)
    (h : ∀ s', Inv X pins (σ.set i (some v)) H s' → Q () s') (hf : X.fn x = true ∨ X.env.scope.names.lookup x = some .local := by first | exact .inl rfl | exact .inr rfl | assumption) : wpAny M A (storeName X.env x u) Q E s :=
  store_ok2 I hN hi hx r (fun s' I' _ => h s' I') hf
theorem Inv.call' {s' : Shared} {ch : List Addr} (I : Inv X pins σ H s) (ho : s'.os = s.os) (u : Un (frs X.stack) ch H H' s.heap s'.heap) (hok : HOk X.prog X.w H' s'.heap) (hg : AllBare s'.gens)
    (hch : ∀ b ∈ ch, (b ∈ X.ex ∨ X.s₀.heap.objs.size ≤ b) ∧ b ≠ X.env.locals ∧ (∀ x c, X.env.cells.lookup x = some c → c ≠ b) ∧ ∀ p ∈ X.pn ++ pins, p.1 ≠ b) : Inv X pins σ H' s' := by
  obtain ⟨h', g', d', t', o'⟩ := s'
  have e : o' = s.os := ho
  subst e
  exact I.call (g' := g') (t' := t') (d' := d') u hok hg hch
end
abbrev XK := Value → Option Addr → Hp → Prop
abbrev St := List (Option V)
abbrev VK := V → Hp → Prop
abbrev TE := St → Hp → VK → Prop
abbrev TT := St → Hp → (Bool → Hp → Prop) → Prop
abbrev TA := St → Hp → (List V → Hp → Prop) → Prop
structure Ends where
  nx : St → Hp → Prop
  rt : VK
  bk : St → Hp → Prop := fun _ _ => False
  ct : St → Hp → Prop := fun _ _ => False
abbrev TS := Ends → St → Hp → Prop
def EP (X : Cx) (pins : List (Addr × Obj)) (σ : St) (Q : VK) (u : Value) (s' : Shared) : Prop := ∃ v H', Inv X pins σ H' s' ∧ RelV v u ∧ Q v H'
def TP (X : Cx) (pins : List (Addr × Obj)) (σ : St) (Q : Bool → Hp → Prop) (b : Bool) (s' : Shared) : Prop := ∃ H', Inv X pins σ H' s' ∧ Q b H'
def AP (X : Cx) (pins : List (Addr × Obj)) (σ : St) (Q : List V → Hp → Prop) (us : List Value) (s' : Shared) : Prop := ∃ vs H', Inv X pins σ H' s' ∧ Vals vs us ∧ Q vs H'
def SP (X : Cx) (pins : List (Addr × Obj)) (D : Ends) (f : Flow) (s' : Shared) : Prop :=
  match f with
  | .next => ∃ σ' H', Inv X pins σ' H' s' ∧ D.nx σ' H'
  | .brk => ∃ σ' H', Inv X pins σ' H' s' ∧ D.bk σ' H'
  | .cont => ∃ σ' H', Inv X pins σ' H' s' ∧ D.ct σ' H'
  | .ret u => ∃ v σ' H', Inv X pins σ' H' s' ∧ RelV v u ∧ D.rt v H'
def PE (X : Cx) (e : Expr) (t : TE) : Prop :=
  ∀ (pins : List (Addr × Obj)) (s : Shared) (σ : St) (H : Hp) (Q : VK), Inv X pins σ H s → t σ H Q → wpAny (model X.prog X.w) X.A (eval e X.env) (EP X pins σ Q) X.xe s
def PT (X : Cx) (e : Expr) (t : TT) : Prop :=
  ∀ (pins : List (Addr × Obj)) (s : Shared) (σ : St) (H : Hp) (Q : Bool → Hp → Prop), Inv X pins σ H s → t σ H Q → wpAny (model X.prog X.w) X.A (isTrue e X.env (eval e X.env)) (TP X pins σ Q) X.xe s
def PW (X : Cx) (e : Expr) (t : TT) : Prop :=
  ∀ (whole : Sem Value) (pins : List (Addr × Obj)) (s : Shared) (σ : St) (H : Hp) (Q : Bool → Hp → Prop), Inv X pins σ H s → t σ H Q → wpAny (model X.prog X.w) X.A (isTrue e X.env whole) (TP X pins σ Q) X.xe s
def PA (X : Cx) (es : List Expr) (t : TA) : Prop :=
  ∀ (pos : Pos) (pins : List (Addr × Obj)) (s : Shared) (σ : St) (H : Hp) (Q : List V → Hp → Prop), Inv X pins σ H s → t σ H Q → wpAny (model X.prog X.w) X.A (spliced (backTo pos (starEach es X.env))) (AP X pins σ Q) X.xe s
def PS (X : Cx) (st : Stmt) (t : TS) : Prop :=
  ∀ (pins : List (Addr × Obj)) (s : Shared) (σ : St) (H : Hp) (D : Ends), Inv X pins σ H s → t D σ H → wpAny (model X.prog X.w) X.A (exec st X.env) (SP X pins D) X.xe s
def PSs (X : Cx) (st : List Stmt) (t : TS) : Prop :=
  ∀ (pins : List (Addr × Obj)) (s : Shared) (σ : St) (H : Hp) (D : Ends), Inv X pins σ H s → t D σ H → wpAny (model X.prog X.w) X.A (execs st X.env) (SP X pins D) X.xe s
theorem thn {α : Type} {t : Sem α} {Q Q' : α → Shared → Prop} {M : Model} {A : Around} {E : Value → Shared → Prop} {s : Shared} (h : wpAny M A t Q E s) (hQ : ∀ a s, Q a s → Q' a s) : wpAny M A t Q' E s := wpAny_mono h hQ fun _ _ x => x
end L2
namespace L2
open PySem PySem.Spec PyProof.Rows
section
variable {X : Cx}
def tVar (i : Nat) : TE := fun σ H Q => ∃ v, σ[i]? = some (some v) ∧ Q v H
def tC (v : V) : TE := fun _ H Q => Q v H
theorem pe_var {i : Nat} {x : Str} {pos : Pos} (hN : X.N[i]? = some x) (hv : Vis X.env.scope x) (hd : (x == ("__debug__" : Str)) = false := by decide) (hcd : (x == ("__classdict__" : Str)) = false := by decide) : PE X (.Name x pos) (tVar i) := by
  intro pins s σ H Q I h
  obtain ⟨v, e, h⟩ := h
  obtain ⟨m, hn, hl⟩ := I.loc
  obtain ⟨u, r, l⟩ := hl i x v hN e hv
  have fin : EP X pins σ Q u s := ⟨v, H, I, r, h⟩
  rcases l with ⟨hk, hm⟩ | ⟨hk, c, hc, hcell⟩
  · exact wpAny_Name (wpAny_loadName_local I.ok.kind hk hn hm fin) hd
  · rcases hk with hk | hk
    · exact wpAny_Name (wpAny_loadName_cell I.ok.kind hk hc hcell fin) hd
    · exact wpAny_Name (wpAny_loadName_free I.ok.kind hk hc hcell fin hcd) hd
theorem pe_int {i j pos} : PE X (.Constant (.int i) j pos) (tC (.int i)) := fun _ _ _ H _ I h => wpAny_Constant_int ⟨.int i, H, I.tok _, ⟨_, rfl⟩, h⟩
theorem pe_bl {b j pos} : PE X (.Constant (.bool b) j pos) (tC (.bl b)) := fun _ _ _ H _ I h => Constant_bool ⟨.bl b, H, I, rfl, h⟩
theorem pe_non {j pos} : PE X (.Constant .none j pos) (tC .non) := fun _ _ _ H _ I h => Constant_none ⟨.non, H, I, rfl, h⟩
theorem pe_str {x j pos} : PE X (.Constant (.str x) j pos) (tC (.str x)) := fun _ _ _ H _ I h => Calls.Constant_str ⟨.str x, H, I.tok _, ⟨_, rfl⟩, h⟩
def Gl (X : Cx) (x : Str) : Prop := X.env.kindOf x = some .globalImplicit
theorem ld_glob {E : Value → Shared → Prop} {pins : List (Addr × Obj)} {s : Shared} {σ : St} {H : Hp} {x : Str} {u : Value} {pos : Pos} {Q : Value → Shared → Prop} (I : Inv X pins σ H s) (hg : Gl X x) (hm : X.mg x = some u) (h : Q u s)
    (hd : (x == ("__debug__" : Str)) = false := by decide) : wpAny (model X.prog X.w) X.A (eval (.Name x pos) X.env) Q E s :=
  Calls.Name_function_global I.ok.kind hg (Calls.loadGlobal_global (by rw [I.ok.glob]; exact I.mod.glob.keeps I.bk) hm h) hd
theorem ld_blt {E : Value → Shared → Prop} {pins : List (Addr × Obj)} {s : Shared} {σ : St} {H : Hp} {x : Str} {u : Value} {pos : Pos} {Q : Value → Shared → Prop} (I : Inv X pins σ H s) (hg : Gl X x) (hm : X.mg x = none) (hv : bootBuiltins x = some u) (h : Q u s)
    (hn : x ≠ "__name__" := by decide) (hd : (x == ("__debug__" : Str)) = false := by decide) : wpAny (model X.prog X.w) X.A (eval (.Name x pos) X.env) Q E s := by
  obtain ⟨mb, h1, h2⟩ := I.mod.blt
  exact Calls.Name_function_global I.ok.kind hg (Calls.loadGlobal_builtin (by rw [I.ok.glob]; exact I.mod.glob.keeps I.bk) hm (by rw [I.ok.blt]; exact h1.keeps I.bk) ((h2 x hn).trans hv) h) hd
theorem pe_glob {x : Str} {v : V} {u : Value} {pos : Pos} (hg : Gl X x) (hm : X.mg x = some u) (r : RelV v u) (hd : (x == ("__debug__" : Str)) = false := by decide) : PE X (.Name x pos) (tC v) :=
  fun _ _ _ H _ I h => ld_glob I hg hm ⟨v, H, I, r, h⟩ hd
theorem pe_bltn {x : Str} {v : V} {u : Value} {pos : Pos} (hg : Gl X x) (hm : X.mg x = none) (hv : bootBuiltins x = some u) (r : RelV v u) (hn : x ≠ "__name__" := by decide) (hd : (x == ("__debug__" : Str)) = false := by decide) : PE X (.Name x pos) (tC v) :=
  fun _ _ _ H _ I h => ld_blt I hg hm hv ⟨v, H, I, r, h⟩ hn hd
def t2I (ta tb : TE) (k : Int → Int → Hp → Prop) : St → Hp → Prop := fun σ H => ta σ H fun x H1 => tb σ H1 fun y H2 => ∃ i j, x = .int i ∧ y = .int j ∧ k i j H2
variable {a b : Expr} {ta tb : TE} {pos : Pos}
def tCmp (p : Int → Int → Bool) (ta tb : TE) : TE := fun σ H Q => t2I ta tb (fun i j H2 => Q (.bl (p i j)) H2) σ H
abbrev tLt : TE → TE → TE := tCmp fun i j => decide (i < j)
abbrev tLe : TE → TE → TE := tCmp fun i j => decide (i ≤ j)
abbrev tGt : TE → TE → TE := tCmp fun i j => decide (j < i)
abbrev tGe : TE → TE → TE := tCmp fun i j => decide (j ≤ i)
abbrev tEqI : TE → TE → TE := tCmp fun i j => decide (i = j)
abbrev tNeI : TE → TE → TE := tCmp fun i j => !decide (i = j)
variable {tA tB' : TT} {rest : List Expr}
def tAnd (t u : TT) : TT := fun σ H Q => t σ H fun c H1 => if c = true then u σ H1 Q else Q false H1
def tOr (t u : TT) : TT := fun σ H Q => t σ H fun c H1 => if c = true then Q true H1 else u σ H1 Q
def tNot (t : TT) : TT := fun σ H Q => t σ H fun c H1 => Q (!c) H1
theorem pw_and1 (ha : PT X a tA) : PW X (.BoolOp .And [a] pos) tA := by
  intro wh pins s σ H Q I h
  refine isTrue_and (thn (ha pins s σ H Q I h) fun c s1 e => ?_)
  cases c with
  | true => exact isTrue_and_nil e
  | false => exact e
theorem pw_or1 (ha : PT X a tA) : PW X (.BoolOp .Or [a] pos) tA := by
  intro wh pins s σ H Q I h
  refine isTrue_or (thn (ha pins s σ H Q I h) fun c s1 e => ?_)
  cases c with
  | false => exact isTrue_or_nil e
  | true => exact e
theorem pw_and (ha : PT X a tA) (hb : PW X (.BoolOp .And (b :: rest) pos) tB') : PW X (.BoolOp .And (a :: b :: rest) pos) (tAnd tA tB') := by
  intro wh pins s σ H Q I h
  refine isTrue_and (thn (ha pins s σ H _ I h) fun c s1 ⟨H1, I1, q1⟩ => ?_)
  cases c with
  | true => exact hb wh pins s1 σ H1 Q I1 q1
  | false => exact ⟨H1, I1, q1⟩
theorem pw_or (ha : PT X a tA) (hb : PW X (.BoolOp .Or (b :: rest) pos) tB') : PW X (.BoolOp .Or (a :: b :: rest) pos) (tOr tA tB') := by
  intro wh pins s σ H Q I h
  refine isTrue_or (thn (ha pins s σ H _ I h) fun c s1 ⟨H1, I1, q1⟩ => ?_)
  cases c with
  | true => exact ⟨H1, I1, q1⟩
  | false => exact hb wh pins s1 σ H1 Q I1 q1
theorem pt_not (ha : PT X a tA) : PT X (.UnaryOp .Not a pos) (tNot tA) := by
  intro pins s σ H Q I h
  exact isTrue_not (ha pins s σ H (fun c H1 => Q (!c) H1) I h)
def tAndV (ta tb : TE) : TE := fun σ H Q => ta σ H fun x H1 => ∃ c, x = .bl c ∧ if c = true then tb σ H1 Q else Q (.bl false) H1
def tOrV (ta tb : TE) : TE := fun σ H Q => ta σ H fun x H1 => ∃ c, x = .bl c ∧ if c = true then Q (.bl true) H1 else tb σ H1 Q
def tNotV (ta : TE) : TE := fun σ H Q => ta σ H fun x H1 => ∃ c, x = .bl c ∧ Q (.bl (!c)) H1
theorem pe_one {op} {t : TE} (h : PE X a t) : PE X (.BoolOp op [a] pos) t := fun pins s σ H Q I hw => BoolOp_one (h pins s σ H Q I hw)
theorem pe_and (ha : PE X a ta) (hb : PE X (.BoolOp .And (b :: rest) pos) tb) : PE X (.BoolOp .And (a :: b :: rest) pos) (tAndV ta tb) := by
  intro pins s σ H Q I h
  refine BoolOp_and (thn (ha pins s σ H _ I h) fun v s1 ⟨x, H1, I1, r1, q1⟩ => ?_)
  obtain ⟨c, rfl, q1⟩ := q1
  cases r1
  refine wpAny_truthy_bool ?_
  cases c with
  | true => exact hb pins s1 σ H1 Q I1 q1
  | false => exact ⟨.bl false, H1, I1, rfl, q1⟩
theorem pe_or (ha : PE X a ta) (hb : PE X (.BoolOp .Or (b :: rest) pos) tb) : PE X (.BoolOp .Or (a :: b :: rest) pos) (tOrV ta tb) := by
  intro pins s σ H Q I h
  refine BoolOp_or (thn (ha pins s σ H _ I h) fun v s1 ⟨x, H1, I1, r1, q1⟩ => ?_)
  obtain ⟨c, rfl, q1⟩ := q1
  cases r1
  refine wpAny_truthy_bool ?_
  cases c with
  | false => exact hb pins s1 σ H1 Q I1 q1
  | true => exact ⟨.bl true, H1, I1, rfl, q1⟩
theorem pe_not (ha : PE X a ta) : PE X (.UnaryOp .Not a pos) (tNotV ta) := by
  intro pins s σ H Q I h
  refine UnaryOp_ (thn (ha pins s σ H _ I h) fun v s1 ⟨x, H1, I1, r1, q1⟩ => ?_)
  obtain ⟨c, rfl, q1⟩ := q1
  cases r1
  exact not_of (wpAny_truthy_bool ⟨.bl (!c), H1, I1, rfl, q1⟩)
def tIf (t : TT) (ta tb : TE) : TE := fun σ H Q => t σ H fun c H1 => if c = true then ta σ H1 Q else tb σ H1 Q
theorem pe_ifExp {c : Expr} (hc : PT X c tA) (ha : PE X a ta) (hb : PE X b tb) : PE X (.IfExp c a b pos) (tIf tA ta tb) := by
  intro pins s σ H Q I h
  refine wpAny_IfExp (thn (hc pins s σ H _ I h) fun d s1 ⟨H1, I1, q1⟩ => ?_)
  cases d with
  | true => exact ha pins s1 σ H1 Q I1 q1
  | false => exact hb pins s1 σ H1 Q I1 q1
end
end L2
namespace L2
open PySem PySem.Spec PyProof.Rows
def SqL (K : PySem.W.Frag) (H : Hp) (a : Addr) (xs : List V) : Prop :=
  Rd H a (.lst xs) ∨
    ∃ (o : Obj) (its : Array Value) (n : Nat), K.lookup a = some o ∧ o.cls = .type "list" ∧ o.dict = none ∧ o.data = .seq its n ∧ its.size ≤ sizeLine ∧ Vals xs its.toList
def SqT (K : PySem.W.Frag) (H : Hp) (a : Addr) (xs : List V) : Prop :=
  Rd H a (.tup xs) ∨
    ∃ (o : Obj) (its : Array Value) (n : Nat), K.lookup a = some o ∧ o.cls = .type "tuple" ∧ o.data = .seq its n ∧ its.size ≤ sizeLine ∧ Vals xs its.toList
def absV : Value → Option V
  | .none => some .non
  | .bool b => some (.bl b)
  | .int i _ => some (.int i)
  | .str x _ => some (.str x)
  | .bytes b _ => some (.byt b)
  | .float b _ => some (.flt b)
  | .ref a => some (.ref a)
  | .type n => some (.ty n)
  | _ => none
theorem RelV.abs {x : V} {u : Value} (r : RelV x u) : absV u = some x := by
  cases x with
  | non => cases r; rfl
  | bl _ => cases r; rfl
  | int _ => obtain ⟨t, rfl⟩ := r; rfl
  | str _ => obtain ⟨t, rfl⟩ := r; rfl
  | byt _ => obtain ⟨t, rfl⟩ := r; rfl
  | flt _ => obtain ⟨t, rfl⟩ := r; rfl
  | ref _ => cases r; rfl
  | ty _ => cases r; rfl
theorem RelV.inj {x y : V} {u : Value} (r : RelV x u) (q : RelV y u) : x = y := Option.some.inj (r.abs.symm.trans q.abs)
theorem Vals.inj : ∀ {xs ys : List V} {us : List Value}, Vals xs us → Vals ys us → xs = ys
  | _, _, _, .nil, .nil => rfl
  | _, _, _, .cons r t, .cons r' t' => by rw [r.inj r', Vals.inj t t']
section
variable {X : Cx} {pins : List (Addr × Obj)} {σ : St} {H : Hp} {s : Shared} {a : Addr} {xs ys : List V}
theorem SqL.of {K : PySem.W.Frag} (h : H a = some (.lst xs)) : SqL K H a xs := .inl (.inl h)
theorem SqT.of {K : PySem.W.Frag} (h : H a = some (.tup xs)) : SqT K H a xs := .inl (.inl h)
theorem Inv.list (I : Inv X pins σ H s) (h : SqL X.K H a xs) : ∃ its : List Value, Vals xs its ∧ PlainL s.heap a its.toArray ∧ xs.length ≤ sizeLine := by
  rcases h with h | ⟨o, its, n, hk, hc, hd, hs, hz, r⟩
  · obtain ⟨z, its, n, r, e⟩ := h.ok I.hok
    exact ⟨its, r, ⟨_, n, e, rfl, rfl, rfl⟩, z⟩
  · refine ⟨its.toList, r, ⟨o, n, I.kIn a o hk, hc, hd, by simpa using hs⟩, ?_⟩
    have e := r.length
    simp only [Array.length_toList] at e
    omega
theorem Inv.tuple (I : Inv X pins σ H s) (h : SqT X.K H a xs) : ∃ its : List Value, Vals xs its ∧ IsTup s.heap a its.toArray ∧ xs.length ≤ sizeLine := by
  rcases h with h | ⟨o, its, n, hk, hc, hs, hz, r⟩
  · obtain ⟨z, its, r, p, _⟩ := h.ok I.hok
    exact ⟨its, r, p, z⟩
  · refine ⟨its.toList, r, ⟨o, I.kIn a o hk, hc, n, by simpa using hs⟩, ?_⟩
    have e := r.length
    simp only [Array.length_toList] at e
    omega
theorem Inv.list_inj (I : Inv X pins σ H s) (h : SqL X.K H a xs) (h' : SqL X.K H a ys) : xs = ys := by
  obtain ⟨its, r, ⟨o, n, e, _, _, d⟩, _⟩ := I.list h
  obtain ⟨its', r', ⟨o', n', e', _, _, d'⟩, _⟩ := I.list h'
  rw [e] at e'; cases e'
  rw [d] at d'
  injection d' with d1 _
  have : its = its' := by simpa using congrArg Array.toList d1
  subst this
  exact r.inj r'
theorem Inv.tuple_inj (I : Inv X pins σ H s) (h : SqT X.K H a xs) (h' : SqT X.K H a ys) : xs = ys := by
  obtain ⟨its, r, ⟨o, e, _, n, d⟩, _⟩ := I.tuple h
  obtain ⟨its', r', ⟨o', e', _, n', d'⟩, _⟩ := I.tuple h'
  rw [e] at e'; cases e'
  rw [d] at d'
  injection d' with d1 _
  have : its = its' := by simpa using congrArg Array.toList d1
  subst this
  exact r.inj r'
end
abbrev Cx.wish (X : Cx) (E : Value → Shared → Prop) : Cx := { X with xe := E }
abbrev Cx.nox (X : Cx) : Cx := X.wish fun _ _ => False
section
variable {X : Cx} {pins : List (Addr × Obj)} {σ : St} {H : Hp} {s : Shared} {E : Value → Shared → Prop}
end
section
variable {X : Cx} {st : Stmt} {rest : List Stmt} {t u : TS} {e : Expr} {te : TE} {pos : Pos}
def tNext : TS := fun D σ H => D.nx σ H
def tSeq (t u : TS) : TS := fun D σ H => t { D with nx := u D } σ H
theorem pss_nil : PSs X [] tNext := fun _ _ σ H _ I h => wpAny_execs_nil ⟨σ, H, I, h⟩
theorem pss_cons (h1 : PS X st t) (h2 : PSs X rest u) : PSs X (st :: rest) (tSeq t u) := by
  intro pins s σ H D I h
  refine wpAny_execs_cons (thn (h1 pins s σ H { D with nx := u D } I h) fun f s1 q => ?_)
  cases f with
  | next =>
    obtain ⟨σ', H', I', q⟩ := q
    exact h2 pins s1 σ' H' D I' q
  | ret v => exact q
  | brk => exact q
  | cont => exact q
theorem pss_one (h1 : PS X st t) : PSs X [st] t := by
  intro pins s σ H D I h
  refine wpAny_execs_cons (thn (h1 pins s σ H D I h) fun f s1 q => ?_)
  cases f with
  | next => exact wpAny_execs_nil q
  | ret v => exact q
  | brk => exact q
  | cont => exact q
theorem Inv.quiet {pins : List (Addr × Obj)} {σ : St} {H : Hp} {s : Shared} (I : Inv X pins σ H s) : interactive X.env = false := by simp [interactive, I.ok.kind]
def tDrop (te : TE) : TS := fun D σ H => te σ H fun _ H1 => D.nx σ H1
theorem ps_expr (he : PE X e te) (hs : swapsWith e none pos.line X.env = pure false := by rfl) : PS X (.Expr e pos) (tDrop te) := by
  intro pins s σ H D I h
  exact wpAny_Expr_any (thn (he pins s σ H _ I h) fun v s1 ⟨x, H1, I1, r1, q1⟩ => ⟨σ, H1, I1, q1⟩) I.quiet hs
def tRet (te : TE) : TS := fun D σ H => te σ H D.rt
theorem ps_ret (he : PE X e te) : PS X (.Return (some e) pos) (tRet te) := by
  intro pins s σ H D I h
  exact wpAny_Return_some (thn (he pins s σ H _ I h) fun v s1 ⟨x, H1, I1, r1, q1⟩ => ⟨x, σ, H1, I1, r1, q1⟩)
def tRetN : TS := fun D _ H => D.rt .non H
theorem ps_retN : PS X (.Return none pos) tRetN := fun _ _ σ H _ I h => wpAny_Return_none ⟨.non, σ, H, I, rfl, h⟩
def tIfS (c : TT) (t u : TS) : TS := fun D σ H => c σ H fun b H1 => if b = true then t D σ H1 else u D σ H1
theorem ps_if {c : Expr} {a b : List Stmt} {tc : TT} (hc : PT X c tc) (ha : PSs X a t) (hb : PSs X b u) : PS X (.If c a b pos) (tIfS tc t u) := by
  intro pins s σ H D I h
  refine wpAny_If (thn (hc pins s σ H _ I h) fun d s1 ⟨H1, I1, q1⟩ => ?_)
  cases d with
  | true => exact ha pins s1 σ H1 D I1 q1
  | false => exact hb pins s1 σ H1 D I1 q1
def tNever : TS := fun _ _ _ => False
theorem ps_never : PS X st tNever := fun _ _ _ _ _ _ h => h.elim
theorem pss_never {sts : List Stmt} : PSs X sts tNever := fun _ _ _ _ _ _ h => h.elim
end
abbrev TG := V → St → Hp → (St → Hp → Prop) → Prop
abbrev TGs := List V → St → Hp → (St → Hp → Prop) → Prop
def PG (X : Cx) (target : Expr) (t : TG) : Prop :=
  ∀ (pins : List (Addr × Obj)) (s : Shared) (σ : St) (H : Hp) (v : V) (u : Value) (Q : St → Hp → Prop), Inv X pins σ H s → RelV v u → t v σ H Q →
    wpAny (model X.prog X.w) X.A (assign target X.env u) (fun _ s' => ∃ σ' H', Inv X pins σ' H' s' ∧ Q σ' H') X.xe s
abbrev TSet := V → V → V → Hp → (Hp → Prop) → Prop
def PSet (X : Cx) (t : TSet) : Prop :=
  ∀ (pins : List (Addr × Obj)) (s : Shared) (σ : St) (H : Hp) (o i v : V) (ov iv u : Value) (Q : Hp → Prop), Inv X pins σ H s → RelV o ov → RelV i iv → RelV v u → t o i v H Q →
    wpAny (model X.prog X.w) X.A (setItem ov iv u) (fun _ s' => ∃ H', Inv X pins σ H' s' ∧ Q H') X.xe s
abbrev TIp := V → V → Hp → VK → Prop
section
variable {X : Cx} {pos : Pos}
def gName (i : Nat) : TG := fun v σ H Q => Q (σ.set i (some v)) H
theorem pg_name {i : Nat} {x : Str} (hN : X.N.Nodup) (hi : X.N[i]? = some x) (hx : Loc X.env.scope x) (hf : X.fn x = true ∨ X.env.scope.names.lookup x = some .local := by first | exact .inl rfl | exact .inr rfl | assumption) : PG X (.Name x pos) (gName i) := by
  intro pins s σ H v u Q I r h
  exact wpAny_assign_Name (store_ok I hN hi hx r (fun s' I' => ⟨_, H, I', h⟩) hf)
def gSub (to ti : TE) (t : TSet) : TG := fun v σ H Q => to σ H fun o H1 => ti σ H1 fun i H2 => t o i v H2 fun H3 => Q σ H3
theorem pg_sub {o i : Expr} {to ti : TE} {t : TSet} (ho : PE X o to) (hi : PE X i ti) (hs : PSet X t)
    (ha : ∀ v, assign (.Subscript o i pos) X.env v = (do
      let ov ← holding [v] (eval o X.env)
      let iv ← holding [v, ov] (eval i X.env)
      standAt pos
      holding [v, ov, iv] (setItem ov iv v)
      release [v, ov, iv] []) := by intro _; rfl) : PG X (.Subscript o i pos) (gSub to ti t) := by
  intro pins s σ H v u Q I r h
  rw [ha]
  refine wpAny_bind (wpAny_holding (thn (ho pins s σ H _ I h) fun ov s1 ⟨x, H1, I1, r1, q1⟩ => ?_))
  refine wpAny_bind (wpAny_holding (thn (hi pins s1 σ H1 _ I1 q1) fun iv s2 ⟨y, H2, I2, r2, q2⟩ => ?_))
  refine wpAny_bind (wpAny_standAt (wpAny_bind (wpAny_holding (thn (hs pins s2 σ H2 x y v ov iv u _ I2 r1 r2 r q2) fun _ s3 ⟨H3, I3, q3⟩ => ?_))))
  exact wpAny_release ⟨σ, H3, I3, q3⟩
def tAsg (te : TE) (g : TG) : TS := fun D σ H => te σ H fun x H1 => g x σ H1 D.nx
theorem ps_asg {tg e : Expr} {te : TE} {g : TG} (he : PE X e te) (hg : PG X tg g) (hs : swapsWithSole [tg] e pos.line X.env = pure false := by rfl) (hw : swappedStores [tg] e X.env = pure none := by rfl)
    (h1 : (assignEach [tg] X.env).map (·.2) = [assign tg X.env] := by rfl) : PS X (.Assign [tg] e pos) (tAsg te g) := by
  intro pins s σ H D I h
  refine wpAny_Assign_stores (thn (he pins s σ H _ I h) fun v s1 ⟨x, H1, I1, r1, q1⟩ => ?_) hs hw
  rw [h1]
  exact thn (hg pins s1 σ H1 x v _ I1 r1 q1) fun _ s2 q => q
theorem ps_set {i : Nat} {x : Str} {e : Expr} {te : TE} {pos' : Pos} (hN : X.N.Nodup) (hi : X.N[i]? = some x) (hx : Loc X.env.scope x) (he : PE X e te) (hs : swapsWith e (some (.Name x pos')) pos.line X.env = pure false := by rfl) (hf : X.fn x = true ∨ X.env.scope.names.lookup x = some .local := by first | exact .inl rfl | exact .inr rfl | assumption) :
    PS X (.Assign [.Name x pos'] e pos) (tAsg te (gName i)) := by
  intro pins s σ H D I h
  refine wpAny_Assign_Name (thn (he pins s σ H _ I h) fun v s1 ⟨y, H1, I1, r1, q1⟩ => ?_) hs
  exact store_ok I1 hN hi hx r1 (fun s2 I2 => ⟨_, H1, I2, q1⟩) hf
end
section
variable {X : Cx} {pos : Pos}
end
structure It where
  go : Nat → Hp → Prop
  yld : Nat → Hp → V → Hp → Prop
  stop : Nat → Hp → Prop
def FpOk (X : Cx) (pins : List (Addr × Obj)) (H : Hp) (b : Addr) : Prop :=
  H b = none ∧ b ≠ X.env.locals ∧ b ∉ X.fs ∧ (b ∈ X.ex ∨ X.s₀.heap.objs.size ≤ b) ∧ (∀ x c, X.env.cells.lookup x = some c → c ≠ b) ∧ ∀ p ∈ X.pn ++ pins, p.1 ≠ b
theorem Inv.fpOk {X : Cx} {pins : List (Addr × Obj)} {σ : St} {H H' : Hp} {s : Shared} {b : Addr} (I : Inv X pins σ H s) (hb : s.heap.objs.size ≤ b) (hn : H' b = none) : FpOk X pins H' b := by
  refine ⟨hn, Nat.ne_of_gt (Nat.lt_of_lt_of_le I.lt hb), I.nofs hb, .inr (Nat.le_trans I.sz hb), fun x c e z => ?_, fun p hp z => ?_⟩
  · obtain ⟨v, q⟩ := I.cell x c e
    exact absurd (Nat.lt_of_lt_of_le q.lt (by rw [z]; exact hb)) (Nat.lt_irrefl _)
  · exact absurd (Nat.lt_of_lt_of_le (Heap.lt_size (I.pin p hp).1) (by rw [z]; exact hb)) (Nat.lt_irrefl _)
structure Turn (P : Program) (w : World) (K : PySem.W.Frag) (tg : Expr) (J : It) (fp : List Addr) (it : Addr) (tn : Nat → Heap → Prop) : Prop where
  mem : it ∈ fp
  obj : ∀ i h, tn i h → ∀ b ∈ fp, ∃ o, h.get? b = some o ∧ ∀ v, o.data ≠ .cell v
  keep : ∀ i h h', tn i h → (∀ b ∈ fp, ∀ o, h.get? b = some o → h'.get? b = some o) → tn i h'
  item : ∀ (X : Cx), X.prog = P → X.w = w → X.K = K → X.calm = true → ∀ (i : Nat) (pins : List (Addr × Obj)) (s : Shared) (σ : St) (H : Hp) (E : Value → Shared → Prop), Inv X pins σ H s → (∀ b ∈ fp, FpOk X pins H b) → tn i s.heap → J.go i H →
    wpAny (model P w) X.A (pyNext (.ref it)) (fun r s1 => ∃ u, r = some u ∧
      wpAny (model P w) X.A (letOwnedTupleGo tg (.ref it) u) (fun _ s2 => ∃ x H', Inv X pins σ H' s2 ∧ RelV x u ∧ J.yld i H x H' ∧ tn (i + 1) s2.heap ∧ ∀ b ∈ fp, H' b = none) E s1) E s
  done : ∀ (X : Cx), X.prog = P → X.w = w → X.K = K → X.calm = true → ∀ (i : Nat) (pins : List (Addr × Obj)) (s : Shared) (σ : St) (H : Hp) (E : Value → Shared → Prop), Inv X pins σ H s → (∀ b ∈ fp, FpOk X pins H b) → tn i s.heap → J.stop i H →
    wpAny (model P w) X.A (pyNext (.ref it)) (fun r s1 => r = none ∧ Inv X pins σ H s1) E s
  self : ∀ (A : Around) (i : Nat) (s : Shared) (Q : Value → Shared → Prop) (E : Value → Shared → Prop), tn i s.heap → Q (.ref it) s → wpAny (model P w) A (pyIter (.ref it)) Q E s
abbrev TI := St → Hp → (It → Hp → Prop) → Prop
def PIE (X : Cx) (pins : List (Addr × Obj)) (σ : St) (tg : Expr) (R : It → Hp → Prop) (itv : Value) (s2 : Shared) : Prop :=
  ∃ (it : Addr) (fp : List Addr) (tn : Nat → Heap → Prop) (J : It) (H' : Hp), itv = .ref it ∧ Inv X pins σ H' s2 ∧ Turn X.prog X.w X.K tg J fp it tn ∧ tn 0 s2.heap ∧ (∀ b ∈ fp, FpOk X pins H' b) ∧ R J H'
def PI (X : Cx) (tg iter : Expr) (wi : TI) : Prop :=
  ∀ (pins : List (Addr × Obj)) (s : Shared) (σ : St) (H : Hp) (R : It → Hp → Prop), Inv X pins σ H s → wi σ H R →
    wpAny (model X.prog X.w) X.A (eval iter X.env) (fun v s1 => wpAny (model X.prog X.w) X.A (pyIter v) (PIE X pins σ tg R) X.xe s1) X.xe s
theorem go_of {M : Model} {A : Around} {E : Value → Shared → Prop} {s : Shared} {tg : Expr} {it : Addr} {u : Value} {o : Obj} {n : String} {vs : Array Value} {Q : Unit → Shared → Prop} (ho : s.heap.get? it = some o) (hc : o.cls = .type n) (hd : o.data = .fields vs)
    (hn : ["enumerate", "zip", "dict_itemiterator", "dict_reverseitemiterator", "odict_iterator", "itertools.zip_longest", "itertools.pairwise"].contains n = false) (hQ : Q () s) : wpAny M A (letOwnedTupleGo tg (.ref it) u) Q E s := by
  unfold letOwnedTupleGo
  cases tg <;> first
    | exact wpAny_pure hQ
    | (cases u <;> first
        | exact wpAny_pure hQ
        | (refine wpAny_bind (wpAny_load ho ?_)
           rw [hc, hd]
           show wpAny M A (if (["enumerate", "zip", "dict_itemiterator", "dict_reverseitemiterator", "odict_iterator", "itertools.zip_longest", "itertools.pairwise"].contains n && vs[0]? == some (rawInt _)) = true then _ else _) Q E s
           rw [if_neg (by intro h; rw [hn, Bool.false_and] at h; cases h)]
           exact wpAny_pure hQ))
def Itl (K : PySem.W.Frag) (a : Addr) : It :=
  ⟨fun i H => ∃ xs x, SqL K H a xs ∧ xs[i]? = some x, fun i H x H' => H' = H ∧ ∀ xs, SqL K H a xs → xs[i]? = some x, fun i H => ∃ xs, SqL K H a xs ∧ xs.length ≤ i⟩
def Itt (K : PySem.W.Frag) (a : Addr) : It :=
  ⟨fun i H => ∃ xs x, SqT K H a xs ∧ xs[i]? = some x, fun i H x H' => H' = H ∧ ∀ xs, SqT K H a xs → xs[i]? = some x, fun i H => ∃ xs, SqT K H a xs ∧ xs.length ≤ i⟩
def Itr (lo : Int) (n : Nat) : It := ⟨fun i _ => i < n, fun i H x H' => H' = H ∧ x = .int (lo + i), fun i _ => n ≤ i⟩
theorem turn_list {P : Program} {w : World} {K : PySem.W.Frag} {tg : Expr} (a it : Addr) : Turn P w K tg (Itl K a) [it] it (fun i h => h.IsListIter it a i) where
  mem := by simp
  obj := fun i h st b hb => by
    have e : b = it := by simpa using hb
    subst e
    obtain ⟨o, e, c, d⟩ := st
    exact ⟨o, e, fun v z => by rw [d] at z; cases z⟩
  keep := fun i h h' st k => st.at fun o e => k it (by simp) o e
  item := by
    intro X hP hw hK hc i pins s σ H E I hf st hg
    subst hP hw hK
    obtain ⟨xs, x, hq, hx⟩ := hg
    obtain ⟨its, rv, p, hz⟩ := I.list hq
    obtain ⟨u, hu, ru⟩ := rv.get hx
    obtain ⟨f0, f1, f2, f3, f4, f5⟩ := hf it (by simp)
    refine wpAny_pyNext_list_item st p.isList (x := u) (by simpa using hu) fun h' st' sb => ?_
    have I1 : Inv X pins σ H { s with heap := h' } := I.turned (t' := s.toks) (fun b o hb e => (sb.2 b hb).trans e) f0 f1 f3 f4 f5
    obtain ⟨o, e, c, d⟩ := id st'
    exact ⟨u, rfl, go_of (s := { s with heap := h' }) e c d (by decide) ⟨x, H, I1, ru, ⟨rfl, fun ys hy => by rw [I.list_inj hy hq]; exact hx⟩, st', fun b hb => (hf b hb).1⟩⟩
  done := by
    intro X hP hw hK hc i pins s σ H E I hf st hg
    subst hP hw hK
    obtain ⟨xs, hq, hx⟩ := hg
    obtain ⟨its, rv, p, hz⟩ := I.list hq
    obtain ⟨f0, f1, f2, f3, f4, f5⟩ := hf it (by simp)
    have hl := rv.length
    exact wpAny_pyNext_list_end (I.ok.hd hc) st p.isList (by simp; omega) fun h' eb => ⟨rfl, I.turned (t' := s.toks) (fun b o hb e => eb b o hb e) f0 f1 f3 f4 f5⟩
  self := fun _ _ _ _ _ st h => wpAny_pyIter_listiter st h
theorem turn_tuple {P : Program} {w : World} {K : PySem.W.Frag} {tg : Expr} (a it : Addr) : Turn P w K tg (Itt K a) [it] it (fun i h => h.IsTupleIter it a i) where
  mem := by simp
  obj := fun i h st b hb => by
    have e : b = it := by simpa using hb
    subst e
    obtain ⟨o, e, c, d⟩ := st
    exact ⟨o, e, fun v z => by rw [d] at z; cases z⟩
  keep := fun i h h' st k => st.at fun o e => k it (by simp) o e
  item := by
    intro X hP hw hK hc i pins s σ H E I hf st hg
    subst hP hw hK
    obtain ⟨xs, x, hq, hx⟩ := hg
    obtain ⟨its, rv, p, hz⟩ := I.tuple hq
    obtain ⟨u, hu, ru⟩ := rv.get hx
    obtain ⟨f0, f1, f2, f3, f4, f5⟩ := hf it (by simp)
    refine wpAny_pyNext_tuple_item st (show s.heap.IsTuple a its.toArray from p) (x := u) (by simpa using hu) fun h' st' sb => ?_
    have I1 : Inv X pins σ H { s with heap := h' } := I.turned (t' := s.toks) (fun b o hb e => (sb.2 b hb).trans e) f0 f1 f3 f4 f5
    obtain ⟨o, e, c, d⟩ := id st'
    exact ⟨u, rfl, go_of (s := { s with heap := h' }) e c d (by decide) ⟨x, H, I1, ru, ⟨rfl, fun ys hy => by rw [I.tuple_inj hy hq]; exact hx⟩, st', fun b hb => (hf b hb).1⟩⟩
  done := by
    intro X hP hw hK hc i pins s σ H E I hf st hg
    subst hP hw hK
    obtain ⟨xs, hq, hx⟩ := hg
    obtain ⟨its, rv, p, hz⟩ := I.tuple hq
    obtain ⟨f0, f1, f2, f3, f4, f5⟩ := hf it (by simp)
    have hl := rv.length
    exact wpAny_pyNext_tuple_end (I.ok.hd hc) st (show s.heap.IsTuple a its.toArray from p) (by simp; omega) fun h' eb => ⟨rfl, I.turned (t' := s.toks) (fun b o hb e => eb b o hb e) f0 f1 f3 f4 f5⟩
  self := fun _ _ _ _ _ st h => wpAny_pyIter_tupleiter st h
theorem turn_range {P : Program} {w : World} {K : PySem.W.Frag} {tg : Expr} (it : Addr) (lo : Int) (n : Nat) : Turn P w K tg (Itr lo n) [it] it (fun i h => IsRangeIter h it (lo + (i : Nat) * 1) ((n : Int) - (i : Nat)) 1) where
  mem := by simp
  obj := fun i h st b hb => by
    have e : b = it := by simpa using hb
    subst e
    exact ⟨_, st, fun v z => by
      have z' : Data.fields _ = Data.cell v := z
      cases z'⟩
  keep := fun i h h' st k => k it (by simp) _ st
  item := by
    intro X hP hw hK hc i pins s σ H E I hf st hg
    subst hP hw hK
    obtain ⟨f0, f1, f2, f3, f4, f5⟩ := hf it (by simp)
    have W := Walks.range (prog := X.prog) (w := X.w) (I.ok.hd hc) it lo 1 n
    refine W.item i s _ _ hg st fun v h' tk hv st' kk => ?_
    obtain ⟨t, rfl⟩ := hv
    have I1 : Inv X pins σ H { s with heap := h', toks := tk } := I.turned (fun b o hb e => kk b o (by simpa using hb) e) f0 f1 f3 f4 f5
    refine ⟨_, rfl, go_of (s := { s with heap := h', toks := tk }) (n := "range_iterator") st' rfl rfl (by decide) ⟨.int (lo + i), H, I1, ⟨t, ?_⟩, ⟨rfl, rfl⟩, st', fun b hb => (hf b hb).1⟩⟩
    rw [Int.mul_one]
  done := by
    intro X hP hw hK hc i pins s σ H E I hf st hg
    subst hP hw hK
    obtain ⟨f0, f1, f2, f3, f4, f5⟩ := hf it (by simp)
    exact wpAny_pyNext_range_end (I.ok.hd hc) st (by have : n ≤ i := hg; omega) fun h' eb => ⟨rfl, I.turned (t' := s.toks) (fun b o hb e => eb b o hb e) f0 f1 f3 f4 f5⟩
  self := fun _ _ _ _ _ st h => wpAny_pyIter_rangeiter st h
end L2
namespace L2
open PySem PySem.Spec PyProof.Rows
section
variable {X : Cx} {tg : Expr}
theorem range_it {pins : List (Addr × Obj)} {σ : St} {H : Hp} {s : Shared} {R : It → Hp → Prop} {E : Value → Shared → Prop} {lo hi : Int} {t u v : Tok} {tk : Nat} (I : Inv X pins σ H s) (h1 : -(2 ^ 62) ≤ lo) (h2 : lo < 2 ^ 62) (h3 : -(2 ^ 62) ≤ hi) (h4 : hi < 2 ^ 62)
    (q : R (Itr lo (hi - lo).toNat) H) : wpAny (model X.prog X.w) X.A (pyIter (.ref s.heap.objs.size)) (PIE X pins σ tg R) E { s with heap := s.heap.push { cls := .type "range", data := .fields #[.int lo t, .int hi u, .int 1 v] }, toks := tk } := by
  refine wpAny_pyIter_range (IsRange.new ..) (small_one h1 h2 h3 h4) ?_
  have I1 : Inv X pins σ H { s with heap := s.heap.push { cls := .type "range", data := .fields #[.int lo t, .int hi u, .int 1 v] }, toks := tk } := I.kept fun b o e => Heap.get?_push_of_some _ e
  refine ⟨(s.heap.push { cls := .type "range", data := .fields #[.int lo t, .int hi u, .int 1 v] }).objs.size, [(s.heap.push { cls := .type "range", data := .fields #[.int lo t, .int hi u, .int 1 v] }).objs.size], _, _, H, rfl,
    I1.kept (t' := tk) fun b o e => Heap.get?_push_of_some _ e, turn_range _ lo (hi - lo).toNat, ?_, fun b hb => ?_, q⟩
  · have e1 : lo + ((0 : Nat) : Int) * 1 = lo := by simp
    have e2 : (((hi - lo).toNat : Nat) : Int) - ((0 : Nat) : Int) = Builtin.Range.rangeSize lo hi 1 := by rw [rangeSize_one]; split <;> omega
    show IsRangeIter _ _ (lo + ((0 : Nat) : Int) * 1) ((((hi - lo).toNat : Nat) : Int) - ((0 : Nat) : Int)) 1
    rw [e1, e2]
    exact Heap.get?_push_size _ rfl
  · have e : b = (s.heap.push { cls := .type "range", data := .fields #[.int lo t, .int hi u, .int 1 v] }).objs.size := by simpa using hb
    subst e
    exact I1.fpOk (Nat.le_refl _) (I1.hok.fresh (Nat.le_refl _))
def iRng1 (ta : TA) : TI := fun σ H R => ta σ H fun vs H1 => ∃ j : Int, vs = [.int j] ∧ -(2 ^ 62) ≤ j ∧ j < 2 ^ 62 ∧ R (Itr 0 j.toNat) H1
theorem pi_range1 {a : Expr} {ta : TA} {p pos : Pos} (hg : Gl X "range") (hm : X.mg "range" = none) (ha : PA X [a] ta) (hs : starEach [a] X.env = [(false, eval a X.env)] := by rfl) : PI X tg (.Call (.Name "range" p) [a] [] pos) (iRng1 ta) := by
  intro pins s σ H R I h
  refine Call_ (ld_blt I hg hm boot_range (PyProof.Rows.callWith_type1 (thn (ha pos pins s σ H _ I h) fun us s1 ⟨vs, H1, I1, r1, q1⟩ => ?_) hs rfl))
  obtain ⟨j, e, q1, q2, q⟩ := q1
  subst e
  cases r1 with
  | cons r rr =>
    cases rr
    obtain ⟨t, rfl⟩ := r
    exact call_range_1 (range_it I1 (by omega) (by omega) q1 q2 (by simpa using q))
def tFor (wi : TI) (g : TG) (tb : TS) : TS := fun D σ H => wi σ H fun J H1 => ∃ W : Nat → Nat → St → Hp → Prop, (∃ m, W 0 m σ H1) ∧ ∀ i m σ H, W i m σ H →
  (J.stop i H ∧ D.nx σ H) ∨ (J.go i H ∧ ∃ N : St → Hp → Prop, (∀ σ' H', N σ' H' → ∃ m', m' < m ∧ W (i + 1) m' σ' H') ∧ ∀ x H', J.yld i H x H' → g x σ H' fun σ2 H2 => tb { D with nx := N, ct := N, bk := D.nx } σ2 H2)
def pinsAt (fp : List Addr) (h : Heap) : List (Addr × Obj) := fp.filterMap fun b => (h.get? b).map fun o => (b, o)
theorem mem_pinsAt {fp : List Addr} {h : Heap} {b : Addr} {o : Obj} (hb : b ∈ fp) (e : h.get? b = some o) : (b, o) ∈ pinsAt fp h := List.mem_filterMap.mpr ⟨b, hb, by rw [e]; rfl⟩
theorem of_pinsAt {fp : List Addr} {h : Heap} {p : Addr × Obj} (hp : p ∈ pinsAt fp h) : p.1 ∈ fp ∧ h.get? p.1 = some p.2 := by
  obtain ⟨b, hb, e⟩ := List.mem_filterMap.mp hp
  cases q : h.get? b with
  | none => rw [q] at e; cases e
  | some o =>
    rw [q] at e
    have e' : (b, o) = p := Option.some.inj e
    subst e'
    exact ⟨hb, q⟩
theorem Inv.pinned {pins : List (Addr × Obj)} {σ : St} {H : Hp} {s : Shared} {fp : List Addr} (I : Inv X pins σ H s) (hf : ∀ b ∈ fp, FpOk X pins H b) (ho : ∀ b ∈ fp, ∃ o, s.heap.get? b = some o ∧ ∀ v, o.data ≠ .cell v) : Inv X (pins ++ pinsAt fp s.heap) σ H s :=
  I.pins_of fun p hp => (List.mem_append.mp hp).elim (fun z => I.pin p (List.mem_append_right _ z)) fun z => by
    obtain ⟨hb, e⟩ := of_pinsAt z
    obtain ⟨f0, f1, f2, _⟩ := hf p.1 hb
    obtain ⟨o, e', d⟩ := ho p.1 hb
    rw [e] at e'; cases e'
    exact ⟨e, f0, f1, f2, d⟩
theorem Inv.unpinned {pins pl : List (Addr × Obj)} {σ : St} {H : Hp} {s : Shared} (I : Inv X (pins ++ pl) σ H s) : Inv X pins σ H s := I.pins_of fun p hp => I.pin p (List.mem_append_right _ (List.mem_append_left _ hp))
theorem ps_for {iter : Expr} {body : List Stmt} {wi : TI} {g : TG} {tb : TS} {pos : Pos} (hp : PassesOwn (model X.prog X.w) X.A X.env X.xe) (hc : X.calm = true) (hi : PI X tg iter wi) (hg : PG X tg g) (hb : PSs X body tb)
    (hs : ∀ x, foldedSetIterable iter X.env x = pure x := by intro _; rfl) : PS X (.For tg iter body [] pos) (tFor wi g tb) := by
  intro pins s σ H D I h
  refine wpAny_For (thn (hi pins s σ H _ I h) fun v s1 h1 => thn h1 fun itv s2 h2 => ?_) hs
  obtain ⟨it, fp, tn, J, H2, e, I2, T, st2, f2, W, ⟨m0, w0⟩, turn⟩ := h2
  subst e
  -- what stays true of the iterator's objects through the loop
  have stat : ∀ {H' : Hp}, (∀ b ∈ fp, H' b = none) → ∀ b ∈ fp, FpOk X pins H' b := fun hn b hb => ⟨hn b hb, (f2 b hb).2⟩
  refine codeAny_forLoop_any (fun n s' => ∃ i σ' H', Inv X pins σ' H' s' ∧ tn i s'.heap ∧ (∀ b ∈ fp, H' b = none) ∧ W i n σ' H') ?_ m0 ⟨0, σ, H2, I2, st2, fun b hb => (f2 b hb).1, w0⟩
  rintro n s3 ⟨i, σ3, H3, I3, st3, fr3, w3⟩
  rcases turn i n σ3 H3 w3 with ⟨stop, qn⟩ | ⟨go, N, hN, step⟩
  · refine wpAny_passesOwn hp (thn (T.done X rfl rfl rfl hc i pins s3 σ3 H3 X.xe I3 (stat fr3) st3 stop) fun r s4 ⟨hr, I4⟩ => ?_)
    subst hr
    exact wpAny_execs_nil ⟨σ3, H3, I4, qn⟩
  · refine wpAny_passesOwn hp (thn (T.item X rfl rfl rfl hc i pins s3 σ3 H3 X.xe I3 (stat fr3) st3 go) fun r s4 ⟨u, hr, h4⟩ => ?_)
    subst hr
    refine wpAny_passesOwn hp (thn h4 fun _ s5 ⟨x, H5, I5, r5, y5, st5, fr5⟩ => ?_)
    have I5' := I5.pinned (stat fr5) (T.obj _ _ st5)
    refine wpAny_passesOwn hp (thn (hg _ s5 σ3 H5 x u _ I5' r5 (step x H5 y5)) fun _ s6 ⟨σ6, H6, I6, q6⟩ => ?_)
    refine wpAny_passesOwn hp (thn (hb _ s6 σ6 H6 _ I6 q6) fun f s7 q7 => ?_)
    have again : ∀ {σ7 : St} {H7 : Hp}, Inv X (pins ++ pinsAt fp s5.heap) σ7 H7 s7 → N σ7 H7 → ∃ m, m < n ∧ ∃ i σ' H', Inv X pins σ' H' s7 ∧ tn i s7.heap ∧ (∀ b ∈ fp, H' b = none) ∧ W i m σ' H' := fun {σ7 H7} I7 n7 => by
      obtain ⟨m', hm, w7⟩ := hN σ7 H7 n7
      refine ⟨m', hm, i + 1, σ7, H7, I7.unpinned, T.keep _ _ _ st5 fun b hb o e => (I7.pin (b, o) (List.mem_append_right _ (List.mem_append_right _ (mem_pinsAt hb e)))).1, fun b hb => ?_, w7⟩
      obtain ⟨o, e, d⟩ := T.obj _ _ st5 b hb
      exact (I7.pin (b, o) (List.mem_append_right _ (List.mem_append_right _ (mem_pinsAt hb e)))).2.1
    cases f with
    | next => obtain ⟨σ7, H7, I7, n7⟩ := q7; exact again I7 n7
    | cont => obtain ⟨σ7, H7, I7, n7⟩ := q7; exact again I7 n7
    | brk => obtain ⟨σ7, H7, I7, q7⟩ := q7; exact ⟨σ7, H7, I7.unpinned, q7⟩
    | ret v => obtain ⟨x7, σ7, H7, I7, r7, q7⟩ := q7; exact ⟨x7, σ7, H7, I7.unpinned, r7, q7⟩
end
end L2
namespace L2
open PySem PySem.Spec PyProof.Rows
abbrev R2 := V → V → Hp → VK → Prop
def OpR (X : Cx) (f : Value → Value → Sem Value) (r : R2) : Prop :=
  ∀ (pins : List (Addr × Obj)) (s : Shared) (σ : St) (H : Hp) (x y : V) (v u : Value) (Q : VK), Inv X pins σ H s → RelV x v → RelV y u → r x y H Q →
    wpAny (model X.prog X.w) X.A (f v u) (EP X pins σ Q) X.xe s
def UnR (X : Cx) (f : Value → Sem Value) (r : V → Hp → VK → Prop) : Prop :=
  ∀ (pins : List (Addr × Obj)) (s : Shared) (σ : St) (H : Hp) (x : V) (v : Value) (Q : VK), Inv X pins σ H s → RelV x v → r x H Q →
    wpAny (model X.prog X.w) X.A (f v) (EP X pins σ Q) X.xe s
def CallR (X : Cx) (f : Value) (r : List V → Hp → VK → Prop) : Prop :=
  ∀ (pins : List (Addr × Obj)) (s : Shared) (σ : St) (H : Hp) (xs : List V) (us : List Value) (Q : VK), Inv X pins σ H s → Vals xs us → r xs H Q →
    wpAny (model X.prog X.w) X.A (call f us) (EP X pins σ Q) X.xe s
def TruR (X : Cx) (r : V → Hp → (Bool → Hp → Prop) → Prop) : Prop :=
  ∀ (pins : List (Addr × Obj)) (s : Shared) (σ : St) (H : Hp) (x : V) (v : Value) (Q : Bool → Hp → Prop), Inv X pins σ H s → RelV x v → r x H Q →
    wpAny (model X.prog X.w) X.A (truthy v) (TP X pins σ Q) X.xe s
def tOp (r : R2) (ta tb : TE) : TE := fun σ H Q => ta σ H fun x H1 => tb σ H1 fun y H2 => r x y H2 Q
def tUn (r : V → Hp → VK → Prop) (ta : TE) : TE := fun σ H Q => ta σ H fun x H1 => r x H1 Q
def rI (C : Int → Int → Prop) (g : Int → Int → V) : R2 := fun x y H Q => ∃ i j, x = .int i ∧ y = .int j ∧ C i j ∧ Q (g i j) H
def rI0 (g : Int → Int → V) : R2 := fun x y H Q => ∃ i j, x = .int i ∧ y = .int j ∧ Q (g i j) H
def rU (g : Int → V) : V → Hp → VK → Prop := fun x H Q => ∃ i, x = .int i ∧ Q (g i) H
section
variable {X : Cx} {a b c : Expr} {ta tb tc : TE} {pos : Pos}
theorem binT (ha : PE X a ta) (hb : PE X b tb) {pins : List (Addr × Obj)} {s : Shared} {σ : St} {H : Hp} {R : V → V → Hp → Prop} (I : Inv X pins σ H s)
    (h : ta σ H fun x H1 => tb σ H1 fun y H2 => R x y H2) {Q : Value → Shared → Prop} {f : Value → Value → Sem Value}
    (hf : ∀ v u s2 x y H2, Inv X pins σ H2 s2 → RelV x v → RelV y u → R x y H2 → wpAny (model X.prog X.w) X.A (f v u) Q X.xe s2) :
    wpAny (model X.prog X.w) X.A (eval a X.env) (fun v s₁ => wpAny (model X.prog X.w) X.A (eval b X.env) (fun u s₂ => wpAny (model X.prog X.w) X.A (f v u) Q X.xe s₂) X.xe s₁) X.xe s := by
  refine thn (ha pins s σ H _ I h) fun v s1 ⟨x, H1, I1, r1, q1⟩ => ?_
  refine thn (hb pins s1 σ H1 _ I1 q1) fun u s2 ⟨y, H2, I2, r2, q2⟩ => ?_
  exact hf v u s2 x y H2 I2 r1 r2 q2
theorem pe_op {op : Operator} {r : R2} (ho : OpR X (binaryOp op) r) (ha : PE X a ta) (hb : PE X b tb) : PE X (.BinOp a op b pos) (tOp r ta tb) := by
  intro pins s σ H Q I h
  exact wpAny_BinOp (binT ha hb I h fun v u s2 x y H2 I2 rx ry q => ho pins s2 σ H2 x y v u Q I2 rx ry q)
theorem pe_un {op : UnaryOp} {r : V → Hp → VK → Prop} (ho : UnR X (unaryOp op) r) (ha : PE X a ta) : PE X (.UnaryOp op a pos) (tUn r ta) := by
  intro pins s σ H Q I h
  exact UnaryOp_ (thn (ha pins s σ H _ I h) fun v s1 ⟨x, H1, I1, r1, q1⟩ => ho pins s1 σ H1 x v Q I1 r1 q1)
theorem opI {f : Value → Value → Sem Value} {C : Int → Int → Prop} {g : Int → Int → Int}
    (rule : ∀ (i j : Int) (t u : Tok) (s : Shared) (Q : Value → Shared → Prop) (E : Value → Shared → Prop), C i j → Q (.int (g i j) s.toks) { s with toks := s.toks + 1 } → wpAny (model X.prog X.w) X.A (f (.int i t) (.int j u)) Q E s) :
    OpR X f (rI C fun i j => .int (g i j)) := by
  intro pins s σ H x y v u Q I rx ry h
  obtain ⟨i, j, rfl, rfl, hc, q⟩ := h
  obtain ⟨t, rfl⟩ := rx
  obtain ⟨t', rfl⟩ := ry
  exact rule i j t t' s _ _ hc ⟨.int (g i j), H, I.tok _, ⟨_, rfl⟩, q⟩
theorem opI0 {f : Value → Value → Sem Value} {g : Int → Int → Int}
    (rule : ∀ (i j : Int) (t u : Tok) (s : Shared) (Q : Value → Shared → Prop) (E : Value → Shared → Prop), Q (.int (g i j) s.toks) { s with toks := s.toks + 1 } → wpAny (model X.prog X.w) X.A (f (.int i t) (.int j u)) Q E s) :
    OpR X f (rI0 fun i j => .int (g i j)) := by
  intro pins s σ H x y v u Q I rx ry h
  obtain ⟨i, j, rfl, rfl, q⟩ := h
  obtain ⟨t, rfl⟩ := rx
  obtain ⟨t', rfl⟩ := ry
  exact rule i j t t' s _ _ ⟨.int (g i j), H, I.tok _, ⟨_, rfl⟩, q⟩
theorem opB0 {f : Value → Value → Sem Value} {g : Int → Int → Bool}
    (rule : ∀ (i j : Int) (t u : Tok) (s : Shared) (Q : Value → Shared → Prop) (E : Value → Shared → Prop), Q (.bool (g i j)) s → wpAny (model X.prog X.w) X.A (f (.int i t) (.int j u)) Q E s) :
    OpR X f (rI0 fun i j => .bl (g i j)) := by
  intro pins s σ H x y v u Q I rx ry h
  obtain ⟨i, j, rfl, rfl, q⟩ := h
  obtain ⟨t, rfl⟩ := rx
  obtain ⟨t', rfl⟩ := ry
  exact rule i j t t' s _ _ ⟨.bl (g i j), H, I, rfl, q⟩
def CPow (i j : Int) : Prop := 0 ≤ j ∧ j ≤ 1000000 ∧ i.natAbs < 2 ^ 64
theorem op_add : OpR X (binaryOp .Add) (rI0 fun i j => .int (i + j)) := opI0 fun _ _ _ _ _ _ _ q => add_int q
theorem op_sub : OpR X (binaryOp .Sub) (rI0 fun i j => .int (i - j)) := opI0 fun _ _ _ _ _ _ _ q => sub_int q
theorem op_pow : OpR X (binaryOp .Pow) (rI CPow fun i j => .int (i ^ j.toNat)) := opI fun _ _ _ _ _ _ _ hc q => pow_int_small hc.1 hc.2.1 hc.2.2 q
theorem unI {f : Value → Sem Value} {g : Int → Int}
    (rule : ∀ (i : Int) (t : Tok) (s : Shared) (Q : Value → Shared → Prop) (E : Value → Shared → Prop), Q (.int (g i) s.toks) { s with toks := s.toks + 1 } → wpAny (model X.prog X.w) X.A (f (.int i t)) Q E s) :
    UnR X f (rU fun i => .int (g i)) := by
  intro pins s σ H x v Q I rx h
  obtain ⟨i, rfl, q⟩ := h
  obtain ⟨t, rfl⟩ := rx
  exact rule i t s _ _ ⟨.int (g i), H, I.tok _, ⟨_, rfl⟩, q⟩
theorem un_neg : UnR X (unaryOp .USub) (rU fun i => .int (-i)) := unI fun _ _ _ _ _ q => neg_int q
end
section
variable {X : Cx} {a b c : Expr} {ta tb tc : TE} {pos : Pos}
theorem fin_bl {pins : List (Addr × Obj)} {σ : St} {H : Hp} {s : Shared} {Q : VK} {k k' : Bool} (I : Inv X pins σ H s) (q : Q (.bl k) H) (e : k = k') : EP X pins σ Q (.bool k') s := by
  subst e
  exact ⟨.bl k, H, I, rfl, q⟩
theorem op_lt : OpR X (compareOp .Lt) (rI0 fun i j => .bl (decide (i < j))) := opB0 fun _ _ _ _ _ _ _ q => lt_int q
theorem op_le : OpR X (compareOp .LtE) (rI0 fun i j => .bl (decide (i ≤ j))) := opB0 fun _ _ _ _ _ _ _ q => le_int q
theorem op_gt : OpR X (compareOp .Gt) (rI0 fun i j => .bl (decide (j < i))) := opB0 fun _ _ _ _ _ _ _ q => gt_int q
theorem op_ge : OpR X (compareOp .GtE) (rI0 fun i j => .bl (decide (j ≤ i))) := opB0 fun _ _ _ _ _ _ _ q => ge_int q
theorem op_lt_str : OpR X (compareOp .Lt) (fun x y H Q => ∃ i j, x = .str i ∧ y = .str j ∧ Q (.bl (decide (i.cps.toList < j.cps.toList))) H) := by
  intro pins s σ H x y v u Q I rx ry h
  obtain ⟨i, j, rfl, rfl, q⟩ := h
  obtain ⟨t, rfl⟩ := rx
  obtain ⟨t', rfl⟩ := ry
  exact lt_str (fin_bl I q rfl)
theorem op_in_str : OpR X (compareOp .In) (fun x y H Q => ∃ i j, x = .str i ∧ y = .str j ∧ Q (.bl (!(Builtin.Str.occurrences j i 0 j.length 1).isEmpty)) H) := by
  intro pins s σ H x y v u Q I rx ry h
  obtain ⟨i, j, rfl, rfl, q⟩ := h
  obtain ⟨t, rfl⟩ := rx
  obtain ⟨t', rfl⟩ := ry
  exact in_str (fin_bl I q rfl)
theorem op_isN : OpR X (compareOp .Is) (fun x y H Q => y = .non ∧ Q (.bl (decide (x = .non))) H) := by
  intro pins s σ H x y v u Q I rx ry h
  obtain ⟨rfl, q⟩ := h
  cases ry
  refine is_none_gen (fin_bl I q ?_)
  cases x <;> first
    | (cases rx; rfl)
    | (obtain ⟨t, rfl⟩ := rx; rfl)
theorem op_notN : OpR X (compareOp .IsNot) (fun x y H Q => y = .non ∧ Q (.bl (!decide (x = .non))) H) := by
  intro pins s σ H x y v u Q I rx ry h
  obtain ⟨rfl, q⟩ := h
  cases ry
  refine isnot_none_gen (fin_bl I q ?_)
  cases x <;> first
    | (cases rx; rfl)
    | (obtain ⟨t, rfl⟩ := rx; rfl)
theorem pe_cmpR {op : CmpOp} {r : R2} (ho : OpR X (compareOp op) r) (ha : PE X a ta) (hb : PE X b tb) (hm : behindInMarks op b = false) : PE X (.Compare a [op] [b] pos) (tOp r ta tb) := by
  intro pins s σ H Q I h
  exact wpAny_Compare1 (binT ha hb I h fun v u s2 x y H2 I2 rx ry q => ho pins s2 σ H2 x y v u Q I2 rx ry q) hm
def tTest (t : TE) : TT := fun σ H Q => t σ H fun x H' => ∃ k, x = .bl k ∧ Q k H'
theorem pt_cmpR {op : CmpOp} {r : R2} (ho : OpR X (compareOp op) r) (ha : PE X a ta) (hb : PE X b tb) (hm : behindInMarks op b = false) : PT X (.Compare a [op] [b] pos) (tTest (tOp r ta tb)) := by
  intro pins s σ H Q I h
  refine wpAny_isTrue_Compare1 (thn (ha pins s σ H _ I h) fun v s1 ⟨x, H1, I1, r1, q1⟩ => thn (hb pins s1 σ H1 _ I1 q1) fun u s2 ⟨y, H2, I2, r2, q2⟩ =>
    thn (ho pins s2 σ H2 x y v u _ I2 r1 r2 q2) fun c s3 ⟨z, H3, I3, r3, k, e, q3⟩ => ?_) hm
  subst e
  cases r3
  exact wpAny_truthy_bool ⟨H3, I3, q3⟩
def tChain (r r' : R2) (ta tb tc : TE) : TE := fun σ H Q => ta σ H fun x H1 => tb σ H1 fun y H2 => r x y H2 fun z H3 => ∃ k, z = .bl k ∧
  (if k = true then tc σ H3 fun w' H4 => r' y w' H4 Q else Q (.bl false) H3)
theorem pe_chain {op op' : CmpOp} {r r' : R2} (ho : OpR X (compareOp op) r) (ho' : OpR X (compareOp op') r') (ha : PE X a ta) (hb : PE X b tb) (hc : PE X c tc)
    (hm : lastMarks [op, op'] [b, c] = false := by with_unfolding_all rfl) : PE X (.Compare a [op, op'] [b, c] pos) (tChain r r' ta tb tc) := by
  intro pins s σ H Q I h
  refine Compare_chain (thn (ha pins s σ H _ I h) fun v s1 ⟨x, H1, I1, r1, q1⟩ => chain_link (thn (hb pins s1 σ H1 _ I1 q1) fun u s2 ⟨y, H2, I2, r2, q2⟩ =>
    thn (ho pins s2 σ H2 x y v u _ I2 r1 r2 q2) fun d s3 ⟨z, H3, I3, r3, k, e, q3⟩ => ?_)) hm
  subst e
  cases r3
  refine wpAny_truthy_bool ?_
  cases k with
  | false => exact ite_ff ⟨.bl false, H3, I3, rfl, q3⟩
  | true => exact ite_tt (chain_last (thn (hc pins s3 σ H3 _ I3 q3) fun w' s4 ⟨z', H4, I4, r4, q4⟩ => ho' pins s4 σ H4 y z' u w' Q I4 r2 r4 q4))
theorem pt_chain {op op' : CmpOp} {r r' : R2} (ho : OpR X (compareOp op) r) (ho' : OpR X (compareOp op') r') (ha : PE X a ta) (hb : PE X b tb) (hc : PE X c tc)
    (hm : lastMarks [op, op'] [b, c] = false := by with_unfolding_all rfl) : PT X (.Compare a [op, op'] [b, c] pos) (tTest (tChain r r' ta tb tc)) := by
  intro pins s σ H Q I h
  refine isTrue_chain (thn (ha pins s σ H _ I h) fun v s1 ⟨x, H1, I1, r1, q1⟩ => test_link (thn (hb pins s1 σ H1 _ I1 q1) fun u s2 ⟨y, H2, I2, r2, q2⟩ =>
    thn (ho pins s2 σ H2 x y v u _ I2 r1 r2 q2) fun d s3 ⟨z, H3, I3, r3, k, e, q3⟩ => ?_)) hm
  subst e
  cases r3
  refine wpAny_truthy_bool ?_
  cases k with
  | false =>
    obtain ⟨k', e', q'⟩ := q3
    cases e'
    exact ite_ff ⟨H3, I3, q'⟩
  | true =>
    refine ite_tt (test_last (thn (hc pins s3 σ H3 _ I3 q3) fun w' s4 ⟨z', H4, I4, r4, q4⟩ => thn (ho' pins s4 σ H4 y z' u w' _ I4 r2 r4 q4) fun d' s5 ⟨z2, H5, I5, r5, k2, e2, q5⟩ => ?_))
    subst e2
    cases r5
    exact wpAny_truthy_bool ⟨H5, I5, q5⟩
def TruV (K : PySem.W.Frag) (x : V) (H : Hp) (k : Bool) : Prop :=
  match x with
  | .non => k = false
  | .bl b => k = b
  | .int i => k = (i != 0)
  | .str y => y.length ≤ sizeLine ∧ k = ((y.length : Int) != 0)
  | .byt y => y.size ≤ sizeLine ∧ k = ((y.size : Int) != 0)
  | .ref p => (∃ xs, SqL K H p xs ∧ k = !xs.isEmpty) ∨ (∃ xs, SqT K H p xs ∧ k = !xs.isEmpty) ∨ ∃ kvs, H p = some (.dK kvs) ∧ k = !kvs.isEmpty
  | _ => False
theorem isEmpty_kv {κ : Type} {kvs : List (κ × V)} {vs : List (κ × Value)} (r : KV kvs vs) : (!vs.isEmpty) = !kvs.isEmpty := by
  cases r <;> rfl
theorem isEmpty_of {xs : List V} {its : List Value} (r : Vals xs its) : (!its.toArray.isEmpty) = !xs.isEmpty := by
  cases r <;> simp
theorem line63 : (sizeLine : Nat) < 2 ^ 63 := by rw [sizeLine_eq]; decide
theorem tru_ok : TruR X (fun x H Q => ∃ k, TruV X.K x H k ∧ Q k H) := by
  intro pins s σ H x v Q I rx h
  obtain ⟨k, e, q⟩ := h
  have hl := line63
  have hs : sizeLine = 16777216 := sizeLine_eq
  cases x with
  | non =>
    cases rx
    have e' : k = false := e
    subst e'
    exact truthy_none ⟨H, I, q⟩
  | bl b =>
    cases rx
    have e' : k = b := e
    subst e'
    exact wpAny_truthy_bool ⟨H, I, q⟩
  | int i =>
    obtain ⟨t, rfl⟩ := rx
    have e' : k = (i != 0) := e
    subst e'
    exact PySem.P.truthy_int ⟨H, I, q⟩
  | str y =>
    obtain ⟨t, rfl⟩ := rx
    obtain ⟨hy, e'⟩ : y.length ≤ sizeLine ∧ k = ((y.length : Int) != 0) := e
    subst e'
    exact PySem.P.truthy_str (by omega) ⟨H, I.tok _, q⟩
  | byt y =>
    obtain ⟨t, rfl⟩ := rx
    obtain ⟨hy, e'⟩ : y.size ≤ sizeLine ∧ k = ((y.size : Int) != 0) := e
    subst e'
    exact PySem.W.truthy_bytes (by omega) ⟨H, I.tok _, q⟩
  | ref p =>
    cases rx
    have e' : (∃ xs, SqL X.K H p xs ∧ k = !xs.isEmpty) ∨ (∃ xs, SqT X.K H p xs ∧ k = !xs.isEmpty) ∨ ∃ kvs, H p = some (.dK kvs) ∧ k = !kvs.isEmpty := e
    rcases e' with ⟨xs, hx, e'⟩ | ⟨xs, hx, e'⟩ | ⟨kvs, hx, e'⟩
    · subst e'
      obtain ⟨its, r, pl, hz⟩ := I.list hx
      have hlen := r.length
      exact wpAny_truthy_list pl.isList (by simp only [List.size_toArray]; omega) ⟨H, I.tok _, by rw [isEmpty_of r]; exact q⟩
    · subst e'
      obtain ⟨its, r, pl, hz⟩ := I.tuple hx
      have hlen := r.length
      exact truthy_tuple pl (by simp only [List.size_toArray]; omega) ⟨H, I.tok _, by rw [isEmpty_of r]; exact q⟩
    · subst e'
      obtain ⟨hz, hS, vs, r, m⟩ : kvs.length ≤ sizeLine ∧ (p == sysModules) = false ∧ ∃ vs, KV kvs vs ∧ s.heap.DictOf (mixKind X.prog X.w) p vs := I.hok p _ hx
      have hlen : kvs.length = vs.length := Paired.length r
      exact wpAny_truthy_dict hS m (by omega) ⟨H, I.tok _, by rw [isEmpty_kv r]; exact q⟩
  | _ => exact (show False from e).elim
theorem pt_truth (ha : PE X a ta) (he : ∀ whole, isTrue a X.env whole = (do let v ← whole; standAt a.pos; holding [v] (truthy v))) :
    PT X a (fun σ H Q => ta σ H fun x H' => ∃ k, TruV X.K x H' k ∧ Q k H') := by
  intro pins s σ H Q I h
  exact isTrue_plain (thn (ha pins s σ H _ I h) fun v s1 ⟨x, H1, I1, r1, q1⟩ => tru_ok pins s1 σ H1 x v Q I1 r1 q1) (he _)
theorem op_add_str : OpR X (binaryOp .Add) (fun x y H Q => ∃ i j, x = .str i ∧ y = .str j ∧ i.length + j.length ≤ sizeLine ∧ Q (.str (i ++ j)) H) := by
  intro pins s σ H x y v u Q I rx ry h
  obtain ⟨i, j, rfl, rfl, hz, q⟩ := h
  obtain ⟨t, rfl⟩ := rx
  obtain ⟨t', rfl⟩ := ry
  exact add_str (fun t' tk => ⟨.str (i ++ j), H, I.tok _, ⟨_, rfl⟩, q⟩) hz
theorem vals1 {x : V} {us : List Value} (r : Vals [x] us) : ∃ u, us = [u] ∧ RelV x u := by
  cases r with
  | cons r1 r2 => cases r2; exact ⟨_, rfl, r1⟩
theorem vals2 {x y : V} {us : List Value} (r : Vals [x, y] us) : ∃ u w', us = [u, w'] ∧ RelV x u ∧ RelV y w' := by
  cases r with
  | cons r1 r2 =>
    cases r2 with
    | cons r3 r4 => cases r4; exact ⟨_, _, rfl, r1, r3⟩
theorem call_abs : CallR X (.builtin "abs") (fun xs H Q => ∃ i, xs = [.int i] ∧ Q (.int (if i < 0 then -i else i)) H) := by
  intro pins s σ H xs us Q I r h
  obtain ⟨i, rfl, q⟩ := h
  obtain ⟨u, rfl, t, rfl⟩ := vals1 r
  exact call_abs_int fun u tk => ⟨.int (if i < 0 then -i else i), H, I.tok _, ⟨_, rfl⟩, q⟩
theorem call_max2 (hc : X.calm = true) : CallR X (.builtin "max") (fun xs H Q => ∃ i j, xs = [.int i, .int j] ∧ Q (.int (if j > i then j else i)) H) := by
  intro pins s σ H xs us Q I r h
  obtain ⟨i, j, rfl, q⟩ := h
  obtain ⟨u, w', rfl, ⟨t, rfl⟩, ⟨t', rfl⟩⟩ := vals2 r
  refine max_two_ints (I.ok.hd hc) fun h' tk k => ⟨_, H, I.kept k, ?_, q⟩
  by_cases hj : j > i
  · rw [if_pos hj, if_pos hj]; exact ⟨_, rfl⟩
  · rw [if_neg hj, if_neg hj]; exact ⟨_, rfl⟩
theorem call_min2 (hc : X.calm = true) : CallR X (.builtin "min") (fun xs H Q => ∃ i j, xs = [.int i, .int j] ∧ Q (.int (if j < i then j else i)) H) := by
  intro pins s σ H xs us Q I r h
  obtain ⟨i, j, rfl, q⟩ := h
  obtain ⟨u, w', rfl, ⟨t, rfl⟩, ⟨t', rfl⟩⟩ := vals2 r
  refine min_two_ints (I.ok.hd hc) fun h' tk k => ⟨_, H, I.kept k, ?_, q⟩
  by_cases hj : j < i
  · rw [if_pos hj, if_pos hj]; exact ⟨_, rfl⟩
  · rw [if_neg hj, if_neg hj]; exact ⟨_, rfl⟩
theorem call_int1 : CallR X (.type "int") (fun xs H Q => (∃ i, xs = [.int i] ∧ Q (.int i) H) ∨ ∃ k, xs = [.bl k] ∧ Q (.int (if k then 1 else 0)) H) := by
  intro pins s σ H xs us Q I r h
  rcases h with ⟨i, rfl, q⟩ | ⟨k, rfl, q⟩
  · obtain ⟨u, rfl, t, rfl⟩ := vals1 r
    exact call_int_int ⟨.int i, H, I, ⟨_, rfl⟩, q⟩
  · obtain ⟨u, rfl, r1⟩ := vals1 r
    cases r1
    exact call_int_bool ⟨.int (if k then 1 else 0), H, I.tok _, ⟨_, rfl⟩, q⟩
end
end L2
namespace L2
open PySem PySem.Spec PyProof.Rows
structure ObjM (h : Heap) (x dx C : Addr) (mA : Str → Option Value) : Prop where
  obj : h.get? x = some (PySem.W.instObj C dx)
  ns : h.Ns1 dx mA
  ne : dx ≠ x
section
variable {prog : Program} {w : World} {A : Around} {E : Value → Shared → Prop} {s : Shared} {K : PySem.W.Frag} {x dx C f : Addr} {mA : Str → Option Value} {name : Str} {v : Value}
end
section
variable {P : Program} {w : World} {H H' : Hp} {h h' : Heap} {a C dx : Addr} {fs fs' : List (Str × V)}
end
structure Cls (K : PySem.W.Frag) (C : Addr) : Prop where
  pg : PySem.W.plainGet K C Str.empty = true
  hd : PySem.W.hasDictIn K C = true
  po : PySem.W.plainOver K C = true
  sa : PySem.W.findIn K (.ref C) "__setattr__" = some (some (.builtin "object.__setattr__"))
structure Con (K : PySem.W.Frag) (C : Addr) (f : Str) (v : V) (u : Value) : Prop where
  at_ : PySem.W.findIn K (.ref C) f = some (some u)
  rel : RelV v u
  get : PySem.W.specialIn K u "__get__" = some none
  cp : PySem.W.copiedNames.contains f = false
structure Meth (K : PySem.W.Frag) (C : Addr) (m : Str) (f : Addr) : Prop where
  at_ : PySem.W.findIn K (.ref C) m = some (some (.ref f))
  fn : PySem.W.isFn K (.ref f) = true
  kp : PySem.W.keepIn K (.ref f) = true
section
variable {X : Cx} {pins : List (Addr × Obj)} {σ : St} {H : Hp} {s : Shared} {a C dx : Addr} {fs : List (Str × V)} {f : Str} {v : V} {A : Around} {E : Value → Shared → Prop}
end
section
variable {X : Cx} {o e value : Expr} {f : Str} {pos pos' tpos : Pos} {ta tv : TE}
end
section
variable {X : Cx} {pins : List (Addr × Obj)} {σ : St} {H : Hp} {s : Shared} {A : Around} {E : Value → Shared → Prop} {Q : Value → Shared → Prop} {c : Value} {b : Bool}
inductive TyOf (K : PySem.W.Frag) (H : Hp) : V → Value → Prop where
  | non : TyOf K H .non (.type "NoneType")
  | bl (x : Bool) : TyOf K H (.bl x) (.type "bool")
  | int (i : Int) : TyOf K H (.int i) (.type "int")
  | str (x : Str) : TyOf K H (.str x) (.type "str")
  | flt (x : UInt64) : TyOf K H (.flt x) (.type "float")
  | lst {a : Addr} {xs : List V} (e : H a = some (.lst xs)) : TyOf K H (.ref a) (.type "list")
  | frz {a : Addr} {o : Obj} {xs : List V} (e : H a = some (.frz o (.lst xs))) : TyOf K H (.ref a) (.type "list")
  | tup {a : Addr} {xs : List V} (e : H a = some (.tup xs)) : TyOf K H (.ref a) (.type "tuple")
  | dK {a : Addr} {kvs : List (Key × V)} (e : H a = some (.dK kvs)) : TyOf K H (.ref a) (.type "dict")
  | dT {a : Addr} {kvs : List (List Key × V)} (e : H a = some (.dT kvs)) : TyOf K H (.ref a) (.type "dict")
  | ins {a C dx : Addr} {fs : List (Str × V)} (e : H a = some (.ins C dx fs)) (cl : Cls K C) (ha : PySem.W.findIn K (.ref C) "__class__" = some (some (.builtin "object.__class__")))
      (hn : PySem.W.specialIn K (.builtin "object.__class__") "__get__" = some (some (.builtin "getset_descriptor.__get__"))) (htk : PySem.W.takesIn K (.builtin "object.__class__") = some true)
      (hm : PySem.W.mroIn K C (.type "object") = some true) : TyOf K H (.ref a) (.ref C)
end
end L2
namespace L2
open PySem PySem.Spec PyProof.Rows
structure Room (k : Nat) (A : Around) : Prop where
  hd : A.handled = none
  dp : A.depth + 3 * k + 5 < recursionLimit
  un : A.units + 16 * k + 200 < cLine
theorem Room.mono {j k : Nat} {A : Around} (r : Room k A) (h : j ≤ k) : Room j A := ⟨r.hd, by have := r.dp; omega, by have := r.un; omega⟩
theorem Room.deeper {k : Nat} {A : Around} (r : Room (k + 1) A) (env : Env) : Room k (A.deeper env) :=
  ⟨r.hd, by have := r.dp; show A.depth + 1 + 3 * k + 5 < _; omega, by have := r.un; show A.units + 3 + 16 * k + 200 < _; omega⟩
theorem Room.depth {k : Nat} {A : Around} (r : Room k A) : A.depth < recursionLimit := by have := r.dp; omega
def tNil : TA := fun _ H Q => Q [] H
def tCons (ta : TE) (tr : TA) : TA := fun σ H Q => ta σ H fun x H1 => tr σ H1 fun xs H2 => Q (x :: xs) H2
section
variable {X : Cx} {e : Expr} {es : List Expr} {te : TE} {t : TA} {pos : Pos}
theorem pa_nil : PA X [] tNil := fun _ _ _ _ H Q I h => Calls.spliced_nil ⟨[], H, I, .nil, h⟩
theorem pa_cons (ha : PE X e te) (hr : PA X es t) (hs : starEach (e :: es) X.env = (false, eval e X.env) :: starEach es X.env := by rfl) : PA X (e :: es) (tCons te t) := by
  intro pos pins s σ H Q I h
  rw [hs]
  show wpAny _ _ (spliced ((false, eval e X.env) :: backTo pos (starEach es X.env))) _ _ s
  refine Calls.spliced_cons (thn (ha pins s σ H _ I h) fun u s1 ⟨x, H1, I1, r1, q1⟩ => ?_)
  exact thn (hr pos pins s1 σ H1 _ I1 q1) fun us s2 ⟨xs, H2, I2, r2, q2⟩ => ⟨x :: xs, H2, I2, .cons r1 r2, q2⟩
def tTup (t : TA) : TE := fun σ H Q => t σ H fun xs H1 => xs.length ≤ sizeLine ∧ ∀ p, H1 p = none → Q (.ref p) (upd H1 p (.tup xs))
def tLst (t : TA) : TE := fun σ H Q => t σ H fun xs H1 => xs.length ≤ sizeLine ∧ ∀ p, H1 p = none → Q (.ref p) (upd H1 p (.lst xs))
theorem pe_tup {x1} (h : PA X es t) : PE X (.Tuple es x1 pos) (tTup t) := by
  intro pins s σ H Q I hq
  refine wpAny_Tuple_spliced (thn (h pos pins s σ H _ I hq) fun us s1 ⟨xs, H1, I1, r, z, q⟩ => ⟨by rw [← r.length]; exact z, ?_⟩)
  have hf : H1 s1.heap.objs.size = none := I1.hok.fresh (Nat.le_refl _)
  refine ⟨.ref s1.heap.objs.size, upd H1 s1.heap.objs.size (.tup xs), I1.laid (t' := s1.toks) (fun b u e => Heap.get?_push_of_some _ e) (Nat.le_refl _) ?_, rfl, q _ hf⟩
  exact ⟨z, us, r, ⟨_, Heap.get?_push_size _ rfl, rfl, _, rfl⟩, NoDi.new _ _⟩
theorem pe_lst (h : PA X es t) : PE X (.List es pos) (tLst t) := by
  intro pins s σ H Q I hq
  refine wpAny_List_spliced (thn (h pos pins s σ H _ I hq) fun us s1 ⟨xs, H1, I1, r, z, q⟩ => ⟨by rw [← r.length]; exact z, ?_⟩)
  have hf : H1 s1.heap.objs.size = none := I1.hok.fresh (Nat.le_refl _)
  refine ⟨.ref s1.heap.objs.size, upd H1 s1.heap.objs.size (.lst xs), I1.laid (t' := s1.toks) (fun b u e => Heap.get?_push_of_some _ e) (Nat.le_refl _) ?_, rfl, q _ hf⟩
  exact ⟨z, us, 0, r, Heap.get?_push_size _ rfl⟩
end
abbrev Sp := List V → Hp → VK → XK → Prop
abbrev CXT := List Env → Hp → Shared → XK → Value → Shared → Prop
structure Env0 (P : Program) (w : World) (K : PySem.W.Frag) (mg : Str → Option Value) (base : Heap) (A : Around) (outer : List Env) (s : Shared) (H : Hp) : Prop where
  frames : A.frames = some outer
  mod : Mod K mg base
  bs : ∀ b o, base.get? b = some o → s.heap.get? b = some o ∧ H b = none
  bsz : base.objs.size ≤ s.heap.objs.size
  funs : s.heap.FunFrames base outer
  frf : ∀ b ∈ frs outer, H b = none
  hok : HOk P w H s.heap
  bare : AllBare s.gens
def CE (outer : List Env) (P : Program) (w : World) (H : Hp) (s : Shared) (Q : VK) (u : Value) (s' : Shared) : Prop :=
  ∃ v H', s'.os = s.os ∧ AllBare s'.gens ∧ Un (frs outer) [] H H' s.heap s'.heap ∧ HOk P w H' s'.heap ∧ RelV v u ∧ Q v H'
def CR (CX : CXT) (outer : List Env) (P : Program) (w : World) (H : Hp) (s : Shared) (Q : VK) (E : XK) (r : Result) (s' : Shared) : Prop :=
  match r with
  | .ok (.ret u) => CE outer P w H s Q u s'
  | .ok _ => False
  | .error e => CX outer H s E e s'
structure FnOk (P : Program) (w : World) (K : PySem.W.Frag) (mg : Str → Option Value) (base : Heap) (CX : CXT) (k : Nat) (f : Addr) (fd : FuncData) (ps : List Str) (sp : Sp) : Prop where
  len : ∀ vs H Q E, sp vs H Q E → vs.length = ps.length
  run : ∀ (A : Around) (outer : List Env) (s : Shared) (H : Hp) (args : Args) (us : List Value) (vs : List V) (Q : VK) (E : XK), Room k A → Env0 P w K mg base A outer s H → BindsTo s fd args (ps.zip us) → Vals vs us → sp vs H Q E →
    codeAny (model P w) A (.call (.ref f) args) (CR CX outer P w H s Q E) s
theorem FnOk.mono {P : Program} {w : World} {K : PySem.W.Frag} {mg : Str → Option Value} {base : Heap} {CX : CXT} {j k : Nat} {f : Addr} {fd : FuncData} {ps : List Str} {sp : Sp} (F : FnOk P w K mg base CX j f fd ps sp) (h : j ≤ k) :
    FnOk P w K mg base CX k f fd ps sp := ⟨F.len, fun A outer s H args us vs Q E hr => F.run A outer s H args us vs Q E (hr.mono h)⟩
section
variable {X : Cx} {pins : List (Addr × Obj)} {σ : St} {H : Hp} {s s' : Shared}
theorem Inv.env0 (I : Inv X pins σ H s) : Env0 X.prog X.w X.K X.mg X.base X.A X.stack s H :=
  ⟨I.ok.frames, I.ok.mod, I.bs, Nat.le_trans I.ok.bsz I.sz, I.stack, I.stkFree, I.hok, I.bare⟩
theorem Inv.after {Q : VK} {u : Value} (I : Inv X pins σ H s) (h : CE X.stack X.prog X.w H s Q u s') : EP X pins σ Q u s' := by
  obtain ⟨v, H', os, bare, un, hok, r, q⟩ := h
  obtain ⟨hh, g, d, t, os'⟩ := s'
  obtain rfl : os' = s.os := os
  exact ⟨v, H', I.call (h' := hh) (g' := g) (d' := d) (t' := t) (ch := []) un hok bare (fun b z => absurd z (by simp)), r, q⟩
end
def Binds (K : PySem.W.Frag) (fd : FuncData) (ps : List Str) (ds : List Value) : Prop :=
  ∀ (s : Shared) (us : List Value), K.In s.heap → (us ++ ds).length = ps.length → BindsTo s fd ⟨us, []⟩ (ps.zip (us ++ ds))
theorem Binds.all {K : PySem.W.Frag} {fd : FuncData} {ps : List Str} (h : ∀ us : List Value, us.length = ps.length → bindArgs fd ⟨us, []⟩ = pure (ps.zip us)) : Binds K fd ps [] := fun s us _ hl => by
  rw [List.append_nil] at hl ⊢
  exact .of_eq (h us hl)
section
variable {X : Cx} {CX : CXT} {k : Nat} {f C : Addr} {fd : FuncData} {ps : List Str} {sp : Sp} {dvs : List V} {ds : List Value} {E : XK} {x m : Str} {p pos apos : Pos} {e o : Expr} {es : List Expr} {ta : TE} {t : TA}
structure Mk (K : PySem.W.Frag) (C f : Addr) : Prop where
  makes : PySem.W.makesIn K C = true
  init : PySem.W.findIn K (.ref C) "__init__" = some (some (.ref f))
  fn : PySem.W.isFn K (.ref f) = true
  kp : PySem.W.keepIn K (.ref C) = true
end
section
variable {X : Cx} {CX : CXT} {k : Nat} {f C : Addr} {fd : FuncData} {ps ks : List Str} {sp : Sp} {E : XK} {x m : Str} {p pos apos kpos : Pos} {e o : Expr} {es : List Expr} {kws : List Keyword} {te ta : TE} {t tk : TA} {nm : Option Str}
structure KBinds (K : PySem.W.Frag) (fd : FuncData) (ps ks : List Str) (g : List Value → List Value → List Value) (gV : List V → List V → List V) : Prop where
  to : ∀ (s : Shared) (us ws : List Value), K.In s.heap → (g us ws).length = ps.length → BindsTo s fd ⟨us, ks.zip ws⟩ (ps.zip (g us ws))
  rel : ∀ {vs : List V} {us : List Value} {zs : List V} {ws : List Value}, Vals vs us → Vals zs ws → Vals (gV vs zs) (g us ws)
variable {g : List Value → List Value → List Value} {gV : List V → List V → List V}
end
structure FnScope (N P : List Str) (sc : Scope) : Prop where
  kind : sc.kind = .function
  co : sc.isCoroutine = false
  gen : sc.isGenerator = false
  nd : N.Nodup
  pre : N.take P.length = P
  par : ∀ x ∈ P, sc.names.lookup x = some .local ∨ sc.names.lookup x = some .cell
  nofree : ∀ y ∈ sc.names, y.2 ≠ .free
theorem bindL_out {kindOf : Str → Option NameKind} {x : Str} : ∀ {binds : List (Str × Value)} {m : Str → Option Value}, (∀ v, (x, v) ∉ binds) → bindL kindOf binds m x = m x
  | [], _, _ => rfl
  | (n, v) :: r, m, h => by
    unfold bindL
    rw [bindL_out fun w hw => h w (List.mem_cons_of_mem _ hw)]
    split
    · have : x ≠ n := by rintro rfl; exact h v List.mem_cons_self
      simp [this]
    · rfl
theorem bindC_out {kindOf : Str → Option NameKind} {x : Str} : ∀ {binds : List (Str × Value)} {m : Str → Option Value}, (∀ v, (x, v) ∉ binds) → bindC kindOf binds m x = m x
  | [], _, _ => rfl
  | (n, v) :: r, m, h => by
    unfold bindC
    rw [bindC_out fun w hw => h w (List.mem_cons_of_mem _ hw)]
    split
    · rfl
    · have : x ≠ n := by rintro rfl; exact h v List.mem_cons_self
      simp [this]
theorem bindL_get {kindOf : Str → Option NameKind} {x : Str} {v : Value} : ∀ {P : List Str} {vs : List Value} {i : Nat} {m : Str → Option Value}, P.Nodup → P[i]? = some x → vs[i]? = some v → kindOf x = some .local →
    bindL kindOf (P.zip vs) m x = some v
  | [], _, _, _, _, h, _, _ => by simp at h
  | _ :: _, [], _, _, _, _, h, _ => by simp at h
  | p :: P, w :: vs, 0, m, nd, h1, h2, hk => by
    simp at h1 h2; subst h1; subst h2
    show bindL kindOf ((p, w) :: P.zip vs) m p = _
    unfold bindL
    rw [bindL_out fun v hv => (List.nodup_cons.mp nd).1 (List.of_mem_zip hv).1, if_pos hk]
    simp
  | p :: P, w :: vs, i + 1, m, nd, h1, h2, hk => by
    show bindL kindOf ((p, w) :: P.zip vs) m x = _
    unfold bindL
    exact bindL_get (i := i) (List.nodup_cons.mp nd).2 (by simpa using h1) (by simpa using h2) hk
theorem bindC_get {kindOf : Str → Option NameKind} {x : Str} {v : Value} : ∀ {P : List Str} {vs : List Value} {i : Nat} {m : Str → Option Value}, P.Nodup → P[i]? = some x → vs[i]? = some v → kindOf x ≠ some .local →
    bindC kindOf (P.zip vs) m x = some v
  | [], _, _, _, _, h, _, _ => by simp at h
  | _ :: _, [], _, _, _, _, h, _ => by simp at h
  | p :: P, w :: vs, 0, m, nd, h1, h2, hk => by
    simp at h1 h2; subst h1; subst h2
    show bindC kindOf ((p, w) :: P.zip vs) m p = _
    unfold bindC
    rw [bindC_out fun v hv => (List.nodup_cons.mp nd).1 (List.of_mem_zip hv).1, if_neg hk]
    simp
  | p :: P, w :: vs, i + 1, m, nd, h1, h2, hk => by
    show bindC kindOf ((p, w) :: P.zip vs) m x = _
    unfold bindC
    exact bindC_get (i := i) (List.nodup_cons.mp nd).2 (by simpa using h1) (by simpa using h2) hk
def start (N : List Str) (vs : List V) : St := vs.map some ++ List.replicate (N.length - vs.length) none
def cxOf (CX : CXT) (P : Program) (w : World) (K : PySem.W.Frag) (mg : Str → Option Value) (base : Heap) (N : List Str) (qual : Str) (scope : Scope) (f : Addr) (cd : Value) (A : Around) (outer : List Env) (s : Shared) (H : Hp) (E : XK) : Cx where
  prog := P
  w := w
  K := K
  mg := mg
  base := base
  A := A.deeper (envOfC qual scope s.heap.objs.size f cd)
  N := N
  s₀ := s
  H₀ := H
  env := envOfC qual scope s.heap.objs.size f cd
  outer := outer
  stack := envOfC qual scope s.heap.objs.size f cd :: outer
  ex := []
  calm := true
  fn := fun _ => true
  pn := []
  xe := fun e s' => wpAny (model P w) (A.deeper (envOfC qual scope s.heap.objs.size f cd)) (leaving (envOfC qual scope s.heap.objs.size f cd) e) (fun _ s'' => CX outer H s E e s'') (fun e' s'' => CX outer H s E e' s'') s'
theorem cell_has {sc : Scope} {n : Nat} {x : Str} (h : sc.names.lookup x = some .cell) : ∃ c, (cellsFrom n sc.names []).lookup x = some c := by
  have q := PySem.W.cellsFrom_some sc.names n [] (.inl h)
  exact Option.isSome_iff_exists.mp q
theorem inv_start {CX : CXT} {P : Program} {w : World} {K : PySem.W.Frag} {mg : Str → Option Value} {base : Heap} {N ps : List Str} {qual : Str} {scope : Scope} {f : Addr} {cd : Value} {A : Around} {outer : List Env} {s s1 : Shared} {H : Hp} {E : XK} {us : List Value} {vs : List V}
    (S : FnScope N ps scope) (hd : A.handled = none) (e0 : Env0 P w K mg base A outer s H) (hl : vs.length = ps.length) (r : Vals vs us)
    (x : InCallC s s.heap.objs.size (bindL (envOfC qual scope s.heap.objs.size f cd).kindOf (ps.zip us) fun _ => none) (cellsFrom (s.heap.objs.size + 1) scope.names []) (bindC (envOfC qual scope s.heap.objs.size f cd).kindOf (ps.zip us) fun _ => none) s1) :
    Inv (cxOf CX P w K mg base N qual scope f cd A outer s H E) [] (start N vs) H s1 := by
  have hpl : ps.length ≤ N.length := by have := congrArg List.length S.pre; rw [List.length_take] at this; omega
  obtain ⟨h1, tk, rfl, hk⟩ := x.done
  have noA : ∀ b : Addr, b ∉ (cxOf CX P w K mg base N qual scope f cd A outer s H E).ex := fun b z => absurd (show b ∈ ([] : List Addr) from z) (by simp)
  refine ⟨⟨e0.mod, S.kind, rfl, rfl, Nat.le_refl _, fun y z c h1 h2 => ?_, fun y hy => ?_, fun y c _ h => ?_, fun _ => hd, Around.frames_deeper e0.frames, .inr ⟨rfl, rfl⟩, fun b z => absurd z (noA b), e0.bs, e0.bsz, fun b _ _ => noA b, fun b z => absurd z (noA b), e0.funs, e0.frf⟩,
    rfl, e0.bare, Un.kept hk, ⟨_, x.toInCall.ns, fun i y v h1 h2 h3 => ?_⟩, fun y c h => ⟨_, x.cell y c h⟩, e0.hok.fresh (Nat.le_refl _), fun y c h => ?_, fun p hp => absurd (show p ∈ ([] : List (Addr × Obj)) from hp) (by simp), e0.hok.kept hk, ?_⟩
  · exact name_of_addr x.apart (PySem.mem_of_lookup h1) (PySem.mem_of_lookup h2)
  · have hy : scope.names.lookup y = some .cell ∨ scope.names.lookup y = some .free := hy
    rcases hy with hy | hy
    · exact cell_has hy
    · exact absurd rfl (S.nofree _ (PySem.mem_of_lookup hy))
  · exact Nat.le_of_lt (x.above y c (PySem.mem_of_lookup h))
  · have hi : i < vs.length := by
      unfold start at h2
      by_cases hi : i < vs.length
      · exact hi
      · rw [List.getElem?_append_right (by simpa using hi)] at h2
        rw [List.getElem?_replicate] at h2
        split at h2 <;> cases h2
    have ha : vs[i]? = some v := by
      unfold start at h2
      rw [List.getElem?_append_left (by simpa using hi), List.getElem?_map] at h2
      cases e : vs[i]? with
      | none => rw [e] at h2; cases h2
      | some a => rw [e] at h2; cases h2; rfl
    obtain ⟨u, hu, rv⟩ := r.get ha
    have hp : ps[i]? = some y := by
      rw [← S.pre, List.getElem?_take_of_lt (by omega)]; exact h1
    have ndP : ps.Nodup := by rw [← S.pre]; exact S.nd.sublist (List.take_sublist _ _)
    refine ⟨u, rv, ?_⟩
    rcases S.par y (List.mem_of_getElem? hp) with k | k
    · exact .inl ⟨k, bindL_get ndP hp hu k⟩
    · obtain ⟨c, e⟩ := cell_has (n := s.heap.objs.size + 1) k
      refine .inr ⟨.inl k, c, e, ?_⟩
      have q := x.cell y c e
      rw [bindC_get ndP hp hu (by show scope.names.lookup y ≠ _; rw [k]; decide)] at q
      exact q
  · exact e0.hok.fresh (Nat.le_of_lt (x.above y c (PySem.mem_of_lookup h)))
  · unfold start
    show _ = N.length
    rw [List.length_append, List.length_map, List.length_replicate]
    omega
theorem fn_of {CX : CXT} {P : Program} {w : World} {K : PySem.W.Frag} {mg : Str → Option Value} {base : Heap} {k : Nat} {f : Addr} {name qual : Str} {params : Arguments} {body : List Stmt} {scope : Scope} {dV kV doc pm cdv ct oc : Value} {an od : Option Addr}
    {osl : Array (Option Value)} {N ps : List Str} {sp : Sp} (lk : K.lookup f = some ⟨oc, od, .func (PySem.W.fnOf name qual params body scope dV kV doc pm an cdv ct), osl⟩) (hcd : PySem.W.codeIn K cdv qual = true) (S : FnScope N ps scope)
    (len : ∀ vs H Q E, sp vs H Q E → vs.length = ps.length)
    (hbody : ∀ (A : Around) (outer : List Env) (s : Shared) (H : Hp) (vs : List V) (Q : VK) (E : XK), Room k (A.deeper (envOfC qual scope s.heap.objs.size f cdv)) → sp vs H Q E →
      ∃ t, PSs (cxOf CX P w K mg base N qual scope f cdv A outer s H E) body t ∧ t { nx := fun _ H' => Q .non H', rt := Q } (start N vs) H) :
    FnOk P w K mg base CX (k + 1) f (PySem.W.fnOf name qual params body scope dV kV doc pm an cdv ct) ps sp := by
  refine ⟨len, fun A outer s H args us vs Q E hr e0 hb r hsp => ?_⟩
  have hl := len _ _ _ _ hsp
  have KX : K.In s.heap := e0.mod.kin.keeps fun b o e => (e0.bs b o e).1
  have lim : s.heap.NoLimit := e0.mod.nolimit.keeps fun b o e => (e0.bs b o e).1
  have hkind : ∀ y ∈ ps.zip us, scope.names.lookup y.1 = some .local ∨ (scope.names.lookup y.1 = some .cell ∧ ((cellsFrom (s.heap.objs.size + 1) scope.names []).lookup y.1).isSome = true) := fun ⟨n, v⟩ hy => by
    rcases S.par n (List.of_mem_zip hy).1 with q | q
    · exact .inl q
    · exact .inr ⟨q, PySem.W.cellsFrom_some _ _ _ (.inl q)⟩
  refine codeAny_call_function hr.depth (KX _ _ lk) rfl S.co S.gen rfl (PySem.W.codeRec_of KX hcd) (hb _ _ _ _ ?_)
  refine wpAny_newFunctionEnv_cells S.kind hkind fun env he s1 x => ?_
  subst he
  refine ⟨lim.keeps x.toInCall.keep, codeAny_func ?_⟩
  obtain ⟨t, ht, hq⟩ := hbody A outer s H vs Q E (hr.deeper _) hsp
  have I : Inv (cxOf CX P w K mg base N qual scope f cdv A outer s H E) [] (start N vs) H s1 := inv_start S hr.hd e0 hl r x
  refine wpAny_mono (ht [] s1 (start N vs) H _ I hq) (fun fl s' hs => ?_) fun e s' hs => hs
  have fin : ∀ {σ' : St} {H' : Hp} {v : V} {u : Value}, Inv (cxOf CX P w K mg base N qual scope f cdv A outer s H E) [] σ' H' s' → RelV v u → Q v H' → CE outer P w H s Q u s' :=
    fun {σ' H' v u} J rv q => ⟨v, H', J.os, J.bare, J.base, J.hok, rv, q⟩
  cases fl with
  | ret u =>
    obtain ⟨v, σ', H', J, rv, q⟩ := hs
    exact fin J rv q
  | next =>
    obtain ⟨σ', H', J, q⟩ := hs
    exact fin (v := V.non) (u := Value.none) J rfl q
  | brk =>
    obtain ⟨_, _, _, q⟩ := hs
    exact False.elim q
  | cont =>
    obtain ⟨_, _, _, q⟩ := hs
    exact False.elim q
end L2
namespace L2
open PySem PySem.Spec PyProof.Rows
section
variable {X : Cx} {x : Str} {p pos : Pos} {e : Expr} {es : List Expr} {t : TA} {id T : String} {r : List V → Hp → VK → Prop}
def tCB (r : List V → Hp → VK → Prop) (t : TA) : TE := fun σ H Q => t σ H fun vs H1 => r vs H1 Q
theorem pe_callB (hc : CallR X (.builtin id) r) (hg : Gl X x) (hm : X.mg x = none) (hv : bootBuiltins x = some (.builtin id)) (ha : PA X (e :: es) t) (hn : x ≠ "__name__" := by decide) (hdb : (x == ("__debug__" : Str)) = false := by decide)
    (he : starEach (e :: es) X.env = (false, eval e X.env) :: starEach es X.env := by rfl) (hpl : (backTo pos (starEach es X.env)).any (·.1) = false := by rfl) : PE X (.Call (.Name x p) (e :: es) [] pos) (tCB r t) := by
  intro pins s σ H Q I h
  refine wpAny_Call_Name_kw (ld_blt I hg hm hv ?_ hn hdb)
  exact PyProof.Rows.callWith_builtin1 (thn (ha pos pins s σ H _ I h) fun us s1 ⟨vs, H1, I1, r1, q1⟩ => hc pins s1 σ H1 vs us Q I1 r1 q1) he hpl
theorem pe_callTy (hc : CallR X (.type T) r) (hg : Gl X x) (hm : X.mg x = none) (hv : bootBuiltins x = some (.type T)) (ha : PA X (e :: es) t) (hn : x ≠ "__name__" := by decide) (hdb : (x == ("__debug__" : Str)) = false := by decide)
    (he : starEach (e :: es) X.env = (false, eval e X.env) :: starEach es X.env := by rfl) (hpl : (backTo pos (starEach es X.env)).any (·.1) = false := by rfl) : PE X (.Call (.Name x p) (e :: es) [] pos) (tCB r t) := by
  intro pins s σ H Q I h
  refine wpAny_Call_Name_kw (ld_blt I hg hm hv ?_ hn hdb)
  exact PyProof.Rows.callWith_type1 (thn (ha pos pins s σ H _ I h) fun us s1 ⟨vs, H1, I1, r1, q1⟩ => hc pins s1 σ H1 vs us Q I1 r1 q1) he hpl
end
end L2
namespace HT
open PySem PyProof.Rows
def lexLt : List Int → List Int → Bool
  | [], [] => false
  | [], _ :: _ => true
  | _ :: _, [] => false
  | x :: xs, y :: ys => if x = y then lexLt xs ys else decide (x < y)
theorem lexLt_cons (x y : Int) (xs ys : List Int) : lexLt (x :: xs) (y :: ys) = if x = y then lexLt xs ys else decide (x < y) := rfl
theorem lexLt_nil_nil : lexLt [] [] = false := rfl
theorem lexLt_nil_cons (y : Int) (ys : List Int) : lexLt [] (y :: ys) = true := rfl
theorem lexLt_cons_nil (x : Int) (xs : List Int) : lexLt (x :: xs) [] = false := rfl
theorem eqAt_int (A : Around) (s : Shared) (a : Int) (t : Tok) (c : Int) (u : Tok) : ∃ e, SeqAt.EqAt A s (.int a t) (.int c u) e ∧ (e = true ↔ a = c) :=
  ⟨(a == c), SeqAt.EqAt.int_int a t c u, by simp⟩
theorem rcLt_int (A : Around) (s : Shared) (a : Int) (t : Tok) (c : Int) (u : Tok) (prog : Program) (w : World) (E : Value → Shared → Prop) (Q : Value → Shared → Prop) (h : Q (.bool (decide (a < c))) s) :
    wpAny (model prog w) A (richCompare .Lt (.int a t) (.int c u)) Q E s :=
  (PyProof.Rows.lt_int h : wpAny (model prog w) A (compareOp .Lt (.int a t) (.int c u)) Q E s)
section
open PySem.SeqAt
open PySem.AutoSeq1 (wpAny_loadPart')
open PySem.MeetsSeq PySem.MeetsSeq2 PySem.MeetsSeq3
theorem tuple_lt_ints (l b : Addr) (items items2 : Array Value) (n n2 : Nat) (dd dd2 : Option Addr) (sl sl2 : Array (Option Value)) (ns ms : List Int) (hi : IntsAre items.toList ns) (hj : IntsAre items2.toList ms) :
    Meets (Builtin.«tuple.__lt__» ⟨[.ref l, .ref b], []⟩)
      (fun _ R s => s.heap.get? l = some { cls := .type "tuple", dict := dd, data := .seq items n, slots := sl } ∧ s.heap.get? b = some { cls := .type "tuple", dict := dd2, data := .seq items2 n2, slots := sl2 } ∧
        R (.ok (.ret (.bool (lexLt ns ms)))) s) :=
  .of_wp fun prog w A R s h => by
    obtain ⟨hp, g, d, tk, os⟩ := s; obtain ⟨hl, hb, h⟩ := h
    have f2 := AutoSeq1.sub_tuple_tuple
    have z1 : items.size = ns.length := by rw [← hi.length]; simp
    have z2 : items2.size = ms.length := by rw [← hj.length]; simp
    wp_walk using wpAny_loadPart' hl, wpAny_loadPart' hb, wpAny_forIn_list _ (fun rest b s' => b.1 = none ∧ s' = ⟨hp, g, d, tk, os⟩ ∧ ∃ (vs ws : List Value) (ns' ms' : List Int), rest = vs.zip ws ∧
      IntsAre vs ns' ∧ IntsAre ws ms' ∧ ns'.length + items2.size = ms'.length + items.size ∧ R (.ok (.ret (.bool (lexLt ns' ms')))) ⟨hp, g, d, tk, os⟩) _
    case turn =>
      rintro ⟨y, x⟩ rest b s' ⟨hb', rfl, vs, ws, ns', ms', hz, hvi, hwi, hlen, hR⟩
      cases hvi with
      | nil => rw [List.zip_nil_left] at hz; cases hz
      | cons a t hvi' =>
        cases hwi with
        | nil => rw [List.zip_nil_right] at hz; cases hz
        | cons c u hwi' =>
          rw [List.zip_cons_cons] at hz
          injection hz with hyx hrest
          injection hyx with hy hx
          subst hy hx
          rw [lexLt_cons] at hR
          simp only [List.length_cons] at hlen
          obtain ⟨e, he, hiff⟩ := eqAt_int A.in1 ⟨hp, g, d, tk, os⟩ a t c u
          refine wpAny_bind (he prog w _ _ ?_)
          cases e with
          | true =>
            rw [if_pos (hiff.mp rfl)] at hR
            wp_walk
            exact ⟨rfl, rfl, _, _, _, _, hrest, hvi', hwi', by omega, hR⟩
          | false =>
            rw [if_neg (fun q => absurd (hiff.mpr q) Bool.false_ne_true)] at hR
            have hri := rcLt_int A.in1 ⟨hp, g, d, tk, os⟩ a t c u prog w
            wp_walk using hri
            exact ⟨_, rfl, by simpa using hR⟩
    case fin =>
      rintro ⟨b1, b2⟩ s' ⟨hb', rfl, vs, ws, ns', ms', hz, hvi, hwi, hlen, hR⟩
      simp only at hb'
      subst hb'
      have hv : lexLt ns' ms' = decide (items.size < items2.size) := by
        cases hvi with
        | nil =>
          cases hwi with
          | nil =>
            simp only [List.length_nil] at hlen
            rw [lexLt_nil_nil]
            exact (decide_eq_false (by omega)).symm
          | cons c u hw =>
            simp only [List.length_nil, List.length_cons] at hlen
            rw [lexLt_nil_cons]
            exact (decide_eq_true (by omega)).symm
        | cons a t hv =>
          cases hwi with
          | nil =>
            simp only [List.length_nil, List.length_cons] at hlen
            rw [lexLt_cons_nil]
            exact (decide_eq_false (by omega)).symm
          | cons c u hw =>
            rw [List.zip_cons_cons] at hz
            cases hz
      rw [hv] at hR
      wp_walk
      exact ⟨_, rfl, by simpa [Builtin.Tuple.tupleCompareSizes] using hR⟩
    case h =>
      exact ⟨rfl, rfl, items.toList, items2.toList, ns, ms, rfl, hi, hj, by omega, h⟩
end
section
variable {prog : Program} {w : World} {A : Around} {E : Value → Shared → Prop} {s : Shared}
theorem lt_tupInts {l b : Addr} {items items2 : Array Value} {ns ms : List Int} {Q : Value → Shared → Prop} (hl : IsTup s.heap l items) (hb : IsTup s.heap b items2) (hi : IntsAre items.toList ns) (hj : IntsAre items2.toList ms)
    (hu : A.units < cLine) (h : Q (.bool (lexLt ns ms)) s) : wpAny (model prog w) A (compareOp .Lt (.ref l) (.ref b)) Q E s := by
  obtain ⟨⟨cls, dd, data, sl⟩, ho, hc, n, hd⟩ := id hl
  obtain ⟨⟨cls2, dd2, data2, sl2⟩, ho2, hc2, n2, hd2⟩ := id hb
  simp only at hc hd hc2 hd2
  subst hc hd hc2 hd2
  exact richCompare_meets_room (op := .Lt) ⟨_, ho, rfl⟩ ⟨_, ho2, rfl⟩ PySem.F.slot_tuple_lt PySem.F.entry_tuple_lt (PySem.F.args_tuple_lt_2 _ _) (tuple_lt_ints l b items items2 n n2 dd dd2 sl sl2 ns ms hi hj)
    ⟨ho, ho2, show Value.bool (lexLt ns ms) ≠ Value.notImplemented ∧ Q (.bool (lexLt ns ms)) s from ⟨(fun x => nomatch x), h⟩⟩ hu
theorem cat_tup {t b : Addr} {vs ws : List Value} {Q : Value → Shared → Prop} (ht : IsTup s.heap t vs.toArray) (hb : IsTup s.heap b ws.toArray) (hv : vs ≠ [])
    (h1 : ws = [] → Q (.ref t) s) (h2 : ws ≠ [] → Q (.ref s.heap.objs.size) { s with heap := s.heap.push { cls := .type "tuple", data := .seq (vs ++ ws).toArray } })
    (hsz : vs.length + ws.length ≤ sizeLine) : wpAny (model prog w) A (binaryOp .Add (.ref t) (.ref b)) Q E s := by
  obtain ⟨⟨cls, dd, data, sl⟩, ho, hc, n, hd⟩ := id ht
  obtain ⟨⟨cls2, dd2, data2, sl2⟩, ho2, hc2, n2, hd2⟩ := id hb
  simp only at hc hd hc2 hd2
  subst hc hd hc2 hd2
  have e : vs.toArray ++ ws.toArray = (vs ++ ws).toArray := by simp
  by_cases hw : ws = []
  · exact concat_meets ⟨_, ho, rfl⟩ ⟨_, ho2, rfl⟩ noFill_tuple_add seq_tuple_add PySem.F.slot_tuple_add PySem.F.entry_tuple_add (PySem.F.args_tuple_add_2 _ _)
      (tuple_addW1 t b vs.toArray ws.toArray n n2 dd dd2 sl sl2 (by simpa using hv) (by simp [hw])) ⟨ho, ho2, h1 hw⟩
  · refine concat_meets ⟨_, ho, rfl⟩ ⟨_, ho2, rfl⟩ noFill_tuple_add seq_tuple_add PySem.F.slot_tuple_add PySem.F.entry_tuple_add (PySem.F.args_tuple_add_2 _ _)
      (tuple_addW2 t b vs.toArray ws.toArray n n2 dd dd2 sl sl2 (by simpa using hv) (by simpa using hw) (by rw [List.size_toArray, List.size_toArray]; exact hsz)) ⟨ho, ho2, ?_⟩
    rw [e]
    exact h2 hw
def sIx (n d : Nat) : Option Int → Nat
  | none => d
  | some v => if v < 0 then (v + (n : Int)).toNat else min v.toNat n
theorem sIx_le (n d : Nat) (hd : d ≤ n) (o : Option Int) : sIx n d o ≤ n := by
  cases o with
  | none => exact hd
  | some v =>
    show (if v < 0 then (v + (n : Int)).toNat else min v.toNat n) ≤ n
    by_cases hv : v < 0
    · rw [if_pos hv]; omega
    · rw [if_neg hv]; exact Nat.min_le_right _ _
theorem clip_eq (v : Int) (n d : Nat) : (if v < 0 then max (v + (n : Int)) 0 else min v (n : Int)) = ((sIx n d (some v) : Nat) : Int) := by
  show (if v < 0 then max (v + (n : Int)) 0 else min v (n : Int)) = (((if v < 0 then (v + (n : Int)).toNat else min v.toNat n) : Nat) : Int)
  by_cases hv : v < 0
  · simp only [if_pos hv]; omega
  · simp only [if_neg hv]; omega
theorem adjust_gen (lo hi : Option Int) (n : Nat) : Builtin.Slice.sliceAdjust lo hi 1 (n : Int) = (((sIx n 0 lo : Nat) : Int), ((sIx n n hi : Nat) : Int)) := by
  have h1 : ¬ ((1 : Int) < 0) := by omega
  unfold Builtin.Slice.sliceAdjust
  simp only [h1, if_false]
  refine Prod.ext ?_ ?_
  · cases lo with
    | none => rfl
    | some v => exact clip_eq v n 0
  · cases hi with
    | none => rfl
    | some v => exact clip_eq v n n
theorem places_gen (i j : Nat) : Builtin.Slice.slicePlaces (i : Int) (j : Int) 1 = j - i := by
  unfold Builtin.Slice.slicePlaces
  have h1 : (1 : Int) > 0 := by omega
  simp only [h1, if_true, Int.ediv_one]
  split <;> omega
theorem slicePart_ {v : Value} {o : Option Int} {Q : Option Int → Shared → Prop} (p : IsPart v o) (h : Q o s) : wpAny (model prog w) A (Builtin.Slice.slicePartIndex v) Q E s := by
  cases p with
  | none => exact slicePart_none h
  | int i t => exact slicePart_int h
theorem sliceApplied_gen {sl : Addr} {vl vu : Value} {lo hi : Option Int} {n : Nat} {Q : Int × Int × Nat → Shared → Prop} (hs : s.heap.IsSliceOf sl vl vu .none) (pl : IsPart vl lo) (pu : IsPart vu hi)
    (h : Q (((sIx n 0 lo : Nat) : Int), 1, sIx n n hi - sIx n 0 lo) s) : wpAny (model prog w) A (Builtin.Slice.sliceApplied (.ref sl) (pure (n : Int))) Q E s := by
  obtain ⟨os, hos, hcs, hds⟩ := id hs
  unfold Builtin.Slice.sliceApplied Builtin.Slice.sliceFields
  refine wpAny_bind (wpAny_bind (wpAny_field hos hds (x := vl) rfl (wpAny_bind (wpAny_field hos hds (x := vu) rfl (wpAny_bind (wpAny_field hos hds (x := .none) rfl (wpAny_pure ?_)))))))
  refine wpAny_bind (slicePart_none ?_)
  show wpAny _ _ (if ((1 : Int) == 0) = true then _ else _) _ _ s
  rw [if_neg (by decide)]
  refine wpAny_bind (slicePart_ pl (wpAny_bind (slicePart_ pu (wpAny_bind (wpAny_pure ?_)))))
  show wpAny _ _ (match Builtin.Slice.sliceAdjust lo hi 1 (n : Int) with | (lo, hi) => pure (lo, (1 : Int), Builtin.Slice.slicePlaces lo hi 1)) _ _ s
  rw [adjust_gen lo hi n]
  show wpAny _ _ (pure (((sIx n 0 lo : Nat) : Int), (1 : Int), Builtin.Slice.slicePlaces ((sIx n 0 lo : Nat) : Int) ((sIx n n hi : Nat) : Int) 1)) _ _ s
  rw [places_gen]
  exact wpAny_pure h
theorem pick_gen (xs : Array Value) (i k : Nat) : ((List.range k).filterMap fun (m : Nat) => xs[((i : Int) + (m : Int) * 1).toNat]?).toArray = ((xs.toList.drop i).take k).toArray := by
  have e : (fun (m : Nat) => xs[((i : Int) + (m : Int) * 1).toNat]?) = fun m => xs[i + m]? := by
    funext m
    have : ((i : Int) + (m : Int) * 1).toNat = i + m := by omega
    rw [this]
  rw [e]
  have := pick_run xs i k
  rw [List.filterMap_map] at this
  have e2 : ((fun x => xs[x]?) ∘ fun x => i + x) = fun m => xs[i + m]? := rfl
  rw [e2] at this
  rw [this]
theorem getItem_tuple_cut {t sl : Addr} {items : Array Value} {vl vu : Value} {lo hi : Option Int} {Q : Value → Shared → Prop} (ht : IsTup s.heap t items) (hs : s.heap.IsSliceOf sl vl vu .none) (pl : IsPart vl lo) (pu : IsPart vu hi)
    (hw : ¬ (sIx items.size 0 lo = 0 ∧ sIx items.size items.size hi = items.size))
    (h : Q (.ref s.heap.objs.size) { s with heap := s.heap.push { cls := .type "tuple", data := .seq ((items.toList.drop (sIx items.size 0 lo)).take (sIx items.size items.size hi - sIx items.size 0 lo)).toArray } })
    (hsz : items.size ≤ sizeLine) : wpAny (model prog w) A (getItem (.ref t) (.ref sl)) Q E s := by
  have htake : sizeOk (.seq ((items.toList.drop (sIx items.size 0 lo)).take (sIx items.size items.size hi - sIx items.size 0 lo)).toArray) := by
    show ((items.toList.drop (sIx items.size 0 lo)).take (sIx items.size items.size hi - sIx items.size 0 lo)).toArray.size ≤ sizeLine
    rw [List.size_toArray, List.length_take, List.length_drop, Array.length_toList]
    omega
  have hj : sIx items.size items.size hi ≤ items.size := sIx_le _ _ (Nat.le_refl _) hi
  obtain ⟨os, hos, hcs, hds⟩ := id hs
  have hTs : s.TypeIs (.ref sl) "slice" := ⟨os, hos, hcs⟩
  unfold getItem
  try with_reducible refine wpAny_holding ?_
  first | refine wpAny_bind (wpAny_pure ?_) | skip
  refine wpAny_bind (wpAny_sequenceKey ht.typeIs (by decide) ?_)
  refine wpAny_bind (wpAny_callSpecial?_slot (name := Str.ofString "__getitem__") ht.typeIs PyProof.Rows.slot_tuple_getitem
    (wpAny_call_entry PyProof.Rows.slot_tuple_getitem ht.typeIs entry_tuple_getitem ?_ (args_tuple_getitem _ _)))
  show wpAny _ _ (Builtin.Tuple.tupleItemsOf (.ref t) >>= _) _ _ s
  refine wpAny_bind (tupleItemsOf_ ht ?_)
  refine wpAny_bind (wpAny_typeOf hTs ?_)
  rw [if_pos (by decide)]
  refine wpAny_bind (sliceApplied_gen hs pl pu ?_)
  have hno : ¬ ((((sIx items.size 0 lo : Nat) : Int) == 0 && (1 : Int) == 1 && (sIx items.size items.size hi - sIx items.size 0 lo) == items.size) = true) := by
    intro q
    rw [Bool.and_eq_true, Bool.and_eq_true] at q
    have q1 : ((sIx items.size 0 lo : Nat) : Int) = 0 := eq_of_beq q.1.1
    have q2 : sIx items.size items.size hi - sIx items.size 0 lo = items.size := eq_of_beq q.2
    exact hw ⟨by omega, by omega⟩
  show wpAny _ _ (if (((sIx items.size 0 lo : Nat) : Int) == 0 && (1 : Int) == 1 && (sIx items.size items.size hi - sIx items.size 0 lo) == items.size) = true then _ else _) _ _ s
  rw [if_neg hno, pick_gen]
  first
    | exact wpAny_bind (m := Builtin.Tuple.tupleExact _) (wpAny_newObj_type (wpAny_pure ⟨_, rfl, wpAny_pure h⟩) htake)
    | exact wpAny_bind (m := Builtin.Tuple.tupleExact _) (wpAny_newObj_type (wpAny_bind (wpAny_pure (wpAny_pure ⟨_, rfl, wpAny_pure h⟩))) htake)
    | exact wpAny_bind (wpAny_bind (m := Builtin.Tuple.tupleExact _) (wpAny_newObj_type (wpAny_pure (wpAny_pure ⟨_, rfl, wpAny_pure h⟩)) htake))
    | exact wpAny_bind (wpAny_bind (m := Builtin.Tuple.tupleExact _) (wpAny_newObj_type (wpAny_pure ⟨_, rfl, wpAny_pure h⟩) htake))
end
end HT
namespace L2
open PySem PySem.Spec PyProof.Rows
abbrev TO := St → Hp → (Option Int → Hp → Prop) → Prop
def PO (X : Cx) (e : Option Expr) (t : TO) : Prop :=
  ∀ (pins : List (Addr × Obj)) (s : Shared) (σ : St) (H : Hp) (Q : Option Int → Hp → Prop), Inv X pins σ H s → t σ H Q →
    wpAny (model X.prog X.w) X.A (evalPart e X.env) (fun u s' => ∃ o H', Inv X pins σ H' s' ∧ IsPart u o ∧ Q o H') X.xe s
def tNoPart : TO := fun _ H Q => Q none H
def tPart (t : TE) : TO := fun σ H Q => t σ H fun x H1 => ∃ i, x = .int i ∧ Q (some i) H1
theorem intsAre_of {ns : List Int} : ∀ {us : List Value}, Vals (ns.map V.int) us → IntsAre us ns := by
  induction ns with
  | nil => intro us r; rw [List.map_nil] at r; cases r; exact .nil
  | cons n ns ih =>
    intro us r
    rw [List.map_cons] at r
    cases r with
    | cons r1 r2 =>
      obtain ⟨t, e⟩ := r1
      subst e
      exact .cons n t (ih r2)
section
variable {X : Cx} {e : Expr} {te : TE} {lo hi : Option Expr} {tl th : TO} {pos p2 : Pos}
theorem po_none : PO X none tNoPart := by
  intro pins s σ H Q I h
  rw [evalPart_none]
  exact wpAny_pure ⟨none, H, I, .none, h⟩
theorem po_some (h : PE X e te) : PO X (some e) (tPart te) := by
  intro pins s σ H Q I hw
  rw [evalPart_some]
  refine thn (h pins s σ H _ I hw) fun u s1 ⟨x, H1, I1, r1, q1⟩ => ?_
  obtain ⟨i, rfl, q⟩ := q1
  obtain ⟨t, rfl⟩ := r1
  exact ⟨some i, H1, I1, .int i t, q⟩
def SlR (X : Cx) (r : V → Option Int → Option Int → Hp → VK → Prop) : Prop :=
  ∀ (pins : List (Addr × Obj)) (s : Shared) (σ : St) (H : Hp) (x : V) (v vl vu : Value) (lo hi : Option Int) (sl : Addr) (Q : VK), Inv X pins σ H s → RelV x v → s.heap.IsSliceOf sl vl vu .none → IsPart vl lo → IsPart vu hi → r x lo hi H Q →
    ∃ T id, typeLookup (.type T) "__getitem__" = pure (some (.builtin id)) ∧ s.TypeIs v T ∧ wpAny (model X.prog X.w) X.A (getItem v (.ref sl)) (EP X pins σ Q) X.xe s
theorem SlR.or {r r' : V → Option Int → Option Int → Hp → VK → Prop} (h : SlR X r) (h' : SlR X r') : SlR X (fun x lo hi H Q => r x lo hi H Q ∨ r' x lo hi H Q) := by
  intro pins s σ H x v vl vu lo hi sl Q I rx hs pl pu q
  rcases q with q | q
  · exact h pins s σ H x v vl vu lo hi sl Q I rx hs pl pu q
  · exact h' pins s σ H x v vl vu lo hi sl Q I rx hs pl pu q
def tSl (r : V → Option Int → Option Int → Hp → VK → Prop) (te : TE) (tl th : TO) : TE := fun σ H Q => te σ H fun x H1 => tl σ H1 fun l H2 => th σ H2 fun u H3 => r x l u H3 Q
theorem pe_slice {r : V → Option Int → Option Int → Hp → VK → Prop} (hr : SlR X r) (he : PE X e te) (hl : PO X lo tl) (hu : PO X hi th) : PE X (.Subscript e (.Slice lo hi none p2) pos) (tSl r te tl th) := by
  intro pins s σ H Q I h
  refine Subscript_ (thn (he pins s σ H _ I h) fun v s1 ⟨x, H1, I1, r1, q1⟩ => ?_)
  refine wpAny_Slice (thn (hl pins s1 σ H1 _ I1 q1) fun vl s2 ⟨l, H2, I2, pl, q2⟩ => thn (hu pins s2 σ H2 _ I2 q2) fun vu s3 ⟨u, H3, I3, pu, q3⟩ => ?_)
  rw [evalPart_none]
  refine wpAny_pure ?_
  have I4 : Inv X pins σ H3 { s3 with heap := s3.heap.push { cls := .type "slice", data := .fields #[vl, vu, .none] } } := I3.kept (t' := s3.toks) fun b ob q => Heap.get?_push_of_some _ q
  obtain ⟨T, id, hT, ht, hg⟩ := hr pins { s3 with heap := s3.heap.push { cls := .type "slice", data := .fields #[vl, vu, .none] } } σ H3 x v vl vu l u s3.heap.objs.size Q I4 r1 (Heap.IsSliceOf.new ..) pl pu q3
  show wpAny (model X.prog X.w) X.A (subscriptTail e (.Slice lo hi none p2) v (.ref s3.heap.objs.size)) (EP X pins σ Q) X.xe { s3 with heap := s3.heap.push { cls := .type "slice", data := .fields #[vl, vu, .none] } }
  exact tail_any (ops := [.ref s3.heap.objs.size, v]) ht hT hg (by with_unfolding_all rfl)
def cutV (xs : List V) (lo hi : Option Int) : List V := (xs.drop (HT.sIx xs.length 0 lo)).take (HT.sIx xs.length xs.length hi - HT.sIx xs.length 0 lo)
theorem cutV_length (xs : List V) (lo hi : Option Int) : (cutV xs lo hi).length ≤ xs.length := by
  unfold cutV
  rw [List.length_take, List.length_drop]
  omega
def rSlT (K : PySem.W.Frag) : V → Option Int → Option Int → Hp → VK → Prop := fun x lo hi H Q => ∃ a xs, x = .ref a ∧ SqT K H a xs ∧
  ¬ (HT.sIx xs.length 0 lo = 0 ∧ HT.sIx xs.length xs.length hi = xs.length) ∧ ∀ p, H p = none → Q (.ref p) (upd H p (.tup (cutV xs lo hi)))
theorem sl_tup : SlR X (rSlT X.K) := by
  intro pins s σ H x v vl vu lo hi sl Q I rx hs pl pu h
  obtain ⟨a, xs, rfl, hx, hw, q⟩ := h
  cases rx
  obtain ⟨its, r, ht, hz⟩ := I.tuple hx
  have hlen : its.toArray.size = xs.length := by rw [List.size_toArray]; exact r.length.symm
  refine ⟨"tuple", _, PyProof.Rows.slot_tuple_getitem.lookup, ht.typeIs, ?_⟩
  refine HT.getItem_tuple_cut ht hs pl pu (by rw [hlen]; exact hw) ?_ (by rw [hlen]; exact hz)
  rw [hlen]
  refine ⟨.ref s.heap.objs.size, _, I.laid (t' := s.toks) (o := .tup (cutV xs lo hi)) (fun b ob q => Heap.get?_push_of_some _ q) (Nat.le_refl _) ?_, rfl, q _ (I.hok.fresh (Nat.le_refl _))⟩
  exact ⟨Nat.le_trans (cutV_length xs lo hi) hz, _, (r.drop (HT.sIx xs.length 0 lo)).take (HT.sIx xs.length xs.length hi - HT.sIx xs.length 0 lo), IsTup.new _ _, NoDi.new _ _⟩
def rLtT (K : PySem.W.Frag) : R2 := fun x y H Q => ∃ a b ns ms, x = .ref a ∧ y = .ref b ∧ SqT K H a (ns.map V.int) ∧ SqT K H b (ms.map V.int) ∧ Q (.bl (HT.lexLt ns ms)) H
theorem op_ltT (hu : X.A.units < cLine) : OpR X (compareOp .Lt) (rLtT X.K) := by
  intro pins s σ H x y v u Q I rx ry h
  obtain ⟨a, b, ns, ms, rfl, rfl, ha, hb, q⟩ := h
  cases rx
  cases ry
  obtain ⟨its, r1, p1, _⟩ := I.tuple ha
  obtain ⟨its2, r2, p2, _⟩ := I.tuple hb
  have i1 : IntsAre its.toArray.toList ns := intsAre_of r1
  have i2 : IntsAre its2.toArray.toList ms := intsAre_of r2
  exact HT.lt_tupInts p1 p2 i1 i2 hu ⟨.bl (HT.lexLt ns ms), H, I, rfl, q⟩
def rCatT (K : PySem.W.Frag) : R2 := fun x y H Q => ∃ a b xs ys, x = .ref a ∧ y = .ref b ∧ SqT K H a xs ∧ SqT K H b ys ∧ xs ≠ [] ∧ xs.length + ys.length ≤ sizeLine ∧
  (ys = [] → Q (.ref a) H) ∧ (ys ≠ [] → ∀ p, H p = none → Q (.ref p) (upd H p (.tup (xs ++ ys))))
theorem Vals.nil_iff {xs : List V} {us : List Value} (r : Vals xs us) : us = [] ↔ xs = [] := by
  cases r with
  | nil => simp
  | cons _ _ => simp
theorem op_catT : OpR X (binaryOp .Add) (rCatT X.K) := by
  intro pins s σ H x y v u Q I rx ry h
  obtain ⟨a, b, xs, ys, rfl, rfl, ha, hb, hx, hz, q1, q2⟩ := h
  cases rx
  cases ry
  obtain ⟨its, r1, p1, _⟩ := I.tuple ha
  obtain ⟨its2, r2, p2, _⟩ := I.tuple hb
  refine HT.cat_tup p1 p2 (fun z => hx (r1.nil_iff.mp z)) (fun z => ⟨.ref a, H, I, rfl, q1 (r2.nil_iff.mp z)⟩) (fun z => ?_) (by rw [← r1.length, ← r2.length]; exact hz)
  refine ⟨.ref s.heap.objs.size, _, I.laid (t' := s.toks) (o := .tup (xs ++ ys)) (fun b ob q => Heap.get?_push_of_some _ q) (Nat.le_refl _) ?_, rfl, q2 (fun w => z (r2.nil_iff.mpr w)) _ (I.hok.fresh (Nat.le_refl _))⟩
  exact ⟨by rw [List.length_append]; exact hz, _, r1.append r2, IsTup.new _ _, NoDi.new _ _⟩
end
end L2
namespace L2
open PySem PySem.Spec PyProof.Rows
def ixN (n : Nat) (i : Int) : Option Nat := if 0 ≤ i then (if i < n then some i.toNat else none) else if -(n : Int) ≤ i then some (i + n).toNat else none
def atI {α : Type} (xs : List α) (i : Int) : Option α := (ixN xs.length i).bind fun j => xs[j]?
theorem ixN_seq {n : Nat} {i : Int} {j : Nat} (h : ixN n i = some j) : seqIndex? i n = some j ∧ j < n ∧ -(n : Int) ≤ i ∧ i < n := by
  unfold ixN at h
  by_cases h0 : 0 ≤ i
  · rw [if_pos h0] at h
    by_cases h1 : i < n
    · rw [if_pos h1] at h
      have e : i.toNat = j := Option.some.inj h
      exact ⟨by rw [seqIndex_of h0 h1, e], by omega, by omega, h1⟩
    · rw [if_neg h1] at h; cases h
  · rw [if_neg h0] at h
    by_cases h1 : -(n : Int) ≤ i
    · rw [if_pos h1] at h
      have e : (i + n).toNat = j := Option.some.inj h
      exact ⟨by rw [seqIndex_neg (by omega) h1, e], by omega, h1, by omega⟩
    · rw [if_neg h1] at h; cases h
theorem atI_get {α : Type} {xs : List α} {i : Int} {v : α} (h : atI xs i = some v) : ∃ j, seqIndex? i xs.length = some j ∧ xs[j]? = some v ∧ j < xs.length ∧ -(xs.length : Int) ≤ i ∧ i < xs.length := by
  unfold atI at h
  cases e : ixN xs.length i with
  | none => rw [e] at h; cases h
  | some j =>
    rw [e] at h
    obtain ⟨h1, h2, h3, h4⟩ := ixN_seq e
    exact ⟨j, h1, h, h2, h3, h4⟩
theorem atI_nat {α : Type} {xs : List α} {j : Nat} {v : α} (h : xs[j]? = some v) : atI xs (j : Int) = some v := by
  have hj : j < xs.length := (List.getElem?_eq_some_iff.mp h).1
  have e : ixN xs.length (j : Int) = some j := by
    unfold ixN
    rw [if_pos (by omega), if_pos (by omega)]; simp
  unfold atI; rw [e]; exact h
def PlainIx (b : Expr) : Prop := ∀ o i, subscripted b false o i = operate [o, i] (getItem o i)
def IxR (X : Cx) (r : R2) : Prop :=
  ∀ (value slice : Expr) (pins : List (Addr × Obj)) (s : Shared) (σ : St) (H : Hp) (x y : V) (v u : Value) (Q : VK), Inv X pins σ H s → RelV x v → RelV y u → r x y H Q →
    subscripted slice false v u = operate [v, u] (getItem v u) → wpAny (model X.prog X.w) X.A (subscriptTail value slice v u) (EP X pins σ Q) X.xe s
def MtR (X : Cx) (id : String) (r : V → List V → Hp → VK → Prop) : Prop :=
  ∀ (pins : List (Addr × Obj)) (s : Shared) (σ : St) (H : Hp) (x : V) (xs : List V) (v : Value) (us : List Value) (Q : VK), Inv X pins σ H s → RelV x v → Vals xs us → r x xs H Q →
    wpAny (model X.prog X.w) X.A (call (.builtin id) (v :: us)) (EP X pins σ Q) X.xe s
section
variable {X : Cx} {a b : Expr} {ta tb : TE} {pos : Pos}
theorem IxR.or {r r' : R2} (h : IxR X r) (h' : IxR X r') : IxR X (fun x y H Q => r x y H Q ∨ r' x y H Q) := by
  intro value slice pins s σ H x y v u Q I rx ry q hs
  rcases q with q | q
  · exact h value slice pins s σ H x y v u Q I rx ry q hs
  · exact h' value slice pins s σ H x y v u Q I rx ry q hs
theorem pe_ix {r : R2} (hr : IxR X r) (ha : PE X a ta) (hb : PE X b tb) (hs : PlainIx b) : PE X (.Subscript a b pos) (tOp r ta tb) := by
  intro pins s σ H Q I h
  exact Subscript_ (binT ha hb I h fun v u s2 x y H2 I2 rx ry q => hr a b pins s2 σ H2 x y v u Q I2 rx ry q (hs _ _))
def rIxL (K : PySem.W.Frag) : R2 := fun x y H Q => ∃ p xs i v, x = .ref p ∧ y = .int i ∧ SqL K H p xs ∧ atI xs i = some v ∧ Q v H
def rIxT (K : PySem.W.Frag) : R2 := fun x y H Q => ∃ p xs i v, x = .ref p ∧ y = .int i ∧ SqT K H p xs ∧ atI xs i = some v ∧ Q v H
def rIxS : R2 := fun x y H Q => ∃ z i c, x = .str z ∧ y = .int i ∧ z.length ≤ sizeLine ∧ atI z.cps.toList i = some c ∧ Q (.str ⟨#[c]⟩) H
theorem ix_list : IxR X (rIxL X.K) := by
  intro value slice pins s σ H x y v u Q I rx ry h hs
  obtain ⟨p, xs, i, z, rfl, rfl, hq, he, q⟩ := h
  cases rx
  obtain ⟨t, rfl⟩ := ry
  obtain ⟨its, r, pl, hz⟩ := I.list hq
  obtain ⟨j, h1, h2, h3, h4, h5⟩ := atI_get he
  obtain ⟨w, ew, rw'⟩ := r.get h2
  have hl := r.length
  have hn := line63
  have fin : EP X pins σ Q w s := ⟨z, H, I, rw', q⟩
  by_cases h0 : 0 ≤ i
  · have hj : i.toNat = j := by
      rw [seqIndex_of h0 h5] at h1
      exact Option.some.inj h1
    exact item_listR pl.isList h0 (by omega) (by rw [hj]; simpa using ew) fin hs
  · have hj : (i + (its.toArray.size : Int)).toNat = j := by
      rw [seqIndex_neg (by omega) h4] at h1
      rw [List.size_toArray, ← hl]
      exact Option.some.inj h1
    exact subscriptTail_builtinR (x := w) pl.isList.typeIs slot_list_getitem.lookup
      (wpAny_getItem_list_neg (Q := fun r s' => r = w ∧ EP X pins σ Q r s') pl.isList (by omega) (by rw [List.size_toArray] <;> omega) (by omega) (by rw [hj]; simpa using ew) ⟨rfl, fin⟩) hs
theorem ix_tup : IxR X (rIxT X.K) := by
  intro value slice pins s σ H x y v u Q I rx ry h hs
  obtain ⟨p, xs, i, z, rfl, rfl, hq, he, q⟩ := h
  cases rx
  obtain ⟨t, rfl⟩ := ry
  obtain ⟨its, r, pl, hz⟩ := I.tuple hq
  obtain ⟨j, h1, h2, h3, h4, h5⟩ := atI_get he
  obtain ⟨w, ew, rw'⟩ := r.get h2
  have hl := r.length
  have hn := line63
  have fin : EP X pins σ Q w s := ⟨z, H, I, rw', q⟩
  exact subscriptTail_builtinR (x := w) pl.typeIs slot_tuple_getitem.lookup
    (getItem_tuple (j := j) (Q := fun r s' => r = w ∧ EP X pins σ Q r s') pl (by omega) (by omega) (by rw [List.size_toArray, ← hl]; exact h1) (by simpa using ew) ⟨rfl, fin⟩) hs
theorem ix_str : IxR X rIxS := by
  intro value slice pins s σ H x y v u Q I rx ry h hs
  obtain ⟨z, i, c, rfl, rfl, hz, he, q⟩ := h
  obtain ⟨t, rfl⟩ := rx
  obtain ⟨t', rfl⟩ := ry
  obtain ⟨j, h1, h2, h3, h4, h5⟩ := atI_get he
  have hl : z.cps.toList.length = z.length := by simp [Str.length]
  rw [hl] at h1 h4 h5
  have hn := line63
  exact tail_any (typeIs_str s z t) slot_str_getitem.lookup (getItem_str (c := c) (by
    have e1 : decide (i < -(2 ^ 63 : Int)) = false := decide_eq_false (by omega)
    have e2 : decide (i ≥ 2 ^ 63) = false := decide_eq_false (by omega)
    rw [e1, e2, Bool.or_false]) (by rw [h1]; simpa using h2) ⟨.str ⟨#[c]⟩, H, I.tok _, ⟨_, rfl⟩, q⟩) hs
def rIx (K : PySem.W.Frag) : R2 := fun x y H Q => rIxL K x y H Q ∨ rIxT K x y H Q ∨ rIxS x y H Q
theorem ix_seq : IxR X (rIx X.K) := ix_list.or (ix_tup.or ix_str)
theorem mapSeq_set (its : List Value) (n j : Nat) (u : Value) : Obj.mapSeq (·.setIfInBounds j u) { cls := .type "list", data := .seq its.toArray n } = { cls := .type "list", data := .seq (its.set j u).toArray n } := by
  simp [Obj.mapSeq]
theorem Inv.lst {pins : List (Addr × Obj)} {σ : St} {H : Hp} {s : Shared} {p : Addr} {xs : List V} (I : Inv X pins σ H s) (h : H p = some (.lst xs)) :
    ∃ (its : List Value) (n : Nat), Vals xs its ∧ s.heap.get? p = some { cls := .type "list", data := .seq its.toArray n } ∧ xs.length ≤ sizeLine := by
  obtain ⟨z, its, n, r, e⟩ := I.hok p _ h
  exact ⟨its, n, r, e, z⟩
theorem Inv.lstUpd {pins : List (Addr × Obj)} {σ : St} {H : Hp} {s : Shared} {p : Addr} {xs ys : List V} {its its' : List Value} {n n' : Nat} {f : Obj → Obj} (I : Inv X pins σ H s) (h : H p = some (.lst xs))
    (ho : s.heap.get? p = some { cls := .type "list", data := .seq its.toArray n }) (hf : f { cls := .type "list", data := .seq its.toArray n } = { cls := .type "list", data := .seq its'.toArray n' }) (r : Vals ys its') (hz : ys.length ≤ sizeLine) (t : Nat) :
    Inv X pins σ (upd H p (.lst ys)) { s with heap := s.heap.update p f, toks := t } := by
  have e : (s.heap.update p f).get? p = some { cls := .type "list", data := .seq its'.toArray n' } := by
    rw [Heap.get?_update_self f ho (by rw [hf] <;> rfl), hf]
  refine I.write (x := p) (e := p) (by rw [h]; trivial) (.inl rfl) (fun b u hb q => (Heap.get?_update_other _ _ (Ne.symm hb)).trans q) ⟨_, e⟩ ?_
  exact ⟨hz, its', n', r, e⟩
def rSetL : V → V → V → Hp → (Hp → Prop) → Prop := fun o i v H Q => ∃ p xs k j, o = .ref p ∧ i = .int k ∧ H p = some (.lst xs) ∧ ixN xs.length k = some j ∧ Q (upd H p (.lst (xs.set j v)))
theorem set_list : PSet X rSetL := by
  intro pins s σ H o i v ov iv u Q I ro ri rv h
  obtain ⟨p, xs, k, j, rfl, rfl, hp, hj, q⟩ := h
  cases ro
  obtain ⟨t, rfl⟩ := ri
  obtain ⟨its, n, r, ho, hz⟩ := I.lst hp
  obtain ⟨h1, h2, h3, h4⟩ := ixN_seq hj
  have hl := r.length
  have hn := line63
  have I' : Inv X pins σ (upd H p (.lst (xs.set j v))) { s with heap := s.heap.update p (Obj.mapSeq (·.setIfInBounds j u)) } :=
    I.lstUpd hp ho (mapSeq_set its n j u) (r.set rv j) (by rw [List.length_set]; exact hz) s.toks
  by_cases h0 : 0 ≤ k
  · have hk : k.toNat = j := by
      rw [seqIndex_of h0 h4] at h1
      exact Option.some.inj h1
    exact PySem.W.ki_setAt ho h0 (by omega) (by rw [List.size_toArray, ← hl]; exact h4) (by rw [hk]; exact ⟨_, I', q⟩)
  · have hk : (k + (its.toArray.size : Int)).toNat = j := by
      rw [seqIndex_neg (by omega) h3] at h1
      rw [List.size_toArray, ← hl]
      exact Option.some.inj h1
    exact PySem.W.ki_setBack ho (by omega) (by rw [List.size_toArray, ← hl]; exact h3) (by omega) (by rw [hk]; exact ⟨_, I', q⟩)
theorem slice_bounds (lo hi : Option Int) (n : Nat) : (sliceBounds lo hi none n).1 = ((HT.sIx n 0 lo : Nat) : Int) ∧ (sliceBounds lo hi none n).2.1 = ((HT.sIx n n hi : Nat) : Int) ∧ (sliceBounds lo hi none n).2.2 = 1 := by
  refine ⟨?_, ?_, rfl⟩
  · cases lo with
    | none => simp [sliceBounds, HT.sIx]
    | some i =>
      simp only [sliceBounds, HT.sIx, Option.getD_none, show (1 : Int) > 0 by decide, if_true]
      by_cases h : i < 0
      · simp only [h, if_true] <;> omega
      · simp only [h, if_false] <;> omega
  · cases hi with
    | none => simp [sliceBounds, HT.sIx]
    | some i =>
      simp only [sliceBounds, HT.sIx, Option.getD_none, show (1 : Int) > 0 by decide, if_true]
      by_cases h : i < 0
      · simp only [h, if_true] <;> omega
      · simp only [h, if_false] <;> omega
theorem slicePick_cut (its : List Value) (lo hi : Option Int) : slicePick its.toArray lo hi none = ((its.drop (HT.sIx its.length 0 lo)).take (HT.sIx its.length its.length hi - HT.sIx its.length 0 lo)).toArray := by
  obtain ⟨h1, h2, h3⟩ := slice_bounds lo hi its.toArray.size
  unfold slicePick
  rw [h1, h2, h3]
  simp only [sliceRange_one, pick_run, List.size_toArray] <;> rfl
def rSlL (K : PySem.W.Frag) : V → Option Int → Option Int → Hp → VK → Prop := fun x lo hi H Q => ∃ a xs, x = .ref a ∧ SqL K H a xs ∧ ∀ p, H p = none → Q (.ref p) (upd H p (.lst (cutV xs lo hi)))
theorem sl_list : SlR X (rSlL X.K) := by
  intro pins s σ H x v vl vu lo hi sl Q I rx hs pl pu h
  obtain ⟨a, xs, rfl, hx, q⟩ := h
  cases rx
  obtain ⟨its, r, ht, hz⟩ := I.list hx
  have hlen := r.length
  refine ⟨"list", _, slot_list_getitem.lookup, ht.isList.typeIs, ?_⟩
  refine wpAny_getItem_list_slice ht.isList hs pl pu .none (by simp) ?_ (by rw [List.size_toArray] <;> omega)
  rw [slicePick_cut, ← hlen]
  refine ⟨.ref s.heap.objs.size, _, I.laid (t' := s.toks) (o := .lst (cutV xs lo hi)) (fun b ob q => Heap.get?_push_of_some _ q) (Nat.le_refl _) ?_, rfl, q _ (I.hok.fresh (Nat.le_refl _))⟩
  exact ⟨Nat.le_trans (cutV_length xs lo hi) hz, _, 0, (r.drop (HT.sIx xs.length 0 lo)).take (HT.sIx xs.length xs.length hi - HT.sIx xs.length 0 lo), Heap.get?_push_size _ rfl⟩
def flatV : V → Bool
  | .non => true
  | .bl _ => true
  | .int _ => true
  | .str _ => true
  | _ => false
def eqV : V → V → Bool
  | .non, .non => true
  | .bl a, .bl b => a == b
  | .bl a, .int b => (if a then 1 else 0) == b
  | .int a, .bl b => a == (if b then 1 else 0)
  | .int a, .int b => a == b
  | .str a, .str b => a == b
  | _, _ => false
theorem eqAt_V {A : Around} {s : Shared} {y x : V} {u v : Value} (ry : RelV y u) (rx : RelV x v) (fy : flatV y = true) (fx : flatV x = true) : SeqAt.EqAt A s u v (eqV y x) := by
  cases y with
  | non =>
    cases ry
    cases x with
    | non => cases rx; exact SeqAt.EqAt.same _
    | bl b => cases rx; exact SeqAt.EqAt.none_bool b
    | int b => obtain ⟨t, rfl⟩ := rx; exact SeqAt.EqAt.none_int b t
    | str b => obtain ⟨t, rfl⟩ := rx; exact SeqAt.EqAt.none_str b t
    | _ => exact absurd (show false = true from fx) Bool.false_ne_true
  | bl a =>
    cases ry
    cases x with
    | non => cases rx; exact SeqAt.EqAt.bool_none a
    | bl b => cases rx; exact SeqAt.EqAt.bool_bool a b
    | int b => obtain ⟨t, rfl⟩ := rx; exact SeqAt.EqAt.bool_int a b t
    | str b => obtain ⟨t, rfl⟩ := rx; exact SeqAt.EqAt.bool_str a b t
    | _ => exact absurd (show false = true from fx) Bool.false_ne_true
  | int a =>
    obtain ⟨t', rfl⟩ := ry
    cases x with
    | non => cases rx; exact SeqAt.EqAt.int_none a t'
    | bl b => cases rx; exact SeqAt.EqAt.int_bool a t' b
    | int b => obtain ⟨t, rfl⟩ := rx; exact SeqAt.EqAt.int_int a t' b t
    | str b => obtain ⟨t, rfl⟩ := rx; exact SeqAt.EqAt.int_str a t' b t
    | _ => exact absurd (show false = true from fx) Bool.false_ne_true
  | str a =>
    obtain ⟨t', rfl⟩ := ry
    cases x with
    | non => cases rx; exact SeqAt.EqAt.str_none a t'
    | bl b => cases rx; exact SeqAt.EqAt.str_bool a t' b
    | int b => obtain ⟨t, rfl⟩ := rx; exact SeqAt.EqAt.str_int a t' b t
    | str b => obtain ⟨t, rfl⟩ := rx; exact SeqAt.EqAt.str_str a t' b t
    | _ => exact absurd (show false = true from fx) Bool.false_ne_true
  | _ => exact absurd (show false = true from fy) Bool.false_ne_true
def eqU (x : V) (u : Value) : Bool := match u with
  | .none => eqV .non x
  | .bool b => eqV (.bl b) x
  | .int i _ => eqV (.int i) x
  | .str z _ => eqV (.str z) x
  | _ => false
theorem eqU_of {x y : V} {u : Value} (r : RelV y u) (f : flatV y = true) : eqU x u = eqV y x := by
  cases y with
  | non => cases r; rfl
  | bl b => cases r; rfl
  | int i => obtain ⟨t, rfl⟩ := r; rfl
  | str z => obtain ⟨t, rfl⟩ := r; rfl
  | _ => exact absurd (show false = true from f) Bool.false_ne_true
theorem any_eqU {x : V} : ∀ {xs : List V} {us : List Value}, Vals xs us → xs.all flatV = true → us.any (eqU x) = xs.any fun y => eqV y x
  | _, _, .nil, _ => rfl
  | y :: xs, u :: us, .cons r t, f => by
    rw [List.all_cons, Bool.and_eq_true] at f
    rw [List.any_cons, List.any_cons, eqU_of r f.1, any_eqU t f.2]
theorem mem_eqAt {A : Around} {s : Shared} {x : V} {v : Value} (rx : RelV x v) (fx : flatV x = true) : ∀ {xs : List V} {us : List Value}, Vals xs us → xs.all flatV = true → ∀ u ∈ us, SeqAt.EqAt A s u v (eqU x u)
  | _, _, .nil, _ => fun u hu => by cases hu
  | y :: xs, u :: us, .cons r t, f => fun u' hu => by
    rw [List.all_cons, Bool.and_eq_true] at f
    rcases List.mem_cons.mp hu with rfl | hu
    · rw [eqU_of r f.1]; exact eqAt_V r rx f.1 fx
    · exact mem_eqAt rx fx t f.2 u' hu
def inV (x : V) (xs : List V) : Bool := xs.any fun y => eqV y x
def rIn (K : PySem.W.Frag) (neg : Bool) : R2 := fun x y H Q => ∃ p xs, y = .ref p ∧ (SqL K H p xs ∨ SqT K H p xs) ∧ flatV x = true ∧ xs.all flatV = true ∧ Q (.bl (if neg then !inV x xs else inV x xs)) H
theorem op_in_seq : OpR X (compareOp .In) (rIn X.K false) := by
  intro pins s σ H x y v u Q I rx ry h
  obtain ⟨p, xs, rfl, hq, fx, fs, q⟩ := h
  cases ry
  rcases hq with hq | hq
  · obtain ⟨its, r, pl, hz⟩ := I.list hq
    refine SeqAt.in_listAt (eqU x) pl.isList (fun w hw => mem_eqAt rx fx r fs w (by simpa using hw)) ⟨.bl _, H, I, rfl, ?_⟩
    rw [show its.toArray.any (eqU x) = its.any (eqU x) by simp, any_eqU r fs]
    exact q
  · obtain ⟨its, r, pl, hz⟩ := I.tuple hq
    refine SeqAt.in_tupleAt (eqU x) pl (fun w hw => mem_eqAt rx fx r fs w (by simpa using hw)) ⟨.bl _, H, I, rfl, ?_⟩
    rw [show its.toArray.any (eqU x) = its.any (eqU x) by simp, any_eqU r fs]
    exact q
theorem op_notIn_seq : OpR X (compareOp .NotIn) (rIn X.K true) := by
  intro pins s σ H x y v u Q I rx ry h
  obtain ⟨p, xs, rfl, hq, fx, fs, q⟩ := h
  cases ry
  rcases hq with hq | hq
  · obtain ⟨its, r, pl, hz⟩ := I.list hq
    refine SeqAt.notIn_listAt (eqU x) pl.isList (fun w hw => mem_eqAt rx fx r fs w (by simpa using hw)) ⟨.bl _, H, I, rfl, ?_⟩
    rw [show its.toArray.any (eqU x) = its.any (eqU x) by simp, any_eqU r fs]
    exact q
  · obtain ⟨its, r, pl, hz⟩ := I.tuple hq
    refine SeqAt.notIn_tupleAt (eqU x) pl (fun w hw => mem_eqAt rx fx r fs w (by simpa using hw)) ⟨.bl _, H, I, rfl, ?_⟩
    rw [show its.toArray.any (eqU x) = its.any (eqU x) by simp, any_eqU r fs]
    exact q
theorem op_notIn_str : OpR X (compareOp .NotIn) (fun x y H Q => ∃ i j, x = .str i ∧ y = .str j ∧ Q (.bl (!(!(Builtin.Str.occurrences j i 0 j.length 1).isEmpty))) H) := by
  intro pins s σ H x y v u Q I rx ry h
  obtain ⟨i, j, rfl, rfl, q⟩ := h
  obtain ⟨t, rfl⟩ := rx
  obtain ⟨t', rfl⟩ := ry
  exact notIn_str ⟨.bl _, H, I, rfl, q⟩
theorem call_len_seq : CallR X (.builtin "len") (fun xs H Q => ∃ p ys, xs = [.ref p] ∧ (SqL X.K H p ys ∨ SqT X.K H p ys) ∧ Q (.int ys.length) H) := by
  intro pins s σ H xs us Q I r h
  obtain ⟨p, ys, rfl, hq, q⟩ := h
  obtain ⟨u, rfl, rx⟩ := vals1 r
  cases rx
  have hn := line63
  rcases hq with hq | hq
  · obtain ⟨its, r', pl, hz⟩ := I.list hq
    have hlen := r'.length
    exact Calls.call_len_list pl.isList (by simp only [List.size_toArray] <;> omega) ⟨.int ys.length, H, I.tok _, ⟨s.toks + 1, by rw [List.size_toArray, hlen]⟩, q⟩
  · obtain ⟨its, r', pl, hz⟩ := I.tuple hq
    have hlen := r'.length
    exact len_tuple pl (by simp only [List.size_toArray] <;> omega) ⟨.int ys.length, H, I.tok _, ⟨s.toks + 1, by rw [List.size_toArray, hlen]⟩, q⟩
theorem call_len_str : CallR X (.builtin "len") (fun xs H Q => ∃ z, xs = [.str z] ∧ z.length ≤ sizeLine ∧ Q (.int z.length) H) := by
  intro pins s σ H xs us Q I r h
  obtain ⟨z, rfl, hz, q⟩ := h
  obtain ⟨u, rfl, t, rfl⟩ := vals1 r
  have hn := line63
  exact len_str (by omega) ⟨.int z.length, H, I.tok _, ⟨_, rfl⟩, q⟩
theorem CallR.or {f : Value} {r r' : List V → Hp → VK → Prop} (h : CallR X f r) (h' : CallR X f r') : CallR X f (fun xs H Q => r xs H Q ∨ r' xs H Q) := by
  intro pins s σ H xs us Q I rs q
  rcases q with q | q
  · exact h pins s σ H xs us Q I rs q
  · exact h' pins s σ H xs us Q I rs q
theorem call_list_of : CallR X (.type "list") (fun xs H Q => ∃ p ys, xs = [.ref p] ∧ (SqL X.K H p ys ∨ SqT X.K H p ys) ∧ ∀ l, H l = none → Q (.ref l) (upd H l (.lst ys))) := by
  intro pins s σ H xs us Q I r h
  obtain ⟨p, ys, rfl, hq, q⟩ := h
  obtain ⟨u, rfl, rx⟩ := vals1 r
  cases rx
  have fin : ∀ (its : List Value), Vals ys its → ys.length ≤ sizeLine → ∀ (h' : Heap) (c' : Nat), (∀ b o', s.heap.get? b = some o' → h'.get? b = some o') →
      h'.get? s.heap.objs.size = some { cls := .type "list", dict := none, data := .seq its.toArray c', slots := #[] } → EP X pins σ Q (.ref s.heap.objs.size) { s with heap := h' } := fun its r' hz h' c' kp e =>
    ⟨.ref s.heap.objs.size, _, I.laid (t' := s.toks) kp (Nat.le_refl _) (show ObjOk X.prog X.w _ h' _ (.lst ys) from ⟨hz, its, c', r', e⟩), rfl, q _ (I.hok.fresh (Nat.le_refl _))⟩
  rcases hq with hq | hq
  · obtain ⟨its, r', pl, hz⟩ := I.list hq
    have hlen := r'.length
    obtain ⟨o, ho, hc, n, hd⟩ := pl.isList
    exact call_list_seq p (.inl rfl) ho hc hd (fun h' c' kp e => fin its r' hz h' c' kp e) (by simp only [List.size_toArray] <;> omega)
  · obtain ⟨its, r', pl, hz⟩ := I.tuple hq
    have hlen := r'.length
    obtain ⟨o, ho, hc, n, hd⟩ := pl
    exact call_list_seq p (.inr rfl) ho hc hd (fun h' c' kp e => fin its r' hz h' c' kp e) (by simp only [List.size_toArray] <;> omega)
def tyV (K : PySem.W.Frag) (T : String) (x : V) (H : Hp) : Prop := match x with
  | .str _ => T = "str"
  | .int _ => T = "int"
  | .ref p => (T = "list" ∧ ∃ xs, SqL K H p xs) ∨ (T = "tuple" ∧ ((∃ o, K.lookup p = some o ∧ o.cls = .type "tuple" ∧ o.dict = none) ∨ ∃ xs, H p = some (.tup xs))) ∨
      (T = "dict" ∧ ((∃ kvs, H p = some (.dK kvs)) ∨ ∃ kvs, H p = some (.dT kvs))) ∨ (T = "set" ∧ ∃ S n, H p = some (.set S n))
  | _ => False
theorem tyV_is {pins : List (Addr × Obj)} {σ : St} {H : Hp} {s : Shared} {T : String} {x : V} {v : Value} (I : Inv X pins σ H s) (r : RelV x v) (ty : tyV X.K T x H) :
    s.TypeIs v T ∧ ∀ a, v = .ref a → ∃ ob, s.heap.get? a = some ob ∧ ob.dict = none := by
  cases x with
  | str z =>
    obtain ⟨t, rfl⟩ := r
    cases (show T = "str" from ty)
    exact ⟨typeIs_str s z t, fun _ e => nomatch e⟩
  | int i =>
    obtain ⟨t, rfl⟩ := r
    cases (show T = "int" from ty)
    exact ⟨typeIs_int s i t, fun _ e => nomatch e⟩
  | ref p =>
    cases r
    rcases ty with ⟨rfl, xs, hq⟩ | ⟨rfl, ⟨o, hk, hc, hd⟩ | ⟨xs, hk⟩⟩ | ⟨rfl, hk⟩ | ⟨rfl, S, n, hk⟩
    · obtain ⟨its, _, pl, _⟩ := I.list hq
      refine ⟨pl.isList.typeIs, fun a e => ?_⟩
      cases e
      obtain ⟨o, n, e, c, hd, _⟩ := pl
      exact ⟨o, e, hd⟩
    · refine ⟨⟨o, I.kIn p o hk, hc⟩, fun a e => ?_⟩
      cases e
      exact ⟨o, I.kIn _ o hk, hd⟩
    · obtain ⟨_, _, _, ⟨o, e1, e2, _⟩, nd⟩ := I.hok p _ hk
      refine ⟨⟨o, e1, e2⟩, fun a e => ?_⟩
      cases e
      exact ⟨o, e1, nd o e1⟩
    · have z : ∃ o, s.heap.get? p = some o ∧ o.ExactDict := by
        rcases hk with ⟨kvs, hk⟩ | ⟨kvs, hk⟩
        · obtain ⟨_, _, _, _, o, _, _, e, ex, _⟩ := I.hok p _ hk
          exact ⟨o, e, ex⟩
        · obtain ⟨_, _, _, _, o, _, _, e, ex, _⟩ := I.hok p _ hk
          exact ⟨o, e, ex⟩
      obtain ⟨o, e, ex⟩ := z
      refine ⟨⟨o, e, ex.1⟩, fun a e2 => ?_⟩
      cases e2
      exact ⟨o, e, ex.2.1⟩
    · obtain ⟨o, _, _, _, e, ex, _⟩ := I.hok p _ hk
      refine ⟨⟨o, e, ex.1⟩, fun a e2 => ?_⟩
      cases e2
      exact ⟨o, e, ex.2.1⟩
  | _ => exact False.elim ty
def tBM (K : PySem.W.Frag) (T : String) (r : V → List V → Hp → VK → Prop) (to : TE) (t : TA) : TE := fun σ H Q => to σ H fun x H1 => tyV K T x H1 ∧ t σ H1 fun xs H2 => r x xs H2 Q
variable {o e : Expr} {es : List Expr} {to : TE} {t : TA} {name : Str} {apos cpos : Pos} {T id : String} {r : V → List V → Hp → VK → Prop}
theorem pe_bm (pa : PlainAttrs T) (slot : Slot T name id) (hty : typeOf (.builtin id) = pure (.type "method_descriptor")) (hm : MtR X id r) (ho : PE X o to) (ha : PA X (e :: es) t)
    (hbase : attributeBase o name X.env (eval o X.env) = eval o X.env := by rfl)
    (hfew : ((backTo cpos (starEach (e :: es) X.env)).all (fun x => !x.1) && (backToKw cpos (keywordEach [] X.env)).all (fun x => x.1.isSome)
      && decide ((e :: es).length + ([] : List Keyword).length + (if ([] : List Keyword).isEmpty then 0 else 1) < 30)) = true := by rfl)
    (hline : (apos.endLine == cpos.line) = true := by rfl) (hs : starEach (e :: es) X.env = (false, eval e X.env) :: starEach es X.env := by rfl) (hplain : (backTo cpos (starEach es X.env)).any (·.1) = false := by rfl) :
    PE X (.Call (.Attribute o name apos) (e :: es) [] cpos) (tBM X.K T r to t) := by
  intro pins s σ H Q I h
  refine wpAny_Call_method_late hbase hfew hline rfl (thn (ho pins s σ H _ I h) fun v s1 ⟨x, H1, I1, r1, ty, q1⟩ => ?_)
  obtain ⟨h1, h2⟩ := tyV_is I1 r1 ty
  refine ⟨T, id, pa, slot, hty, h1, h2, ?_⟩
  have hA := ha cpos pins s1 σ H1 _ I1 q1
  rw [hs] at hA ⊢
  refine Calls.callWith_builtin (by show (false || (backTo cpos (starEach es X.env)).any (·.1)) = false; rw [hplain] <;> rfl) (Calls.evalArgs_plain ?_)
  exact thn hA fun us s2 ⟨vs, H2, I2, r2, q2⟩ => hm pins s2 σ H2 x vs v us Q I2 r1 r2 q2
/- xs.append(e), list.index on a module's tuple .. are MtR facts of 06m -/
end
end L2
namespace L2
open PySem PySem.Spec PyProof.Rows
def MtM (X : Cx) (id : String) (r : V → List V → Hp → VK → Prop) : Prop :=
  ∀ (pins : List (Addr × Obj)) (s : Shared) (σ : St) (H : Hp) (x : V) (xs : List V) (v : Value) (us : List Value) (Q : VK), Inv X pins σ H s → RelV x v → Vals xs us → r x xs H Q →
    wpAny (model X.prog X.w) X.A (call (.builtin id) (v :: us)) (EP X pins σ Q) X.xe s
theorem Vals.one : ∀ {x : V} {us : List Value}, Vals [x] us → ∃ u, us = [u] ∧ RelV x u
  | _, _, .cons r .nil => ⟨_, rfl, r⟩
theorem Vals.rep {xs : List V} {us : List Value} (h : Vals xs us) : ∀ k : Nat, Vals (List.replicate k xs).flatten (List.replicate k us).flatten
  | 0 => .nil
  | k + 1 => by
    rw [List.replicate_succ, List.replicate_succ, List.flatten_cons, List.flatten_cons]
    exact Vals.append h (Vals.rep h k)
theorem foldl_rep (its : List Value) : ∀ (k : Nat) (acc : List Value),
    List.foldl (fun x1 x2 => x1 ++ x2) acc.toArray (List.replicate k its.toArray) = (acc ++ (List.replicate k its).flatten).toArray
  | 0, acc => by simp
  | k + 1, acc => by
    have e : acc.toArray ++ its.toArray = (acc ++ its).toArray := by simp
    have e2 : (acc ++ its) ++ (List.replicate k its).flatten = acc ++ (List.replicate (k + 1) its).flatten := by
      rw [List.replicate_succ, List.flatten_cons, List.append_assoc]
    rw [← e2, ← foldl_rep its k (acc ++ its), ← e, List.replicate_succ, List.foldl_cons]
section
variable {X : Cx} {pins : List (Addr × Obj)} {σ : St} {H : Hp} {s : Shared} {l b : Addr} {xs ys zs : List V}
theorem Inv.lset {its its' : List Value} {n : Nat} {f : Array Value → Array Value} {t' : Nat} (I : Inv X pins σ H s) (hH : H l = some (.lst xs))
    (e : s.heap.get? l = some { cls := .type "list", data := .seq its.toArray n }) (hf : f its.toArray = its'.toArray) (hv : Vals ys its') (hz : ys.length ≤ sizeLine) :
    Inv X pins σ (upd H l (.lst ys)) { s with heap := s.heap.update l (Obj.mapSeq f), toks := t' } := by
  have q := PySem.IsL.update e f
  rw [hf] at q
  refine I.write (x := l) (e := l) (by rw [hH]; exact trivial) (.inl rfl) (fun b' u hb hu => (Heap.get?_update_other s.heap (Obj.mapSeq f) (Ne.symm hb)).trans hu) ⟨_, q⟩ ?_
  exact ⟨hz, its', _, hv, q⟩
theorem Inv.lnew {its : List Value} {t' : Nat} (I : Inv X pins σ H s) (hv : Vals ys its) (hz : ys.length ≤ sizeLine) :
    Inv X pins σ (upd H s.heap.objs.size (.lst ys)) { s with heap := s.heap.push { cls := .type "list", data := .seq its.toArray }, toks := t' } :=
  I.laid (fun _ _ q => Heap.get?_push_of_some _ q) (Nat.le_refl _) ⟨hz, its, 0, hv, Heap.get?_push_size _ rfl⟩
theorem Inv.fresh (I : Inv X pins σ H s) : H s.heap.objs.size = none := I.hok.fresh (Nat.le_refl _)
theorem Inv.lstM (I : Inv X pins σ H s) (hH : H l = some (.lst xs)) : xs.length ≤ sizeLine ∧ ∃ (its : List Value) (n : Nat), Vals xs its ∧ xs.length = its.length ∧ s.heap.get? l = some { cls := .type "list", data := .seq its.toArray n } := by
  obtain ⟨z, its, n, r, e⟩ := I.hok l _ hH
  exact ⟨z, its, n, r, r.length, e⟩
theorem notLongL {n : Nat} (h : n ≤ sizeLine) : Builtin.List.listTooLong n = false := by
  unfold Builtin.List.listTooLong
  exact decide_eq_false (by omega)
end
section
variable {X : Cx}
def rAppend : V → List V → Hp → VK → Prop := fun x vs H Q => ∃ l xs y, x = .ref l ∧ vs = [y] ∧ H l = some (.lst xs) ∧ xs.length < sizeLine ∧ Q .non (upd H l (.lst (xs ++ [y])))
theorem mt_append : MtM X "list.append" rAppend := by
  intro pins s σ H x vs v us Q I rx rv h
  obtain ⟨l, xs, y, rfl, rfl, hH, hz, q⟩ := h
  cases rx
  obtain ⟨u, rfl, ru⟩ := rv.one
  obtain ⟨z, its, n, r, hl, e⟩ := I.lstM hH
  refine call_meets F.slot_list_append ⟨_, e, rfl⟩ F.entry_list_append (F.args_list_append_2 _ _) (PySem.list_append l its.toArray n u (by rw [List.size_toArray]; omega)) ⟨e, ?_⟩
  refine ⟨.non, _, I.lset (its' := its ++ [u]) hH e (by simp) (r.append (.cons ru .nil)) ?_, rfl, q⟩
  rw [List.length_append, List.length_singleton]
  omega
def rRep : R2 := fun x y H Q => ∃ l k xs, x = .ref l ∧ y = .int k ∧ H l = some (.lst xs) ∧ -(2 ^ 63) ≤ k ∧ k < 2 ^ 63 ∧ xs.length * k.toNat ≤ sizeLine ∧
  ∀ p, H p = none → Q (.ref p) (upd H p (.lst (List.replicate k.toNat xs).flatten))
theorem len_rep {α : Type} (xs : List α) (k : Nat) : (List.replicate k xs).flatten.length = k * xs.length := by
  induction k with
  | zero => simp
  | succ k ih => rw [List.replicate_succ, List.flatten_cons, List.length_append, ih, Nat.succ_mul, Nat.add_comm]
theorem op_rep : OpR X (binaryOp .Mult) rRep := by
  intro pins s σ H x y v u Q I rx ry h
  obtain ⟨l, k, xs, rfl, rfl, hH, h1, h2, hz, q⟩ := h
  cases rx
  obtain ⟨t, rfl⟩ := ry
  obtain ⟨z, its, n, r, hl, e⟩ := I.lstM hH
  have hlen : its.toArray.size * k.toNat ≤ sizeLine := by rw [List.size_toArray, ← hl]; exact hz
  have hcap : ¬ its.toArray.size * k.toNat > (2 ^ 63 - 1) / 8 := by
    have : (sizeLine : Nat) ≤ (2 ^ 63 - 1) / 8 := by decide
    omega
  have hfit : ¬ (!Builtin.List.listFitsIndex k) = true := by
    rw [fitsIndex_both h1 h2]
    exact Bool.false_ne_true
  have hlong : ¬ Builtin.List.listTooLong (its.toArray.size * k.toNat) = true := by
    rw [notLongL hlen]
    exact Bool.false_ne_true
  have hnew : List.foldl (fun x1 x2 => x1 ++ x2) #[] (List.replicate (if its.toArray.isEmpty = true then 0 else k.toNat) its.toArray) = (List.replicate k.toNat its).flatten.toArray := by
    have f0 : ∀ m : Nat, List.foldl (fun x1 x2 => x1 ++ x2) #[] (List.replicate m its.toArray) = (List.replicate m its).flatten.toArray := fun m => by
      have := foldl_rep its m []
      rw [List.nil_append] at this
      exact this
    rw [f0]
    cases its with
    | nil => simp
    | cons a r' => rw [if_neg (by simp)]
  refine wpAny_binaryOp_repeat_ref (T := "list") (U := "int") (by decide) ⟨_, e, rfl⟩ (fun s' => typeIs_int s' k t) noFill_list_mul F.fills_int_mul F.slot_int_rmul repeat_list F.slot_int_index.lookup
    (call_meets F.slot_int_rmul (typeIs_int s k t) F.entry_int_rmul (F.args_int_rmul_2 _ _) (int___rmul___int_list k t l its.toArray n)
      ⟨e, rfl, ⟨_, e, rfl⟩, call_meets F.slot_list_mul ⟨_, e, rfl⟩ F.entry_list_mul (F.args_list_mul_2 _ _) (AutoListH.list___mul___list_int_3 l its.toArray n k t hfit hcap hlong) ⟨e, ?_⟩⟩)
  rw [hnew]
  exact ⟨.ref _, _, I.lnew (t' := s.toks) (r.rep k.toNat) (by rw [len_rep, Nat.mul_comm]; exact hz), rfl, q _ I.fresh⟩
end
section
variable {prog : Program} {w : World} {A : Around} {E : Value → Shared → Prop} {s : Shared}
set_option maxRecDepth 100000 in
end
section
variable {X : Cx}
end
end L2
namespace Att
open PySem PySem.W PySem.Calls PyProof.Rows
theorem ints_of_wellAll {P : Params} {h : Heap} : ∀ (ns : List Int) (vs : List Value), WellAll P h vs (ns.map WData.int) → IntsAre vs ns := by
  intro ns
  induction ns with
  | nil =>
    intro vs w
    rw [List.map_nil] at w
    cases w
    exact .nil
  | cons n ns ih =>
    intro vs w
    rw [List.map_cons] at w
    cases w with
    | cons a b =>
      cases a
      exact .cons _ _ (ih _ b)
theorem script_of {l : OpenLaw} {n : Nat} (hn : l.most = some n) {P : Params} {h : Heap} {args : List WData} {vals : List Value}
    (hpre : l.row.toRowW.claim.pre args = true) (hwl : WellAll P h vals args) :
    ∃ a vs ns, vals = [Value.ref a] ∧ args = [WData.list (ns.map WData.int)] ∧ h.get? a = some { cls := .type "list", data := .seq vs.toArray } ∧ IntsAre vs ns ∧ ns.length ≤ n := by
  have hsh : WShape.hasAll [] args [.list .int] = true := (pre_splitW hpre).1
  have hc : l.pre.holds [] { args := args } = true := (pre_splitW hpre).2
  obtain ⟨d, r, rfl, h1, h2⟩ := hasAllW_cons hsh
  obtain rfl := hasAllW_nil h2
  obtain ⟨xs, rfl, h3⟩ := hasW_list h1
  obtain ⟨ns, rfl⟩ := items_int h3
  have hlen : ns.length ≤ n := by
    unfold OpenLaw.pre at hc
    have h4 : (WTm.not (.lt (.lit (.int (n : Int))) (.len (.arg 0)))).holds [] { args := [.list (ns.map .int)] } = true := by
      have h4 := (holds_andW hc).1
      rw [hn] at h4
      exact h4
    have h5 := condW_of h4 (w_not (w_lt w_lit (w_len_list (w_arg rfl))))
    rw [List.length_map] at h5
    refine Nat.le_of_not_lt fun q => ?_
    have q' : (n : Int) < ((ns.length : Nat) : Int) := by omega
    first
      | (rw [decide_eq_true q'] at h5; exact absurd h5 (by decide))
      | (simp at h5; omega)
  cases hwl with
  | cons w1 w2 =>
    cases w2
    cases w1 with
    | list ho hall => exact ⟨_, _, ns, rfl, rfl, ho, ints_of_wellAll ns _ hall, hlen⟩
theorem post_true (l : OpenLaw) (args : List WData) : l.row.toRowW.claim.post args (.bool true) args = true :=
  postW_of (r := l.row.toRowW) (X := (true == true))
    (show WShape.has [] (.bool true) .bool = true by first | rfl | decide | simp [WShape.has, WShape.arms, WShape.armsAll])
    (show (WTm.eq .res (.lit (.bool true))).value [] { args := args, res := some (.bool true), after := args } = some (.bool (true == true)) from w_eq_bool (w_res rfl) w_lit) rfl
theorem attach_call {l : OpenLaw} {n : Nat} {q : Program} {loose : List Str} {XP : (Str → Option Value) → Heap → Prop} {YP : World → Heap → Prop} {d : DefRec}
    (hn : l.most = some n) (hdf : d.params.defaults = [])
    (call : ∀ (w : World) (s₀ s₁ : Shared) (mg mb : Str → Option Value) (fa : Addr) (o : Obj) (pm cd doc : Value) (a : Addr) (vs : List Value) (ns : List Int),
      Ground q loose [] XP w s₀ mg mb s₁.heap → YP w s₁.heap →
      s₁.heap.get? fa = some o → o.data = .func (docDef d.name d.params d.body d.scope pm cd doc) → s₁.heap.CodeRec cd d.name → mg d.name = some (.ref fa) →
      s₁.heap.get? a = some { cls := .type "list", data := .seq vs.toArray } → IntsAre vs ns → ns.length ≤ n → s₁.gens = #[] →
      codeAny (model l.prog w) callerA (.call (.ref fa) ⟨[.ref a], []⟩) (fun r s' => r = .ok (.ret (.bool true)) ∧ OldK s₁.heap s'.heap ∧ s'.os = s₁.os ∧ AllBare s'.gens) s₁) :
    WalkO q loose XP YP l.row.toRowW d [] (fun f vs => PySem.call f vs) := by
  intro w s₀ s₁ mg mb G Y fa o pm cd doc dV kV ho hd hcd hD hmg hg args vals as hpre hlay hrd hwl hlo
  obtain rfl : dV = .none := Dflts.none hD hdf
  obtain rfl : kV = .none := Dflts.noKw hD
  obtain ⟨a, vs, ns, rfl, rfl, hobj, hints, hlen⟩ := script_of hn hpre hwl
  refine enter_call (codeAny_mono (call w s₀ s₁ mg mb fa o pm cd doc a vs ns G Y ho (fd_plain hd) hcd hmg hobj hints hlen hg) fun r s' hq => ?_)
  obtain ⟨rfl, h2, h3, h4⟩ := hq
  exact ⟨.inl ⟨.bool true, .bool true, [], rfl, fun _ => rfl, .bool true, post_true l _, fun _ => ⟨List.Pairwise.nil, fun _ hm => (nomatch hm)⟩⟩, h2, h3, h4⟩
section
variable {prog : Program} {w : World} {A : Around} {E : Value → Shared → Prop} {s : Shared} {K : Frag}
def noObjs (h : Heap) : Heap := { h with objs := #[] }
theorem noObjs_get (h : Heap) (b : Addr) : (noObjs h).get? b = none := by
  cases e : (noObjs h).get? b with
  | none => rfl
  | some o => exact absurd (Heap.lt_size e) (Nat.not_lt_zero _)
theorem fr_all {h : Heap} {L : Addr} {m : Str → Option Value} (n : h.Ns L m) : Fr (noObjs h) L h m :=
  ⟨n, fun b o e => (by rw [noObjs_get] at e; cases e), Nat.zero_le _⟩
end
end Att
namespace L2
open PySem PySem.Spec PyProof.Rows
theorem vals_ints : ∀ {vs : List Value} {ns : List Int}, IntsAre vs ns → Vals (ns.map V.int) vs
  | _, _, .nil => .nil
  | _, _, .cons n t h => .cons ⟨t, rfl⟩ (vals_ints h)
def Only (H : Hp) : Prop := ∀ b, H b = none ∨ ∃ o xs, H b = some (.frz o (.lst xs))
theorem law_call {P : Program} {w : World} {K : PySem.W.Frag} {mg mb : Str → Option Value} {CX : CXT} {k : Nat} {fa a : Addr} {fd : FuncData} {x : Str} {sp : Sp} {s₁ : Shared} {vs : List Value} {ns : List Int}
    (KX : K.In s₁.heap) (hns : s₁.heap.Ns mainGlobals mg) (hb : s₁.heap.Ns builtinsNs mb) (hbb : ∀ x : Str, x ≠ "__name__" → mb x = bootBuiltins x) (hlim : s₁.heap.NoLimit) (hg : s₁.gens = #[])
    (ha : s₁.heap.get? a = some { cls := .type "list", data := .seq vs.toArray }) (hi : IntsAre vs ns) (hl : ns.length ≤ sizeLine) (hr : Room k callerA)
    (F : ∀ base : Heap, K.In base → base.Ns mainGlobals mg → FnOk P w K mg base CX k fa fd [x] sp) (hbind : ∀ (s : Shared) (u : Value), BindsTo s fd ⟨[u], []⟩ [(x, u)])
    (hsp : ∀ H : Hp, Only H → SqL K H a (ns.map V.int) → sp [.ref a] H (fun v _ => v = .bl true) fun _ _ _ => False)
    (hCX : ∀ H e s', CX [] H s₁ (fun _ _ _ => False) e s' → False) :
    codeAny (model P w) callerA (.call (.ref fa) ⟨[.ref a], []⟩) (fun r s' => r = .ok (.ret (.bool true)) ∧ OldK s₁.heap s'.heap ∧ s'.os = s₁.os ∧ AllBare s'.gens) s₁ := by
  have rv := vals_ints hi
  have lenV := hi.length
  -- from an abstract heap in which nothing but the script may be tracked
  have core : ∀ H : Hp, Only H → SqL K H a (ns.map V.int) → HOk P w H s₁.heap → (∀ b, H b ≠ none → b = a) → (H a ≠ none → K.lookup a = none) →
      codeAny (model P w) callerA (.call (.ref fa) ⟨[.ref a], []⟩) (fun r s' => r = .ok (.ret (.bool true)) ∧ OldK s₁.heap s'.heap ∧ s'.os = s₁.os ∧ AllBare s'.gens) s₁ := by
    intro H hO hS hok hA hK
    have base_of : ∀ {b : Addr} {o : Obj}, s₁.heap.get? b = some o → H b = none → (hidT s₁.heap H).get? b = some o := fun e n => hidT_get e n
    have noA : ∀ {b : Addr} {o : Obj} {es : Array DictEntry} {ep : Nat}, s₁.heap.get? b = some o → o.data = .dict es ep → H b = none := fun {b o es ep} e d => by
      cases q : H b with
      | none => rfl
      | some u =>
        have e' : b = a := hA b (by rw [q]; simp)
        subst e'
        rw [ha] at e; cases e
        have d' : Data.seq vs.toArray _ = Data.dict es ep := d
        cases d'
    have nsK : ∀ {b : Addr} {m : Str → Option Value}, s₁.heap.Ns b m → (hidT s₁.heap H).Ns b m := fun {b m} ⟨o, es, ep, e, d, r⟩ => ⟨o, es, ep, base_of e (noA e d), d, r⟩
    have hKb : K.In (hidT s₁.heap H) := fun b o e => base_of (KX b o e) (by
      cases q : H b with
      | none => rfl
      | some u =>
        have e' : b = a := hA b (by rw [q]; simp)
        subst e'
        rw [hK (by rw [q]; simp)] at e; cases e)
    have hM : Mod K mg (hidT s₁.heap H) := ⟨hKb, nsK hns, ⟨mb, nsK hb, hbb⟩, let ⟨mc, h1, h2⟩ := hlim; ⟨mc, nsK h1, h2⟩⟩
    have e0 : Env0 P w K mg (hidT s₁.heap H) callerA [] s₁ H := ⟨rfl, hM, fun b o e => of_hidT e, Nat.le_of_eq (hidT_size _ _), trivial, fun b hb => absurd (show b ∈ ([] : List Addr) from hb) (by simp), hok, .of_eq hg⟩
    refine codeAny_mono ((F _ hKb (nsK hns)).run callerA [] s₁ H ⟨[.ref a], []⟩ [.ref a] [.ref a] _ _ hr e0 (hbind s₁ (.ref a)) (.cons rfl .nil) (hsp H hO hS)) fun r s' h => ?_
    cases r with
    | error e => exact (hCX H e s' h).elim
    | ok fl =>
      cases fl with
      | next => exact False.elim h
      | brk => exact False.elim h
      | cont => exact False.elim h
      | ret u =>
        obtain ⟨v, H', os, bare, un, hok', r', q⟩ := h
        have q' : v = .bl true := q
        subst q'
        obtain rfl : u = Value.bool true := r'
        refine ⟨rfl, OldK.of_keep fun b o e => ?_, os, bare⟩
        cases q : H b with
        | none => exact un.keep b o e q (by intro z; exact absurd (show b ∈ ([] : List Addr) from z) (by simp)) (by simp)
        | some u =>
          rcases hO b with z | ⟨ob, xs, z⟩
          · rw [q] at z; cases z
          · have z2 := un.frzs b ob _ z
            obtain ⟨e1, _⟩ := hok b _ z
            obtain ⟨e2, _⟩ := hok' b _ z2
            rw [e] at e1; cases e1
            exact e2
  cases hk : K.lookup a with
  | some o =>
    -- the script is one of the module's own objects
    have e := KX a o hk
    rw [ha] at e
    cases e
    refine core (fun _ => none) (fun _ => .inl rfl) (.inr ⟨_, vs.toArray, _, hk, rfl, rfl, rfl, by rw [List.size_toArray, lenV]; exact hl, by simpa using rv⟩) (fun b u z => by have z' : (none : Option HO) = some u := z; cases z') (fun b z => absurd rfl z) fun z => absurd rfl z
  | none =>
    refine core (fun b => if b = a then some (.frz { cls := .type "list", data := .seq vs.toArray } (.lst (ns.map V.int))) else none) (fun b => ?_) (.inl (.inr ⟨{ cls := .type "list", data := .seq vs.toArray }, if_pos rfl⟩)) (fun b u z => ?_) (fun b z => ?_) fun _ => hk
    · by_cases hb : b = a
      · exact .inr ⟨_, _, if_pos hb⟩
      · exact .inl (if_neg hb)
    · by_cases hb : b = a
      · have z' := (if_pos hb).symm.trans z
        cases z'
        subst hb
        exact ⟨ha, by rw [List.length_map]; exact hl, vs, _, rv, ha⟩
      · have z' := (if_neg hb).symm.trans z
        cases z'
    · by_cases hb : b = a
      · exact hb
      · exact absurd (if_neg hb) z
end L2
namespace L2
open PySem PySem.Spec PyProof.Rows
abbrev KOf {K : PySem.W.Frag} {h : Heap} (_ : K.In h) : PySem.W.Frag := K
theorem walk_of {l : PySem.W.OpenLaw} {n k : Nat} {q : Program} {loose : List Str} {XP : (Str → Option Value) → Heap → Prop} {YP : World → Heap → Prop} {d : DefRec} {K : Params → PySem.W.Frag} {CX : World → CXT} {sp : World → Sp} {x : Str}
    (hn : l.most = some n) (hn2 : n ≤ sizeLine) (hdf : d.params.defaults = []) (hr : Room k callerA)
    (hY : ∀ (w : World) (h : Heap), YP w h → (K w.params).In h)
    (F : ∀ (w : World) (mg : Str → Option Value) (fa : Addr) (h : Heap), (K w.params).In h → h.Ns mainGlobals mg → mg d.name = some (.ref fa) →
      ∃ fd : FuncData, (∀ (s : Shared) (u : Value), BindsTo s fd ⟨[u], []⟩ [(x, u)]) ∧
        ∀ base : Heap, (K w.params).In base → base.Ns mainGlobals mg → FnOk l.prog w (K w.params) mg base (CX w) k fa fd [x] (sp w))
    (hsp : ∀ (w : World) (H : Hp) (a : Addr) (ns : List Int), ns.length ≤ n → Only H → SqL (K w.params) H a (ns.map V.int) → sp w [.ref a] H (fun v _ => v = .bl true) fun _ _ _ => False)
    (hCX : ∀ (w : World) (H : Hp) (s : Shared) (e : Value) (s' : Shared), CX w [] H s (fun _ _ _ => False) e s' → False) :
    PySem.W.WalkO q loose XP YP l.row.toRowW d [] (fun f vs => PySem.call f vs) := by
  refine Att.attach_call hn hdf fun w s₀ s₁ mg mb fa o pm cd doc a vs ns G Y ho hd hcd hmg hobj hints hlen hg => ?_
  have KX := hY w _ Y
  obtain ⟨fd, hb, hF⟩ := F w mg fa _ KX G.T.g hmg
  exact law_call KX G.T.g G.T.b G.T.builtins G.T.nolimit hg hobj hints (Nat.le_trans hlen hn2) hr hF hb (fun H hO hS => hsp w H a ns hlen hO hS) fun H e s' => hCX w H s₁ e s'
end L2
/- THE LAST THEOREM (shape; LID, My.* are yours):
   My.Adr: a structure of the addresses that your layer names (classes, functions); My.Txt K t: a structure (Prop) of the equations over K;
   My.txt_mk : {K} {implicit addresses ..} (e1 : nsIn K mainGlobals "law" = some (some (.ref f))) (e2 : K.lookup f = some ⟨oc, od, .func (fnOf "law" "law" params body scope dV kV doc pm an cdv ct), sl⟩) (e3 : codeIn K cdv "law" = true) .. : ∃ t, My.Txt K t
set_option maxRecDepth 100000 in
set_option maxHeartbeats 0 in
theorem PySem.Challenge.cw_LID_holds : PySem.Challenge.rw_LID.Holds := by
  w_on; o_law; k_head; (case hw => w_witness2)
  k_fill
  refine L2.walk_of (l := PySem.Challenge.rw_LID) (n := 63) (k := 40) (x := "script") (CX := fun w => ..) (sp := fun _ => My.sp_law) rfl (by decide) rfl ⟨rfl, by decide, by decide⟩ (fun w h Y => PySem.W.kIn_of Y) ?F ?S ?C
  case F =>
    intro w mg fa h KX G hmg
    have T : ∃ t, My.Txt (L2.KOf KX) t := by
      dsimp only [L2.KOf]                          -- K must stand as «<heap const> w.params» for k_is
      refine' My.txt_mk ?e1 ?e2 ?e3 ..
      (case e1 => PySem.W.k_is)                    -- in the order: a name -> its address -> its object -> its parts
      (case e2 => PySem.W.k_is)
      ..
    obtain ⟨t, T⟩ := T
    have e0 := hmg.symm.trans (PySem.W.mg_of KX G T.law)
    cases e0                                       -- fa is the law's own address
    exact ⟨_, fun s u => .of_eq rfl, fun base kb nb => My.law_fn T kb nb⟩     -- if «.of_eq rfl» comes too early: refine' ⟨_, ?b, fun base kb nb => My.law_fn T kb nb⟩; exact fun s u => .of_eq rfl
  case S => exact fun w H a ns hl hO hS => ..
  case C => exact ..
(the tactic k_is has no namespace: write k_is) -/
namespace L2
open PySem PySem.Spec PyProof.Rows
def defArgs (s : Stmt) : Arguments := match s with
  | .FunctionDef _ a _ _ _ _ _ _ _ _ => a
  | _ => { posonlyargs := [], args := [], vararg := none, kwonlyargs := [], kw_defaults := [], kwarg := none, defaults := [] }
def defBody (s : Stmt) : List Stmt := match s with
  | .FunctionDef _ _ b _ _ _ _ _ _ _ => b
  | _ => []
def defScope (s : Stmt) : Scope := match s with
  | .FunctionDef _ _ _ _ _ _ sc _ _ _ => sc
  | _ => { kind := .function, names := [], isGenerator := false, isCoroutine := false }
abbrev CX0 : CXT := fun _ _ _ _ _ _ => False
abbrev E0 : XK := fun _ _ _ => False
structure Fun (K : PySem.W.Frag) (x qual : Str) (st : Stmt) (f : Addr) (fd : FuncData) : Prop where
  ex : ∃ (oc : Value) (od : Option Addr) (kV doc pm : Value) (an : Option Addr) (cdv ct : Value) (osl : Array (Option Value)),
    fd = PySem.W.fnOf x qual (defArgs st) (defBody st) (defScope st) .none kV doc pm an cdv ct ∧ K.lookup f = some ⟨oc, od, .func fd, osl⟩ ∧ PySem.W.codeIn K cdv qual = true
  kp : PySem.W.keepIn K (.ref f) = true
section
variable {P : Program} {w : World} {K : PySem.W.Frag} {mg : Str → Option Value} {base : Heap}
theorem Fun.binds {x qual : Str} {st : Stmt} {f : Addr} {fd : FuncData} {ps : List Str} (F : Fun K x qual st f fd)
    (h : ∀ (kV doc pm : Value) (an : Option Addr) (cdv ct : Value) (us : List Value), us.length = ps.length → bindArgs (PySem.W.fnOf x qual (defArgs st) (defBody st) (defScope st) .none kV doc pm an cdv ct) ⟨us, []⟩ = pure (ps.zip us)) : Binds K fd ps [] := by
  obtain ⟨oc, od, kV, doc, pm, an, cdv, ct, osl, rfl, lk, hcd⟩ := F.ex
  exact .all (h kV doc pm an cdv ct)
theorem fun_mk {x qual : Str} {st : Stmt} {f : Addr} {oc : Value} {od an : Option Addr} {osl : Array (Option Value)} {kV doc pm cdv ct : Value} (l : K.lookup f = some ⟨oc, od, .func (PySem.W.fnOf x qual (defArgs st) (defBody st) (defScope st) .none kV doc pm an cdv ct), osl⟩)
    (c : PySem.W.codeIn K cdv qual = true) (k : PySem.W.keepIn K (.ref f) = true) : Fun K x qual st f (PySem.W.fnOf x qual (defArgs st) (defBody st) (defScope st) .none kV doc pm an cdv ct) := ⟨⟨oc, od, kV, doc, pm, an, cdv, ct, osl, rfl, l, c⟩, k⟩
end
section
variable {X : Cx}
end
end L2
namespace L2
open PySem PySem.Spec PyProof.Rows
section
variable {κ : Type} [DecidableEq κ]
def valV (kvs : List (κ × V)) (k : κ) : Option V := (kvs.find? fun kv => decide (kv.1 = k)).map (·.2)
def putK (kvs : List (κ × V)) (k : κ) (v : V) : List (κ × V) :=
  if (kvs.any fun kv => decide (kv.1 = k)) = true then kvs.map (fun kv => if kv.1 = k then (kv.1, v) else kv) else kvs ++ [(k, v)]
def dropK (kvs : List (κ × V)) (k : κ) : List (κ × V) := kvs.filter fun kv => decide (kv.1 ≠ k)
theorem valV_pos {p : κ × V} {r : List (κ × V)} {k : κ} (e : p.1 = k) : valV (p :: r) k = some p.2 := by simp [valV, List.find?_cons, e]
theorem valV_neg {p : κ × V} {r : List (κ × V)} {k : κ} (e : ¬ p.1 = k) : valV (p :: r) k = valV r k := by simp [valV, List.find?_cons, e]
end
theorem kV_is {P : Program} {w : World} {k : Key} {u : Value} (r : RelV (kV k) u) : (mixKind P w).is k u = true := by
  cases k with
  | inl i => obtain ⟨t, e⟩ := (show ∃ t, u = Value.int i t from r); subst e; exact mixKind_int P w i t
  | inr x => obtain ⟨t, e⟩ := (show ∃ t, u = Value.str x t from r); subst e; exact mixKind_str P w x t
theorem items_are {P : Program} {w : World} : ∀ {ks : List Key} {us : List Value}, Vals (ks.map kV) us → ItemsAre (mixKind P w) ks us
  | [], _, r => by rw [List.map_nil] at r; cases r; exact .nil
  | k :: ks, _, r => by
    rw [List.map_cons] at r
    cases r with
    | cons h t => exact .cons (kV_is h) (items_are t)
abbrev KT (H : Hp) : List (List Key × V) → List (List Key × Addr × Value) → Prop := Paired fun p q => p.1 = q.1 ∧ H q.2.1 = some (.tup (p.1.map kV)) ∧ RelV p.2 q.2.2
section
variable {P : Program} {w : World} {H : Hp} {h : Heap} {a : Addr}
theorem rd_of {u : HO} (ok : HOk P w H h) (e : Rd H a u) : ObjOk P w H h a u := e.ok ok
theorem key_of {ks : List Key} (ok : HOk P w H h) (e : H a = some (.tup (ks.map kV))) : (tupleKind (mixKind P w)).is h ks a := by
  obtain ⟨_, its, r, ⟨o, h1, h2, n, h3⟩, _⟩ := (show ObjOk P w H h a (.tup (ks.map kV)) from ok a _ e)
  exact ⟨o, its.toArray, n, h1, h2, h3, by simpa using items_are r⟩
theorem dt_rd {kvs : List (List Key × V)} (ok : HOk P w H h) (e : Rd H a (.dT kvs)) : kvs.length ≤ sizeLine ∧ (a == sysModules) = false ∧
    ∃ xs, KT H kvs xs ∧ h.DictOfH (tupleKind (mixKind P w)) a xs := by
  obtain ⟨z, y, xs, r, o, es, ep, h1, h2, h3, h4, h5⟩ := (show ObjOk P w H h a (.dT kvs) from rd_of ok e)
  refine ⟨z, y, xs, r, o, es, ep, h1, h2, h3, h4, fun x hx => ?_, h5⟩
  have all : ∀ {l : List (List Key × V)} {m : List (List Key × Addr × Value)}, KT H l m → ∀ x ∈ m, (tupleKind (mixKind P w)).is h x.1 x.2.1 := by
    intro l m q
    induction q with
    | nil => intro x hx; exact nomatch hx
    | @cons p q ps qs hq t ih =>
      intro x hx
      rcases List.mem_cons.mp hx with e | hx
      · subst e
        exact key_of ok (by rw [← hq.1]; exact hq.2.1)
      · exact ih x hx
  exact all r x hx
theorem dt_of {kvs : List (List Key × V)} (ok : HOk P w H h) (e : H a = some (.dT kvs)) : kvs.length ≤ sizeLine ∧ (a == sysModules) = false ∧
    ∃ xs, KT H kvs xs ∧ h.DictOfH (tupleKind (mixKind P w)) a xs := dt_rd ok (.inl e)
end
section
variable {X : Cx} {pins : List (Addr × Obj)} {σ : St} {H : Hp} {s : Shared} {a : Addr} {y v : V} {u r : Value} {o : Option V} {A : Around} {E : Value → Shared → Prop}
end
section
variable {X : Cx} {pins : List (Addr × Obj)} {σ : St} {H : Hp} {s : Shared} {a : Addr} {kvs : List (Key × V)} {k : Key} {u : Value} {A : Around} {E : Value → Shared → Prop}
end
def NoSl (i : Expr) : Prop := ∀ ov iv, subscripted i false ov iv = operate [ov, iv] (getItem ov iv)
theorem subD_of {prog : Program} {w : World} {A : Around} {E : Value → Shared → Prop} {s : Shared} {env : Env} {value slice : Expr} {pos : Pos} {T id : String} {Q : Value → Shared → Prop}
    (hl : typeLookup (.type T) "__getitem__" = pure (some (.builtin id))) (hs : NoSl slice)
    (h : wpAny (model prog w) A (eval value env) (fun o s₁ => wpAny (model prog w) A (eval slice env) (fun i s₂ => s₂.TypeIs o T ∧ wpAny (model prog w) A (getItem o i) Q E s₂) E s₁) E s) :
    wpAny (model prog w) A (eval (.Subscript value slice pos) env) Q E s := by
  refine Subscript_ (wpAny_mono h (fun o s₁ h₁ => wpAny_mono h₁ (fun i s₂ h₂ => ?_) fun _ _ x => x) fun _ _ x => x)
  obtain ⟨hT, h₂⟩ := h₂
  unfold subscriptTail
  refine wpAny_bind ?_
  rw [getitemInPython_of_ne hT.not_modules]
  refine wpAny_bind (wpAny_specialOf hT hl ?_)
  have fin : wpAny (model prog w) A (subscripted slice false o i) (fun r s₃ => wpAny (model prog w) A (letTemporaryGo value o r >>= fun _ => pure r) Q E s₃) E s₂ := by
    rw [hs o i]
    exact wpAny_operating (wpAny_mono h₂ (fun r s₃ h₃ => wpAny_bind (wpAny_letTemporaryGo (wpAny_pure h₃))) fun _ _ x => x)
  first
    | exact wpAny_pure (wpAny_bind fin)
    | exact wpAny_bind (wpAny_pure (wpAny_bind fin))
    | exact wpAny_bind fin
section
variable {X : Cx} {o i e value : Expr} {pos pos' tpos : Pos} {td ty tv : TE}
end
section
variable {X : Cx} {pos : Pos}
end
abbrev VV : List (V × V) → List (Value × Value) → Prop := Paired fun p q => RelV p.1 q.1 ∧ RelV p.2 q.2
def mergeK (kvs more : List (Key × V)) : List (Key × V) := more.foldl (fun acc kv => putK acc kv.1 kv.2) kvs
structure M1 (X : Cx) (o : Expr) (m : Str) (apos : Pos) (e : Expr) (cpos : Pos) : Prop where
  base : attributeBase o m X.env (eval o X.env) = eval o X.env
  few : ((backTo cpos (starEach [e] X.env)).all (fun x => !x.1) && (backToKw cpos (keywordEach [] X.env)).all (fun x => x.1.isSome)
    && decide (([e] : List Expr).length + ([] : List Keyword).length + (if ([] : List Keyword).isEmpty then 0 else 1) < 30)) = true
  line : (apos.endLine == cpos.line) = true
  trees : backTo cpos (starEach [e] X.env) = [(false, eval e X.env)]
structure M2 (X : Cx) (o : Expr) (m : Str) (apos : Pos) (e f : Expr) (cpos : Pos) : Prop where
  base : attributeBase o m X.env (eval o X.env) = eval o X.env
  few : ((backTo cpos (starEach [e, f] X.env)).all (fun x => !x.1) && (backToKw cpos (keywordEach [] X.env)).all (fun x => x.1.isSome)
    && decide (([e, f] : List Expr).length + ([] : List Keyword).length + (if ([] : List Keyword).isEmpty then 0 else 1) < 30)) = true
  line : (apos.endLine == cpos.line) = true
  trees : backTo cpos (starEach [e, f] X.env) = [(false, eval e X.env), (false, eval f X.env)]
section
variable {X : Cx} {pins : List (Addr × Obj)} {σ : St} {H : Hp} {s : Shared} {a : Addr} {y d : V} {u r : Value} {o : Option V} {A : Around} {E : Value → Shared → Prop}
end
section
variable {X : Cx} {o e f : Expr} {apos cpos : Pos} {td ty tx : TE}
end
section
variable {X : Cx} {pins : List (Addr × Obj)} {σ : St} {H : Hp} {s : Shared} {a : Addr} {kvs : List (Key × V)} {A : Around} {E : Value → Shared → Prop}
end
section
variable {X : Cx} {pins : List (Addr × Obj)} {σ : St} {H : Hp} {s : Shared} {a : Addr} {y : V} {u : Value} {A : Around} {E : Value → Shared → Prop}
end
end L2
namespace Att
open PySem PySem.W PySem.Calls PyProof.Rows
end Att
namespace L2
open PySem PySem.Spec PyProof.Rows
section
variable {X : Cx}
end
section
variable {κ : Type} [DecidableEq κ]
theorem dropK_pos {p : κ × V} {r : List (κ × V)} {k : κ} (e : p.1 = k) : dropK (p :: r) k = dropK r k := by
  unfold dropK
  rw [List.filter_cons, if_neg (by simp [e])]
theorem dropK_neg {p : κ × V} {r : List (κ × V)} {k : κ} (e : ¬ p.1 = k) : dropK (p :: r) k = p :: dropK r k := by
  unfold dropK
  rw [List.filter_cons, if_pos (by simp [e])]
end
end L2
set_option maxHeartbeats 4000000
namespace J
open PySem PySem.Spec PyProof.Rows L2
def TrX (h base : Heap) (e : Addr) (cls a0 fl : Value) : Prop :=
  ∃ ox us T ot ws, h.get? e = some ox ∧ (ox.cls = cls ∧ us[2]? = some Value.none) ∧ ox.data = .fields us ∧ us[1]? = some (.ref T) ∧ base.get? T = none ∧ T ≠ e ∧ h.get? T = some ot ∧ ot.data = .fields ws ∧ ws[3]? = some fl
abbrev MetX (base : Heap) (l : List Env) (e : Addr) (cls a0 fl : Value) (h : Heap) : Prop := base.StaysIn h ∧ base.get? e = none ∧ h.FunFrames base l ∧ TrX h base e cls a0 fl
def HeldX (base : Heap) (l : List Env) (e : Addr) (cls a0 : Value) (L : Addr) (h : Heap) : Prop := MetX base l e cls a0 (rawInt L) h
def FlyX (base : Heap) (l : List Env) (e : Addr) (cls a0 : Value) (h : Heap) : Prop := MetX base l e cls a0 .none h
theorem FlyX.first {base h : Heap} {l : List Env} {e : Addr} {cls a0 : Value} (x : FlyX base l e cls a0 h) : ∃ ox us, h.get? e = some ox ∧ ox.cls = cls ∧ ox.data = .fields us ∧ us[2]? = some Value.none :=
  let ⟨_, _, _, ox, us, _, _, _, g1, g2, g3, _⟩ := x; ⟨ox, us, g1, g2.1, g3, g2.2⟩
section
variable {M : Model} {A : Around} {E : Value → Shared → Prop} {s : Shared} {base : Heap} {env : Env} {outer l : List Env} {L e : Addr} {cls a0 nt : Value} {Q : Unit → Shared → Prop}
theorem entry_heap {h h1 : Heap} {S : List Addr} {ox ob : Obj} {us ws : Array Value} (so : Heap.SlotsOnly S h h1) (hS : S = l.filterMap (·.frame)) (fs : h.FunFrames base l) (g1 : h.get? e = some ox) (g3 : ox.data = .fields us) (st : base.StaysIn h) (ne : base.get? e = none) (sz : 1 < us.size) (g2 : us[2]? = some Value.none)
    (d : ob.data = .fields ws) (w3 : ws[3]? = some nt) (nf : ob.isFreed = false) :
    MetX base l e ox.cls a0 nt ((h1.push ob).update e (Obj.mapFields (·.setIfInBounds 1 (.ref h1.objs.size)))) ∧ h.UpToSlots ((h1.push ob).update e (Obj.mapFields (·.setIfInBounds 1 (.ref h1.objs.size)))) := by
  have nS : e ∉ S := fun z => by
    rw [hS] at z
    obtain ⟨_, o2, q2, d2⟩ := fs.mem z
    rw [g1] at q2
    cases q2
    exact d2 us g3
  have q1 : h1.get? e = some ox := (so.2.1 e nS).trans g1
  have lt : e ≠ h1.objs.size := Nat.ne_of_lt (Heap.lt_size q1)
  have oth : ∀ b o, b ≠ e → h1.get? b = some o → ((h1.push ob).update e (Obj.mapFields (·.setIfInBounds 1 (.ref h1.objs.size)))).get? b = some o := fun b o n q => (Heap.get?_update_other _ _ (Ne.symm n)).trans (Heap.get?_push_of_some _ q)
  have up : h.UpToSlots ((h1.push ob).update e (Obj.mapFields (·.setIfInBounds 1 (.ref h1.objs.size)))) := fun b o q n => by
    obtain ⟨sl, q2⟩ := so.2.2 b o q
    exact ⟨sl, oth b _ (fun z => by rw [z, g1] at q; cases q; exact n us g3) q2⟩
  have stay : base.StaysIn h1 := fun b o q => (so.2.1 b fun z => by
    rw [hS] at z
    rw [(fs.mem z).1] at q
    cases q).trans (st b o q)
  have fresh : base.get? h1.objs.size = none := by
    cases z : base.get? h1.objs.size with
    | none => rfl
    | some o => exact absurd (Heap.lt_size (stay _ _ z)) (Nat.lt_irrefl _)
  have d1 := Obj.data_mapFields g3 (·.setIfInBounds 1 (Value.ref h1.objs.size))
  refine ⟨⟨fun b o q => oth b o (fun z => by rw [z, ne] at q; cases q) (stay b o q), ne, fs.of_keeps fun b o q n => ?_, _, _, h1.objs.size, ob, ws, Heap.get?_update_self _ (Heap.get?_push_of_some _ q1) (Obj.isFreed_of_fields d1), ⟨Obj.cls_mapFields _ _, ?_⟩, d1, by simp [sz], fresh, Ne.symm lt, ?_, d, w3⟩, up⟩
  · obtain ⟨sl, q2⟩ := up b o q n
    exact ⟨_, q2, rfl⟩
  · rw [Array.getElem?_setIfInBounds_ne (by decide)]; exact g2
  · exact (Heap.get?_update_other _ _ lt).trans (Heap.get?_push_size _ nf)
theorem entryX {ox : Obj} {us : Array Value} {head : Value} {had : Bool} (hfr : A.frames = some (env :: outer)) (fs : s.heap.FunFrames base (env :: outer)) (hf : env.frame = some L) (g1 : s.heap.get? e = some ox) (st : base.StaysIn s.heap) (ne : base.get? e = none) (g3 : ox.data = .fields us) (sz : 1 < us.size) (g2 : us[2]? = some Value.none)
    (k : ∀ h', HeldX base (env :: outer) e ox.cls a0 L h' → s.heap.UpToSlots h' → Q () { s with heap := h' }) :
    wpAny M A (do let a ← frameOf env; let pl ← entryPlaceOf L had; let b ← EntryCells.newEntry head a .none (rawInt L) .none pl; setField (.ref e) 1 b) Q E s := by
  refine wpAny_bind (wpAny_frameOf_fun hfr fs hf fun h1 so => wpAny_bind (wpAny_entryPlaceOf fun pl pp => ?_))
  have nS : e ∉ (env :: outer).filterMap (·.frame) := fun z => by
    obtain ⟨_, o2, q2, d2⟩ := fs.mem z
    rw [g1] at q2
    cases q2
    exact d2 us g3
  have q1 : h1.get? e = some ox := (so.2.1 e nS).trans g1
  simp only [EntryCells.newEntry, newFields]
  refine wpAny_bind (wpAny_newObj_type (wpAny_setField (Heap.get?_push_of_some _ q1) g3 sz ?_) (pp.sizeOk5 _ _ _ _ _))
  obtain ⟨m, up⟩ := entry_heap (a0 := a0) (nt := rawInt L) so rfl fs g1 g3 st ne sz g2 (ob := { cls := .type "traceback", dict := none, data := .fields ([head, .ref L, .none, rawInt L, .none] ++ (if pl.isEmpty then List.replicate 6 Value.none else pl)).toArray }) rfl (by first | (simp; done) | (rcases pp with rfl | ⟨_, _, _, _, _, _, _, rfl⟩ <;> simp)) rfl
  exact k _ m up
theorem againX (hf : env.frame = some L) (x : TrX s.heap base e cls a0 (rawInt L)) (k : Q () s) : wpAny M A (noteFrame (.ref e) env) Q E s := by
  obtain ⟨ox, us, T, ot, ws, g1, g2, g3, g4, g5, g6, g7, g8, g9⟩ := x
  unfold noteFrame
  simp only [hf]
  refine wpAny_bind (wpAny_field g1 g3 g4 ?_)
  rw [if_pos (by simp)]
  refine wpAny_bind (wpAny_field g7 g8 g9 ?_)
  rw [if_pos (by simp)]
  exact wpAny_pure k
theorem landX (x : MetX base l e cls a0 nt s.heap) (k : ∀ h', FlyX base l e cls a0 h' → s.heap.UpToSlots h' → Q () { s with heap := h' }) : wpAny M A (setFlight (.ref e) none) Q E s := by
  obtain ⟨x1, x2, x3, ox, us, T, ot, ws, g1, g2, g3, g4, g5, g6, g7, g8, g9⟩ := x
  have sz : 3 < ws.size := (Array.getElem?_eq_some_iff.mp g9).1
  unfold setFlight
  refine wpAny_bind (wpAny_field g1 g3 g4 ?_)
  rw [if_pos (by simp)]
  refine wpAny_setField g7 g8 sz ?_
  generalize hu : s.heap.update T _ = h'
  have ap : ∀ b, b ≠ T → h'.get? b = s.heap.get? b := fun b n => by rw [← hu]; exact Heap.get?_update_other _ _ (Ne.symm n)
  have pl : ∀ b o, s.heap.get? b = some o → (∀ vs, o.data ≠ .fields vs) → h'.get? b = some o := fun b o q n => (ap b fun z => by rw [z, g7] at q; cases q; exact n ws g8).trans q
  refine k h' ⟨fun b o q => (ap b fun z => by rw [z, g5] at q; cases q).trans (x1 b o q), x2, x3.of_keeps fun b o q n => ⟨o, pl b o q n, rfl⟩, ox, us, T, Obj.mapFields (·.setIfInBounds 3 .none) ot, ws.setIfInBounds 3 .none, (ap e (Ne.symm g6)).trans g1, g2, g3, g4, g5, g6, ?_, Obj.data_mapFields g8 _, ?_⟩ fun b o q n => ⟨o.slots, pl b o q n⟩
  · rw [← hu]; exact Heap.get?_update_self _ g7 (Obj.isFreed_of_fields (Obj.data_mapFields g8 _))
  · simp [sz]
end
end J
namespace J
open PySem PySem.Spec PyProof.Rows L2
structure Lm where
  a : Addr
  c : Addr
  q : PySem.Str
  xs : List V
inductive Wv where
  | non
  | bl (b : Bool)
  | int (i : Int)
  | str (x : PySem.Str)
  | tup (ws : List Wv)
  | ktp (ws : List Wv)
  | ref (l : Nat)
  | ty (n : String)
  | cls (c : PySem.Str)
  | exn (c : PySem.Str)
  | fn (p : Lm) (ws : List Wv)
inductive Ob where
  | lst (ws : List Wv)
  | scr (ns : List Int)
  | dct (kvs : List (L2.Key × Wv))
  | dcT (kvs : List (List L2.Key × Wv))
  | dcF (kvs : List (List L2.Key × Wv))
abbrev Hs := List Ob
abbrev St := L2.St
abbrev Rho := List (Option Wv)
abbrev Mp := List Addr
def ExnAt (a C : Addr) : Heap → Prop := fun h => ∃ o, h.get? a = some o ∧ o.cls = .ref C ∧ ∃ vs, o.data = .fields vs
def ExH (a C : Addr) (u : Option HO) : Prop := ∃ o vs, u = some (.frz o (.ext (ExnAt a C))) ∧ o.data = .fields vs ∧ vs[2]? = some Value.none
theorem ex_at {P : Program} {w : World} {H : Hp} {h : Heap} {a C : Addr} (ok : HOk P w H h) (x : ExH a C (H a)) : ExnAt a C h := let ⟨_, _, e, _⟩ := x; (ok a _ e).2.1
def ClsAt (K : PySem.W.Frag) (c : PySem.Str) (C : Addr) : Prop := PySem.W.nsIn K mainGlobals c = some (some (.ref C))
def CodeX (c : Addr) (q : PySem.Str) : Heap → Prop := fun h => h.CodeRec (.ref c) q
def lamDefs : List PySem.Str := ["form_of", "formula_by", "turned"]
def tabFree (K : PySem.W.Frag) (q : PySem.Str) : Option Addr := match PySem.W.tabIn K q with
  | some (_, P) => if (K.lookup P).isNone = true then some P else none
  | none => none
def lamQ (q : PySem.Str) : PySem.Str := (q ++ ".<locals>.") ++ "<lambda>"
def TbOk (K : PySem.W.Frag) (H : Hp) : Prop := ∀ q P, q ∈ lamDefs → tabFree K q = some P → ∃ ps, H P = some (.tbl ps) ∧ TriplesOk ps.toList ∧ ∀ pos cv, codeAmong pos ps.toList = some cv → ∃ c, cv = .ref c ∧ H c = some (.ext (CodeX c (lamQ q)))
theorem TbOk.keep {K : PySem.W.Frag} {H H' : Hp} (t : TbOk K H) (h1 : ∀ a ps, H a = some (.tbl ps) → H' a = some (.tbl ps)) (h2 : ∀ a φ, H a = some (.ext φ) → H' a = some (.ext φ)) : TbOk K H' := fun q P hq hP => by
  obtain ⟨ps, e1, e2, e3⟩ := t q P hq hP
  refine ⟨ps, h1 _ _ e1, e2, fun pos cv e => ?_⟩
  obtain ⟨c, f1, f2⟩ := e3 pos cv e
  exact ⟨c, f1, h2 _ _ f2⟩
def KTup (K : PySem.W.Frag) (a : Addr) (xs : List V) : Prop := ∃ (o : Obj) (its : Array Value) (n : Nat), K.lookup a = some o ∧ o.cls = .type "tuple" ∧ o.data = .seq its n ∧ its.size ≤ sizeLine ∧ Vals xs its.toList
mutual
def RelW (K : PySem.W.Frag) (m : Mp) (H : Hp) : Wv → V → Prop
  | .non, v => v = .non
  | .bl b, v => v = .bl b
  | .int i, v => v = .int i
  | .str x, v => v = .str x ∧ PyData.strOk x = true
  | .tup ws, v => ∃ a xs, v = .ref a ∧ H a = some (.tup xs) ∧ RelWs K m H ws xs
  | .ktp ws, v => ∃ a xs, v = .ref a ∧ KTup K a xs ∧ RelWs K m H ws xs
  | .ref l, v => ∃ a, v = .ref a ∧ m[l]? = some a
  | .ty n, v => v = .ty n
  | .cls c, v => ∃ C, v = .ref C ∧ ClsAt K c C
  | .exn c, v => ∃ a C, v = .ref a ∧ ClsAt K c C ∧ ExH a C (H a)
  | .fn p ws, v => v = .ref p.a ∧ H p.c = some (.ext (CodeX p.c p.q)) ∧ RelWs K m H ws p.xs
def RelWs (K : PySem.W.Frag) (m : Mp) (H : Hp) : List Wv → List V → Prop
  | [], xs => xs = []
  | w :: ws, xs => ∃ x r, xs = x :: r ∧ RelW K m H w x ∧ RelWs K m H ws r
end
structure Ext (K : PySem.W.Frag) (m : Mp) (H : Hp) (m' : Mp) (H' : Hp) : Prop where
  pre : ∀ (l : Nat) (a : Addr), m[l]? = some a → m'[l]? = some a
  tup : ∀ (a : Addr) (xs : List V), H a = some (.tup xs) → H' a = some (.tup xs)
  ext : ∀ (a : Addr) (φ : Heap → Prop), H a = some (.ext φ) → H' a = some (.ext φ)
  frz : ∀ (a : Addr) (o : Obj) (u : HO), H a = some (.frz o u) → H' a = some (.frz o u)
section
variable {K : PySem.W.Frag} {m m1 m2 : Mp} {H H1 H2 : Hp}
theorem Ext.refl : Ext K m H m H := ⟨fun _ _ h => h, fun _ _ h => h, fun _ _ h => h, fun _ _ _ h => h⟩
theorem Ext.trans (a : Ext K m H m1 H1) (b : Ext K m1 H1 m2 H2) : Ext K m H m2 H2 :=
  ⟨fun l x h => b.pre l x (a.pre l x h), fun x xs h => b.tup x xs (a.tup x xs h), fun x φ h => b.ext x φ (a.ext x φ h), fun x o u h => b.frz x o u (a.frz x o u h)⟩
structure Ext0 (K : PySem.W.Frag) (m : Mp) (H : Hp) (m' : Mp) (H' : Hp) : Prop where
  pre : ∀ (l : Nat) (a : Addr), m[l]? = some a → m'[l]? = some a
  tup : ∀ (a : Addr) (xs : List V), H a = some (.tup xs) → H' a = some (.tup xs)
  ext : ∀ (a : Addr) (φ : Heap → Prop), H a = some (.ext φ) → H' a = some (.ext φ)
  fx : ∀ (a : Addr) (o : Obj) (φ : Heap → Prop), H a = some (.frz o (.ext φ)) → H' a = some (.frz o (.ext φ))
theorem Ext.z (e : Ext K m H m1 H1) : Ext0 K m H m1 H1 := ⟨e.pre, e.tup, e.ext, fun a o φ h => e.frz a o _ h⟩
mutual
theorem RelW.mono0 (e : Ext0 K m H m1 H1) : ∀ (w : Wv) (v : V), RelW K m H w v → RelW K m1 H1 w v
  | .non, v, h => by unfold RelW at h ⊢; exact h
  | .bl b, v, h => by unfold RelW at h ⊢; exact h
  | .int i, v, h => by unfold RelW at h ⊢; exact h
  | .str x, v, h => by unfold RelW at h ⊢; exact h
  | .ty n, v, h => by unfold RelW at h ⊢; exact h
  | .cls c, v, h => by unfold RelW at h ⊢; exact h
  | .exn c, v, h => by
    unfold RelW at h ⊢
    obtain ⟨a, C, e1, e2, o, vs, e3, e4⟩ := h
    exact ⟨a, C, e1, e2, o, vs, e.fx _ _ _ e3, e4⟩
  | .ref l, v, h => by
    unfold RelW at h ⊢
    obtain ⟨a, e1, e2⟩ := h
    exact ⟨a, e1, e.pre _ _ e2⟩
  | .tup ws, v, h => by
    unfold RelW at h ⊢
    obtain ⟨a, xs, e1, e2, e3⟩ := h
    exact ⟨a, xs, e1, e.tup _ _ e2, RelWs.mono0 e ws xs e3⟩
  | .ktp ws, v, h => by
    unfold RelW at h ⊢
    obtain ⟨a, xs, e1, e2, e3⟩ := h
    exact ⟨a, xs, e1, e2, RelWs.mono0 e ws xs e3⟩
  | .fn p ws, v, h => by
    unfold RelW at h ⊢
    obtain ⟨e1, e2, e3⟩ := h
    exact ⟨e1, e.ext _ _ e2, RelWs.mono0 e ws p.xs e3⟩
theorem RelWs.mono0 (e : Ext0 K m H m1 H1) : ∀ (ws : List Wv) (xs : List V), RelWs K m H ws xs → RelWs K m1 H1 ws xs
  | [], xs, h => by unfold RelWs at h ⊢; exact h
  | w :: ws, xs, h => by
    unfold RelWs at h ⊢
    obtain ⟨x, r, e1, e2, e3⟩ := h
    exact ⟨x, r, e1, RelW.mono0 e w x e2, RelWs.mono0 e ws r e3⟩
end
theorem RelW.mono (e : Ext K m H m1 H1) (w : Wv) (v : V) (h : RelW K m H w v) : RelW K m1 H1 w v := RelW.mono0 e.z w v h
theorem RelWs.mono (e : Ext K m H m1 H1) (ws : List Wv) (xs : List V) (h : RelWs K m H ws xs) : RelWs K m1 H1 ws xs := RelWs.mono0 e.z ws xs h
theorem RelWs.nil : RelWs K m H [] [] := by unfold RelWs; rfl
theorem RelWs.cons {w : Wv} {x : V} {ws : List Wv} {xs : List V} (h : RelW K m H w x) (t : RelWs K m H ws xs) : RelWs K m H (w :: ws) (x :: xs) := by unfold RelWs; exact ⟨x, xs, rfl, h, t⟩
theorem RelWs.length : ∀ {ws : List Wv} {xs : List V}, RelWs K m H ws xs → ws.length = xs.length
  | [], xs, h => by unfold RelWs at h; subst h; rfl
  | w :: ws, xs, h => by
    unfold RelWs at h
    obtain ⟨x, r, e1, _, e3⟩ := h
    subst e1
    simp [RelWs.length e3]
theorem RelWs.get : ∀ {ws : List Wv} {xs : List V} {i : Nat} {w : Wv}, RelWs K m H ws xs → ws[i]? = some w → ∃ x, xs[i]? = some x ∧ RelW K m H w x
  | [], _, i, w, _, e => by simp at e
  | a :: ws, xs, 0, w, h, e => by
    unfold RelWs at h
    obtain ⟨x, r, e1, e2, _⟩ := h
    subst e1
    simp at e
    subst e
    exact ⟨x, rfl, e2⟩
  | a :: ws, xs, i + 1, w, h, e => by
    unfold RelWs at h
    obtain ⟨x, r, e1, _, e3⟩ := h
    subst e1
    obtain ⟨y, f1, f2⟩ := RelWs.get (i := i) (w := w) e3 (by simpa using e)
    exact ⟨y, by simpa using f1, f2⟩
theorem RelWs.append : ∀ {ws zs : List Wv} {xs ys : List V}, RelWs K m H ws xs → RelWs K m H zs ys → RelWs K m H (ws ++ zs) (xs ++ ys)
  | [], _, xs, _, h, g => by unfold RelWs at h; subst h; exact g
  | w :: ws, zs, xs, ys, h, g => by
    unfold RelWs at h
    obtain ⟨x, r, e1, e2, e3⟩ := h
    subst e1
    exact RelWs.cons e2 (RelWs.append e3 g)
theorem RelWs.set : ∀ {ws : List Wv} {xs : List V} (i : Nat) {w : Wv} {x : V}, RelWs K m H ws xs → RelW K m H w x → RelWs K m H (ws.set i w) (xs.set i x)
  | [], xs, i, w, x, h, _ => by unfold RelWs at h; subst h; exact RelWs.nil
  | a :: ws, xs, 0, w, x, h, g => by
    unfold RelWs at h
    obtain ⟨y, r, e1, e2, e3⟩ := h
    subst e1
    exact RelWs.cons g e3
  | a :: ws, xs, i + 1, w, x, h, g => by
    unfold RelWs at h
    obtain ⟨y, r, e1, e2, e3⟩ := h
    subst e1
    exact RelWs.cons e2 (RelWs.set i e3 g)
theorem RelWs.drop : ∀ {ws : List Wv} {xs : List V} (i : Nat), RelWs K m H ws xs → RelWs K m H (ws.drop i) (xs.drop i)
  | ws, xs, 0, h => by simpa using h
  | [], xs, i + 1, h => by unfold RelWs at h; subst h; simpa using RelWs.nil
  | a :: ws, xs, i + 1, h => by
    unfold RelWs at h
    obtain ⟨y, r, e1, e2, e3⟩ := h
    subst e1
    simpa using RelWs.drop i e3
theorem RelWs.take : ∀ {ws : List Wv} {xs : List V} (i : Nat), RelWs K m H ws xs → RelWs K m H (ws.take i) (xs.take i)
  | ws, xs, 0, h => by simpa using RelWs.nil
  | [], xs, i + 1, h => by unfold RelWs at h; subst h; simpa using RelWs.nil
  | a :: ws, xs, i + 1, h => by
    unfold RelWs at h
    obtain ⟨y, r, e1, e2, e3⟩ := h
    subst e1
    simpa using RelWs.cons e2 (RelWs.take i e3)
theorem RelWs.ints : ∀ (ns : List Int), RelWs K m H (ns.map Wv.int) (ns.map V.int)
  | [] => RelWs.nil
  | n :: ns => RelWs.cons (by unfold RelW; rfl) (RelWs.ints ns)
end
def ScrOk (K : PySem.W.Frag) (H : Hp) (a : Addr) (ns : List Int) : Prop :=
  (∃ o, H a = some (.frz o (.lst (ns.map V.int)))) ∨
    ∃ (o : Obj) (its : Array Value) (n : Nat), K.lookup a = some o ∧ o.cls = .type "list" ∧ o.dict = none ∧ o.data = .seq its n ∧ its.size ≤ sizeLine ∧ Vals (ns.map V.int) its.toList
def RelK {κ : Type} (K : PySem.W.Frag) (m : Mp) (H : Hp) (kvs : List (κ × Wv)) (xs : List (κ × V)) : Prop := kvs.map (·.1) = xs.map (·.1) ∧ RelWs K m H (kvs.map (·.2)) (xs.map (·.2))
def ORel (K : PySem.W.Frag) (m : Mp) (H : Hp) (a : Addr) : Ob → Prop
  | .lst ws => ∃ xs, H a = some (.lst xs) ∧ RelWs K m H ws xs
  | .scr ns => ScrOk K H a ns
  | .dct kvs => ∃ xs, H a = some (.dK xs) ∧ RelK K m H kvs xs
  | .dcT kvs => ∃ xs, H a = some (.dT xs) ∧ RelK K m H kvs xs
  | .dcF kvs => ∃ o xs, H a = some (.frz o (.dT xs)) ∧ RelK K m H kvs xs
def Ob.mu : Ob → Bool
  | .scr _ => false
  | _ => true
def Ob.wm : Ob → Bool
  | .scr _ => false
  | .dcF _ => false
  | _ => true
theorem Ob.wm_mu {o : Ob} (h : o.wm = true) : o.mu = true := by cases o <;> first | rfl | cases h
structure Sim (K : PySem.W.Frag) (m : Mp) (st : Hs) (H : Hp) : Prop where
  len : m.length = st.length
  obj : ∀ (l : Nat) (a : Addr) (o : Ob), m[l]? = some a → st[l]? = some o → ORel K m H a o
  inj : ∀ (l l' : Nat) (a : Addr) (o o' : Ob), m[l]? = some a → m[l']? = some a → st[l]? = some o → st[l']? = some o' → o.mu = true → o'.mu = true → l = l'
  tab : TbOk K H
def lstOf (st : Hs) (l : Nat) : Option (List Wv) := match st[l]? with
  | some (.lst ws) => some ws
  | some (.scr ns) => some (ns.map Wv.int)
  | _ => none
section
variable {K : PySem.W.Frag} {m : Mp} {H : Hp} {st : Hs}
def Wr (u : Option HO) : Prop := u = none ∨ (∃ ys, u = some (.lst ys)) ∨ (∃ ys, u = some (.dK ys)) ∨ ∃ ys, u = some (.dT ys)
theorem Wr.ne {p a : Addr} {u : HO} (hp : Wr (H p)) (e : H a = some u) (n1 : ∀ ys, u ≠ .lst ys) (n2 : ∀ ys, u ≠ .dK ys) (n3 : ∀ ys, u ≠ .dT ys) : a ≠ p := fun z => by
  subst z
  rcases hp with q | ⟨ys, q⟩ | ⟨ys, q⟩ | ⟨ys, q⟩
  · rw [q] at e; cases e
  · rw [q] at e; cases e; exact n1 ys rfl
  · rw [q] at e; cases e; exact n2 ys rfl
  · rw [q] at e; cases e; exact n3 ys rfl
theorem tup_updW {p a : Addr} {o : HO} {xs : List V} (hp : Wr (H p)) (h : H a = some (.tup xs)) : upd H p o a = some (.tup xs) := by
  rw [upd_ne (hp.ne h (by intro ys z; cases z) (by intro ys z; cases z) (by intro ys z; cases z))]; exact h
theorem scr_updW {p a : Addr} {o : HO} {ns : List Int} (hp : Wr (H p)) (h : ScrOk K H a ns) : ScrOk K (upd H p o) a ns := by
  rcases h with ⟨o', h⟩ | h
  · exact .inl ⟨o', by rw [upd_ne (hp.ne h (by intro ys z; cases z) (by intro ys z; cases z) (by intro ys z; cases z))]; exact h⟩
  · exact .inr h
theorem Wr.of {u : Option HO} (h : u = none ∨ ∃ ys, u = some (.lst ys)) : Wr u := by
  rcases h with q | q
  · exact .inl q
  · exact .inr (.inl q)
theorem Ext.updW {p : Addr} {o : HO} (hp : Wr (H p)) : Ext K m H m (upd H p o) := ⟨fun _ _ h => h, fun _ _ h => tup_updW hp h, fun a φ h => by
  rw [upd_ne (hp.ne h (by intro ys z; cases z) (by intro ys z; cases z) (by intro ys z; cases z))]
  exact h, fun a o u h => by
  rw [upd_ne (hp.ne h (by intro ys z; cases z) (by intro ys z; cases z) (by intro ys z; cases z))]
  exact h⟩
theorem Ext.upd {p : Addr} {o : HO} (hp : H p = none ∨ ∃ ys, H p = some (.lst ys)) : Ext K m H m (upd H p o) := Ext.updW (Wr.of hp)
theorem RelK.mono {κ : Type} {m1 : Mp} {H1 : Hp} {kvs : List (κ × Wv)} {xs : List (κ × V)} (e : Ext K m H m1 H1) (h : RelK K m H kvs xs) : RelK K m1 H1 kvs xs := ⟨h.1, RelWs.mono e _ _ h.2⟩
theorem ORel.keep {m1 : Mp} {b p : Addr} {u : HO} {o : Ob} (ex : Ext K m H m1 (L2.upd H p u)) (hp : Wr (H p)) (hb : o.mu = true → b ≠ p) (h : ORel K m H b o) : ORel K m1 (L2.upd H p u) b o := by
  cases o with
  | lst ws =>
    obtain ⟨xs, e1, e2⟩ := h
    exact ⟨xs, by rw [upd_ne (hb rfl)]; exact e1, RelWs.mono ex _ _ e2⟩
  | dct kvs =>
    obtain ⟨xs, e1, e2⟩ := h
    exact ⟨xs, by rw [upd_ne (hb rfl)]; exact e1, e2.mono ex⟩
  | dcT kvs =>
    obtain ⟨xs, e1, e2⟩ := h
    exact ⟨xs, by rw [upd_ne (hb rfl)]; exact e1, e2.mono ex⟩
  | dcF kvs =>
    obtain ⟨o, xs, e1, e2⟩ := h
    exact ⟨o, xs, by rw [upd_ne (hb rfl)]; exact e1, e2.mono ex⟩
  | scr ns => exact scr_updW hp h
theorem ORel.at {b : Addr} {o : Ob} (h : ORel K m H b o) (hm : o.mu = true) : ∃ u, H b = some u := by
  cases o with
  | lst ws => obtain ⟨xs, e1, e2⟩ := h; exact ⟨_, e1⟩
  | dct kvs => obtain ⟨xs, e1, e2⟩ := h; exact ⟨_, e1⟩
  | dcT kvs => obtain ⟨xs, e1, e2⟩ := h; exact ⟨_, e1⟩
  | dcF kvs => obtain ⟨o, xs, e1, e2⟩ := h; exact ⟨_, e1⟩
  | scr ns => simp [Ob.mu] at hm
theorem ORel.wr {b : Addr} {o : Ob} (h : ORel K m H b o) (hm : o.wm = true) : Wr (H b) := by
  cases o with
  | lst ws => obtain ⟨xs, e1, e2⟩ := h; exact .inr (.inl ⟨_, e1⟩)
  | dct kvs => obtain ⟨xs, e1, e2⟩ := h; exact .inr (.inr (.inl ⟨_, e1⟩))
  | dcT kvs => obtain ⟨xs, e1, e2⟩ := h; exact .inr (.inr (.inr ⟨_, e1⟩))
  | dcF kvs => cases hm
  | scr ns => cases hm
theorem TbOk.updW {p : Addr} {o : HO} (t : TbOk K H) (hp : Wr (H p)) : TbOk K (L2.upd H p o) := t.keep
  (fun a ps h => by rw [upd_ne (hp.ne h (by intro ys z; cases z) (by intro ys z; cases z) (by intro ys z; cases z))]; exact h)
  fun a φ h => by rw [upd_ne (hp.ne h (by intro ys z; cases z) (by intro ys z; cases z) (by intro ys z; cases z))]; exact h
theorem Ext.more {p : Addr} : Ext K m H (m ++ [p]) H := ⟨fun l a h => by
  rw [List.getElem?_append_left]
  · exact h
  · exact (List.getElem?_eq_some_iff.mp h).1, fun _ _ h => h, fun _ _ h => h, fun _ _ _ h => h⟩
theorem Sim.fresh {p : Addr} {o : HO} (S : Sim K m st H) (hp : H p = none) : Sim K m st (upd H p o) :=
  ⟨S.len, fun l a ob h1 h2 => by
    have q := S.obj l a ob h1 h2
    refine q.keep (Ext.updW (.inl hp)) (.inl hp) fun hm => ?_
    obtain ⟨u, e⟩ := q.at hm
    exact ne_of_none e hp, S.inj, S.tab.updW (.inl hp)⟩
theorem Sim.lstAt {l : Nat} {a : Addr} {ws : List Wv} (S : Sim K m st H) (h1 : m[l]? = some a) (h2 : st[l]? = some (.lst ws)) : ∃ xs, H a = some (.lst xs) ∧ RelWs K m H ws xs := S.obj l a _ h1 h2
theorem Sim.has {l : Nat} {o : Ob} (S : Sim K m st H) (h : st[l]? = some o) : ∃ a, m[l]? = some a := by
  have e : l < st.length := (List.getElem?_eq_some_iff.mp h).1
  have e' : l < m.length := by rw [S.len]; exact e
  exact ⟨m[l], List.getElem?_eq_getElem e'⟩
theorem Sim.read {l : Nat} {a : Addr} {ws : List Wv} (S : Sim K m st H) (h1 : m[l]? = some a) (h2 : lstOf st l = some ws) : ∃ xs, SqL K H a xs ∧ RelWs K m H ws xs := by
  unfold lstOf at h2
  cases e : st[l]? with
  | none => rw [e] at h2; cases h2
  | some o =>
    rw [e] at h2
    cases o with
    | lst zs =>
      cases h2
      obtain ⟨xs, e1, e2⟩ := S.lstAt h1 e
      exact ⟨xs, SqL.of e1, e2⟩
    | dct kvs => cases h2
    | dcT kvs => cases h2
    | dcF kvs => cases h2
    | scr ns =>
      cases h2
      have q : ScrOk K H a ns := S.obj l a _ h1 e
      refine ⟨ns.map V.int, ?_, RelWs.ints ns⟩
      rcases q with ⟨o, q⟩ | q
      · exact .inl (.inr ⟨o, q⟩)
      · exact .inr q
theorem Sim.allocO {p : Addr} {ob : Ob} {u : HO} (S : Sim K m st H) (hp : H p = none) (r : ORel K (m ++ [p]) (L2.upd H p u) p ob) : Sim K (m ++ [p]) (st ++ [ob]) (L2.upd H p u) := by
  have ex : Ext K m H (m ++ [p]) (L2.upd H p u) := Ext.more.trans (Ext.updW (.inl hp))
  have notold : ∀ (l : Nat) (o : Ob), m[l]? = some p → st[l]? = some o → o.mu = true → False := fun l o h1 h2 hm => by
    obtain ⟨v, e⟩ := (S.obj l p o h1 h2).at hm
    rw [hp] at e; cases e
  have old : ∀ (l : Nat) (a : Addr), (m ++ [p])[l]? = some a → (l < m.length ∧ m[l]? = some a) ∨ (l = m.length ∧ a = p) := fun l a h => by
    by_cases hl : l < m.length
    · exact .inl ⟨hl, by rw [List.getElem?_append_left hl] at h; exact h⟩
    · have h' := h
      rw [List.getElem?_append_right (by omega)] at h'
      have z := List.getElem?_eq_some_iff.mp h'
      have z1 : l - m.length < 1 := by simpa using z.1
      refine .inr ⟨by omega, ?_⟩
      have e0 : l - m.length = 0 := by omega
      rw [e0] at h'
      simpa using h'.symm
  have olds : ∀ (l : Nat) (o : Ob), l < m.length → (st ++ [ob])[l]? = some o → st[l]? = some o := fun l o hl h => by
    rw [List.getElem?_append_left (by rw [← S.len]; exact hl)] at h
    exact h
  refine ⟨by simp [S.len], fun l a o h1 h2 => ?_, fun l l' a zs zs' h1 h1' h2 h2' k k' => ?_, S.tab.updW (.inl hp)⟩
  · rcases old l a h1 with ⟨hl, h1⟩ | ⟨hl, rfl⟩
    · have q := S.obj l a o h1 (olds l o hl h2)
      refine q.keep ex (.inl hp) fun hm => ?_
      obtain ⟨v, e⟩ := q.at hm
      exact ne_of_none e hp
    · have e : o = ob := by
        rw [hl, S.len, List.getElem?_append_right (Nat.le_refl _), Nat.sub_self] at h2
        simpa using h2.symm
      subst e
      exact r
  · rcases old l a h1 with ⟨hl, g1⟩ | ⟨hl, ea⟩
    · rcases old l' a h1' with ⟨hl', g1'⟩ | ⟨hl', ea'⟩
      · exact S.inj l l' a zs zs' g1 g1' (olds l _ hl h2) (olds l' _ hl' h2') k k'
      · rw [ea'] at g1
        exact (notold l zs g1 (olds l _ hl h2) k).elim
    · rcases old l' a h1' with ⟨hl', g1'⟩ | ⟨hl', _⟩
      · rw [ea] at g1'
        exact (notold l' zs' g1' (olds l' _ hl' h2') k').elim
      · omega
theorem Sim.alloc {p : Addr} {ws : List Wv} {xs : List V} (S : Sim K m st H) (hp : H p = none) (r : RelWs K m H ws xs) : Sim K (m ++ [p]) (st ++ [.lst ws]) (upd H p (.lst xs)) :=
  S.allocO hp ⟨xs, upd_same, RelWs.mono (Ext.more.trans (Ext.updW (.inl hp))) _ _ r⟩
theorem Sim.writeO {l : Nat} {a : Addr} {o0 ob : Ob} {u : HO} (S : Sim K m st H) (h1 : m[l]? = some a) (h2 : st[l]? = some o0) (hw : o0.wm = true) (r : ORel K m (L2.upd H a u) a ob) : Sim K m (st.set l ob) (L2.upd H a u) := by
  have wr : Wr (H a) := (S.obj l a o0 h1 h2).wr hw
  have hm := Ob.wm_mu hw
  have ex : Ext K m H m (L2.upd H a u) := Ext.updW wr
  have hl : l < st.length := (List.getElem?_eq_some_iff.mp h2).1
  have at' : ∀ (k : Nat) (o : Ob), (st.set l ob)[k]? = some o → (k = l ∧ o = ob) ∨ (k ≠ l ∧ st[k]? = some o) := fun k o h => by
    by_cases e : l = k
    · subst e
      rw [List.getElem?_set_self hl] at h
      exact .inl ⟨rfl, (Option.some.inj h).symm⟩
    · rw [List.getElem?_set_ne e] at h
      exact .inr ⟨fun z => e z.symm, h⟩
  refine ⟨by simp [S.len], fun k b o g1 g2 => ?_, fun k k' b us us' g1 g1' g2 g2' q q' => ?_, S.tab.updW wr⟩
  · rcases at' k o g2 with ⟨rfl, rfl⟩ | ⟨hk, g2⟩
    · rw [h1] at g1; cases g1
      exact r
    · have q := S.obj k b o g1 g2
      refine q.keep ex wr fun ho z => ?_
      subst z
      exact hk (S.inj k l b o o0 g1 h1 g2 h2 ho hm)
  · have back : ∀ (k : Nat) (o : Ob), (st.set l ob)[k]? = some o → o.mu = true → ∃ o', st[k]? = some o' ∧ o'.mu = true := fun k o h ho => by
      rcases at' k _ h with ⟨rfl, _⟩ | ⟨_, h⟩
      · exact ⟨o0, h2, hm⟩
      · exact ⟨o, h, ho⟩
    obtain ⟨u1, e1, f1⟩ := back k us g2 q
    obtain ⟨u2, e2, f2⟩ := back k' us' g2' q'
    exact S.inj k k' b u1 u2 g1 g1' e1 e2 f1 f2
theorem Sim.write {l : Nat} {a : Addr} {ws zs : List Wv} {xs : List V} (S : Sim K m st H) (h1 : m[l]? = some a) (h2 : st[l]? = some (.lst ws)) (r : RelWs K m H zs xs) : Sim K m (st.set l (.lst zs)) (upd H a (.lst xs)) :=
  S.writeO h1 h2 rfl ⟨xs, upd_same, RelWs.mono (Ext.updW ((S.obj l a _ h1 h2).wr rfl)) _ _ r⟩
end
structure RelEnv (K : PySem.W.Frag) (m : Mp) (H : Hp) (ρ : Rho) (σ : St) : Prop where
  len : ρ.length = σ.length
  get : ∀ (i : Nat) (w : Wv), ρ[i]? = some (some w) → ∃ v, σ[i]? = some (some v) ∧ RelW K m H w v
section
variable {K : PySem.W.Frag} {m m1 : Mp} {H H1 : Hp} {ρ : Rho} {σ : St}
theorem RelEnv.mono (R : RelEnv K m H ρ σ) (e : Ext K m H m1 H1) : RelEnv K m1 H1 ρ σ := ⟨R.len, fun i w h => let ⟨v, h1, h2⟩ := R.get i w h; ⟨v, h1, RelW.mono e _ _ h2⟩⟩
theorem RelEnv.set (R : RelEnv K m H ρ σ) (i : Nat) {w : Wv} {v : V} (h : RelW K m H w v) : RelEnv K m H (ρ.set i (some w)) (σ.set i (some v)) := by
  refine ⟨by simp [R.len], fun j u e => ?_⟩
  by_cases hj : i = j
  · subst hj
    have hi : i < ρ.length := by
      have := (List.getElem?_eq_some_iff.mp e).1
      simpa using this
    rw [List.getElem?_set_self hi] at e
    have e' : w = u := Option.some.inj (Option.some.inj e)
    subst e'
    exact ⟨v, by rw [List.getElem?_set_self (by rw [← R.len]; exact hi)], h⟩
  · rw [List.getElem?_set_ne hj] at e
    obtain ⟨x, h1, h2⟩ := R.get j u e
    exact ⟨x, by rw [List.getElem?_set_ne hj]; exact h1, h2⟩
end
inductive Re (α : Type) where
  | ok (a : α) (st : Hs)
  | err (c : PySem.Str) (st : Hs)
  | bad
def Re.bind {α β : Type} (r : Re α) (f : α → Hs → Re β) : Re β := match r with
  | .ok a st => f a st
  | .err c st => .err c st
  | .bad => .bad
inductive Rs where
  | nx (ρ : Rho) (st : Hs)
  | rt (w : Wv) (st : Hs)
  | bk (ρ : Rho) (st : Hs)
  | ct (ρ : Rho) (st : Hs)
  | err (c : PySem.Str) (ρ : Rho) (st : Hs)
  | bad
def Re.thn {α : Type} (ρ : Rho) (r : Re α) (f : α → Hs → Rs) : Rs := match r with
  | .ok a st => f a st
  | .err c st => .err c ρ st
  | .bad => .bad
def Re.nox {α : Type} (r : Re α) : Re α := match r with
  | .ok a st => .ok a st
  | _ => .bad
abbrev GE := Rho → Hs → Re Wv
abbrev GT := Rho → Hs → Re Bool
abbrev GA := Rho → Hs → Re (List Wv)
abbrev GS := Rho → Hs → Rs
def Flown (P : Program) (w : World) (outer : List Env) (H : Hp) (s : Shared) (H' : Hp) (cls : Value) (e : Value) (s' : Shared) : Prop :=
  ∃ (a : Addr) (a0 : Value) (B : Heap), e = .ref a ∧ s'.os = s.os ∧ AllBare s'.gens ∧ Un (frs outer) [] H H' s.heap s'.heap ∧ HOk P w H' B ∧ FlyX B outer a cls a0 s'.heap ∧
    (∀ b o, s.heap.get? b = some o → b ∉ frs outer → ∃ o', B.get? b = some o' ∧ (H b = none → o' = o))
def FlownA (X : Cx) (pins : List (Addr × Obj)) (H : Hp) (s : Shared) (H' : Hp) (cls : Value) (e : Value) (s' : Shared) : Prop :=
  ∃ (a : Addr) (a0 nt : Value) (B : Heap) (ch : List Addr), e = .ref a ∧ s'.os = s.os ∧ AllBare s'.gens ∧ (∀ b ∈ ch, FpOk X pins H b) ∧ Un (frs X.stack) ch H H' s.heap s'.heap ∧ HOk X.prog X.w H' B ∧
    (B.StaysIn s'.heap ∧ B.get? a = none ∧ s'.heap.FunFrames B X.stack ∧ TrX s'.heap B a cls a0 nt) ∧
    (∀ b o, s.heap.get? b = some o → b ∉ frs X.stack → b ∉ ch → ∃ o', B.get? b = some o' ∧ (H b = none → o' = o))
theorem Flown.any {X : Cx} {pins : List (Addr × Obj)} {H H' : Hp} {s s' : Shared} {cls e : Value} (f : Flown X.prog X.w X.stack H s H' cls e s') : FlownA X pins H s H' cls e s' :=
  let ⟨a, a0, B, e1, e2, e3, un, hok, fl, cov⟩ := f
  ⟨a, a0, .none, B, [], e1, e2, e3, (fun b z => by cases z), un, hok, fl, fun b o q hb _ => cov b o q hb⟩
def Raised (X : Cx) (σ : St) (H' : Hp) (c : PySem.Str) (e : Value) (s' : Shared) : Prop :=
  ∃ (C : Addr) (pins : List (Addr × Obj)) (Hc : Hp) (sc : Shared), ClsAt X.K c C ∧ Inv X pins σ Hc sc ∧
    (FlownA X pins Hc sc H' (.ref C) e s' ∨ (H' = Hc ∧ ∃ a args, e = .ref a ∧ s'.os = sc.os ∧ s'.gens = sc.gens ∧ Heap.MadeExcOf sc.heap s'.heap a (.ref C) args))
def XOk (X : Cx) (σ : St) (m : Mp) (H : Hp) (c : PySem.Str) (st : Hs) : Prop :=
  ∀ (m' : Mp) (H' : Hp) (e : Value) (s' : Shared), Ext X.K m H m' H' → Sim X.K m' st H' → Raised X σ H' c e s' → X.xe e s'
theorem XOk.mono {X : Cx} {σ : St} {m m1 : Mp} {H H1 : Hp} {c : PySem.Str} {st : Hs} (h : XOk X σ m H c st) (e : Ext X.K m H m1 H1) : XOk X σ m1 H1 c st :=
  fun m' H' x s' e' S r => h m' H' x s' (e.trans e') S r
def PostG {α : Type} (X : Cx) (σ : St) (m : Mp) (H : Hp) (r : Re α) (ok : α → Hs → Prop) : Prop := match r with
  | .ok a st => ok a st
  | .err c st => XOk X σ m H c st
  | .bad => False
def PostN {α : Type} (r : Re α) (ok : α → Hs → Prop) : Prop := match r with
  | .ok a st => ok a st
  | _ => False
theorem PostG.nox {α : Type} {X : Cx} {σ : St} {m : Mp} {H : Hp} {r : Re α} {ok : α → Hs → Prop} (h : PostG X σ m H r.nox ok) : PostN r ok := by
  cases r with
  | ok a st => exact h
  | err c st => exact h
  | bad => exact h
theorem PostG.bind {α β : Type} {X : Cx} {σ : St} {m : Mp} {H : Hp} {r : Re α} {f : α → Hs → Re β} {ok : β → Hs → Prop} (h : PostG X σ m H (r.bind f) ok) : PostG X σ m H r (fun a st => PostG X σ m H (f a st) ok) := by
  cases r with
  | ok a st => exact h
  | err c st => exact h
  | bad => exact h
theorem PostG.imp {α : Type} {X : Cx} {σ : St} {m m1 : Mp} {H H1 : Hp} {r : Re α} {ok ok' : α → Hs → Prop} (h : PostG X σ m H r ok) (e : Ext X.K m H m1 H1) (k : ∀ a st, ok a st → ok' a st) : PostG X σ m1 H1 r ok' := by
  cases r with
  | ok a st => exact k a st h
  | err c st => exact XOk.mono (c := c) (st := st) h e
  | bad => exact h
theorem PostN.imp {α : Type} {r : Re α} {ok ok' : α → Hs → Prop} (h : PostN r ok) (k : ∀ a st, ok a st → ok' a st) : PostN r ok' := by
  cases r with
  | ok a st => exact k a st h
  | err c st => exact h
  | bad => exact h
def okE (K : PySem.W.Frag) (m : Mp) (H : Hp) (Q : VK) (w : Wv) (st : Hs) : Prop := ∀ (v : V) (m' : Mp) (H' : Hp), Ext K m H m' H' → Sim K m' st H' → RelW K m' H' w v → Q v H'
def okT (K : PySem.W.Frag) (m : Mp) (H : Hp) (Q : Bool → Hp → Prop) (b : Bool) (st : Hs) : Prop := ∀ (m' : Mp) (H' : Hp), Ext K m H m' H' → Sim K m' st H' → Q b H'
def okA (K : PySem.W.Frag) (m : Mp) (H : Hp) (Q : List V → Hp → Prop) (ws : List Wv) (st : Hs) : Prop := ∀ (vs : List V) (m' : Mp) (H' : Hp), Ext K m H m' H' → Sim K m' st H' → RelWs K m' H' ws vs → Q vs H'
abbrev PostE (X : Cx) (σ : St) (m : Mp) (H : Hp) (r : Re Wv) (Q : VK) : Prop := PostG X σ m H r (okE X.K m H Q)
abbrev PostT (X : Cx) (σ : St) (m : Mp) (H : Hp) (r : Re Bool) (Q : Bool → Hp → Prop) : Prop := PostG X σ m H r (okT X.K m H Q)
abbrev PostA (X : Cx) (σ : St) (m : Mp) (H : Hp) (r : Re (List Wv)) (Q : List V → Hp → Prop) : Prop := PostG X σ m H r (okA X.K m H Q)
theorem PostE.shift {X : Cx} {σ : St} {m m1 : Mp} {H H1 : Hp} {r : Re Wv} {Q : VK} (h : PostE X σ m H r Q) (e : Ext X.K m H m1 H1) : PostE X σ m1 H1 r Q := h.imp e fun _ _ k v m' H' e' => k v m' H' (e.trans e')
theorem PostT.shift {X : Cx} {σ : St} {m m1 : Mp} {H H1 : Hp} {r : Re Bool} {Q : Bool → Hp → Prop} (h : PostT X σ m H r Q) (e : Ext X.K m H m1 H1) : PostT X σ m1 H1 r Q := h.imp e fun _ _ k m' H' e' => k m' H' (e.trans e')
theorem PostA.shift {X : Cx} {σ : St} {m m1 : Mp} {H H1 : Hp} {r : Re (List Wv)} {Q : List V → Hp → Prop} (h : PostA X σ m H r Q) (e : Ext X.K m H m1 H1) : PostA X σ m1 H1 r Q := h.imp e fun _ _ k v m' H' e' => k v m' H' (e.trans e')
abbrev PostO (K : PySem.W.Frag) (m : Mp) (H : Hp) (r : Re Wv) (Q : VK) : Prop := PostN r (okE K m H Q)
theorem PostO.shift {K : PySem.W.Frag} {m m1 : Mp} {H H1 : Hp} {r : Re Wv} {Q : VK} (h : PostO K m H r Q) (e : Ext K m H m1 H1) : PostO K m1 H1 r Q := PostN.imp h fun _ _ k v m' H' e' => k v m' H' (e.trans e')
def PostS (X : Cx) (m : Mp) (H : Hp) (r : Rs) (D : Ends) : Prop := match r with
  | .nx ρ st => ∀ (σ : St) (m' : Mp) (H' : Hp), Ext X.K m H m' H' → Sim X.K m' st H' → RelEnv X.K m' H' ρ σ → D.nx σ H'
  | .rt w st => ∀ (v : V) (m' : Mp) (H' : Hp), Ext X.K m H m' H' → Sim X.K m' st H' → RelW X.K m' H' w v → D.rt v H'
  | .bk ρ st => ∀ (σ : St) (m' : Mp) (H' : Hp), Ext X.K m H m' H' → Sim X.K m' st H' → RelEnv X.K m' H' ρ σ → D.bk σ H'
  | .ct ρ st => ∀ (σ : St) (m' : Mp) (H' : Hp), Ext X.K m H m' H' → Sim X.K m' st H' → RelEnv X.K m' H' ρ σ → D.ct σ H'
  | .err c ρ st => ∀ (σ : St) (m' : Mp) (H' : Hp) (e : Value) (s' : Shared), Ext X.K m H m' H' → Sim X.K m' st H' → RelEnv X.K m' H' ρ σ → Raised X σ H' c e s' → X.xe e s'
  | .bad => False
theorem PostS.shift {X : Cx} {m m1 : Mp} {H H1 : Hp} {r : Rs} {D : Ends} (h : PostS X m H r D) (e : Ext X.K m H m1 H1) : PostS X m1 H1 r D := by
  cases r with
  | nx ρ st => exact fun σ m' H' e' => h σ m' H' (e.trans e')
  | rt w st => exact fun v m' H' e' => h v m' H' (e.trans e')
  | bk ρ st => exact fun σ m' H' e' => h σ m' H' (e.trans e')
  | ct ρ st => exact fun σ m' H' e' => h σ m' H' (e.trans e')
  | err c ρ st => exact fun σ m' H' x s' e' => h σ m' H' x s' (e.trans e')
  | bad => exact h
theorem PostS.of_thn {α : Type} {X : Cx} {m : Mp} {H : Hp} {ρ : Rho} {σ : St} {r : Re α} {f : α → Hs → Rs} {D : Ends} (R : RelEnv X.K m H ρ σ) (h : PostS X m H (r.thn ρ f) D) : PostG X σ m H r (fun a st => PostS X m H (f a st) D) := by
  cases r with
  | ok a st => exact h
  | err c st => exact fun m' H' x s' e' S r => h σ m' H' x s' e' S (R.mono e') r
  | bad => exact h
def SE (X : Cx) (e : Expr) : TE := fun σ H Q => ∀ (pins : List (Addr × Obj)) (s : Shared), Inv X pins σ H s → wpAny (model X.prog X.w) X.A (eval e X.env) (EP X pins σ Q) X.xe s
def ST (X : Cx) (e : Expr) : TT := fun σ H Q => ∀ (pins : List (Addr × Obj)) (s : Shared), Inv X pins σ H s → wpAny (model X.prog X.w) X.A (isTrue e X.env (eval e X.env)) (TP X pins σ Q) X.xe s
def SA (X : Cx) (es : List Expr) : TA := fun σ H Q => ∀ (pos : Pos) (pins : List (Addr × Obj)) (s : Shared), Inv X pins σ H s → wpAny (model X.prog X.w) X.A (spliced (backTo pos (starEach es X.env))) (AP X pins σ Q) X.xe s
def SS (X : Cx) (st : Stmt) : TS := fun D σ H => ∀ (pins : List (Addr × Obj)) (s : Shared), Inv X pins σ H s → wpAny (model X.prog X.w) X.A (exec st X.env) (SP X pins D) X.xe s
def SSs (X : Cx) (st : List Stmt) : TS := fun D σ H => ∀ (pins : List (Addr × Obj)) (s : Shared), Inv X pins σ H s → wpAny (model X.prog X.w) X.A (execs st X.env) (SP X pins D) X.xe s
section
variable {X : Cx}
theorem pe_SE {e : Expr} : PE X e (SE X e) := fun pins s _ _ _ I h => h pins s I
theorem pt_ST {e : Expr} : PT X e (ST X e) := fun pins s _ _ _ I h => h pins s I
theorem pa_SA {es : List Expr} : PA X es (SA X es) := fun pos pins s _ _ _ I h => h pos pins s I
theorem ps_SS {st : Stmt} : PS X st (SS X st) := fun pins s _ _ _ I h => h pins s I
theorem pss_SSs {st : List Stmt} : PSs X st (SSs X st) := fun pins s _ _ _ I h => h pins s I
end
def JE (X : Cx) (e : Expr) (g : GE) : Prop := ∀ (ρ : Rho) (st : Hs) (σ : St) (H : Hp) (m : Mp) (Q : VK), Sim X.K m st H → RelEnv X.K m H ρ σ → PostE X σ m H (g ρ st) Q → SE X e σ H Q
def JT (X : Cx) (e : Expr) (g : GT) : Prop := ∀ (ρ : Rho) (st : Hs) (σ : St) (H : Hp) (m : Mp) (Q : Bool → Hp → Prop), Sim X.K m st H → RelEnv X.K m H ρ σ → PostT X σ m H (g ρ st) Q → ST X e σ H Q
def JA (X : Cx) (es : List Expr) (g : GA) : Prop := ∀ (ρ : Rho) (st : Hs) (σ : St) (H : Hp) (m : Mp) (Q : List V → Hp → Prop), Sim X.K m st H → RelEnv X.K m H ρ σ → PostA X σ m H (g ρ st) Q → SA X es σ H Q
def JS (X : Cx) (s : Stmt) (g : GS) : Prop := ∀ (ρ : Rho) (st : Hs) (σ : St) (H : Hp) (m : Mp) (D : Ends), Sim X.K m st H → RelEnv X.K m H ρ σ → PostS X m H (g ρ st) D → SS X s D σ H
def JSs (X : Cx) (s : List Stmt) (g : GS) : Prop := ∀ (ρ : Rho) (st : Hs) (σ : St) (H : Hp) (m : Mp) (D : Ends), Sim X.K m st H → RelEnv X.K m H ρ σ → PostS X m H (g ρ st) D → SSs X s D σ H
section
variable {X : Cx}
theorem JE.of {e : Expr} {g : GE} {t : TE} (h : PE X e t) (k : ∀ (ρ : Rho) (st : Hs) (σ : St) (H : Hp) (m : Mp) (Q : VK), Sim X.K m st H → RelEnv X.K m H ρ σ → PostE X σ m H (g ρ st) Q → t σ H Q) : JE X e g :=
  fun ρ st σ H m Q S R p pins s I => h pins s σ H Q I (k ρ st σ H m Q S R p)
theorem JT.of {e : Expr} {g : GT} {t : TT} (h : PT X e t) (k : ∀ (ρ : Rho) (st : Hs) (σ : St) (H : Hp) (m : Mp) (Q : Bool → Hp → Prop), Sim X.K m st H → RelEnv X.K m H ρ σ → PostT X σ m H (g ρ st) Q → t σ H Q) : JT X e g :=
  fun ρ st σ H m Q S R p pins s I => h pins s σ H Q I (k ρ st σ H m Q S R p)
theorem JA.of {es : List Expr} {g : GA} {t : TA} (h : PA X es t) (k : ∀ (ρ : Rho) (st : Hs) (σ : St) (H : Hp) (m : Mp) (Q : List V → Hp → Prop), Sim X.K m st H → RelEnv X.K m H ρ σ → PostA X σ m H (g ρ st) Q → t σ H Q) : JA X es g :=
  fun ρ st σ H m Q S R p pos pins s I => h pos pins s σ H Q I (k ρ st σ H m Q S R p)
theorem JS.of {e : Stmt} {g : GS} {t : TS} (h : PS X e t) (k : ∀ (ρ : Rho) (st : Hs) (σ : St) (H : Hp) (m : Mp) (D : Ends), Sim X.K m st H → RelEnv X.K m H ρ σ → PostS X m H (g ρ st) D → t D σ H) : JS X e g :=
  fun ρ st σ H m D S R p pins s I => h pins s σ H D I (k ρ st σ H m D S R p)
theorem JSs.of {e : List Stmt} {g : GS} {t : TS} (h : PSs X e t) (k : ∀ (ρ : Rho) (st : Hs) (σ : St) (H : Hp) (m : Mp) (D : Ends), Sim X.K m st H → RelEnv X.K m H ρ σ → PostS X m H (g ρ st) D → t D σ H) : JSs X e g :=
  fun ρ st σ H m D S R p pins s I => h pins s σ H D I (k ρ st σ H m D S R p)
theorem JE.go {e : Expr} {g : GE} {ρ : Rho} {st : Hs} {σ : St} {H : Hp} {m : Mp} {T : VK} {ok : Wv → Hs → Prop} (h : JE X e g) (S : Sim X.K m st H) (R : RelEnv X.K m H ρ σ) (p : PostG X σ m H (g ρ st) ok)
    (k : ∀ (w : Wv) (st1 : Hs) (v : V) (m1 : Mp) (H1 : Hp), ok w st1 → Ext X.K m H m1 H1 → Sim X.K m1 st1 H1 → RelW X.K m1 H1 w v → T v H1) : SE X e σ H T :=
  h ρ st σ H m T S R (p.imp Ext.refl fun w st1 q v m1 H1 e1 s1 r1 => k w st1 v m1 H1 q e1 s1 r1)
theorem JT.go {e : Expr} {g : GT} {ρ : Rho} {st : Hs} {σ : St} {H : Hp} {m : Mp} {T : Bool → Hp → Prop} {ok : Bool → Hs → Prop} (h : JT X e g) (S : Sim X.K m st H) (R : RelEnv X.K m H ρ σ) (p : PostG X σ m H (g ρ st) ok)
    (k : ∀ (b : Bool) (st1 : Hs) (m1 : Mp) (H1 : Hp), ok b st1 → Ext X.K m H m1 H1 → Sim X.K m1 st1 H1 → T b H1) : ST X e σ H T :=
  h ρ st σ H m T S R (p.imp Ext.refl fun b st1 q m1 H1 e1 s1 => k b st1 m1 H1 q e1 s1)
theorem JA.go {es : List Expr} {g : GA} {ρ : Rho} {st : Hs} {σ : St} {H : Hp} {m : Mp} {T : List V → Hp → Prop} {ok : List Wv → Hs → Prop} (h : JA X es g) (S : Sim X.K m st H) (R : RelEnv X.K m H ρ σ) (p : PostG X σ m H (g ρ st) ok)
    (k : ∀ (ws : List Wv) (st1 : Hs) (vs : List V) (m1 : Mp) (H1 : Hp), ok ws st1 → Ext X.K m H m1 H1 → Sim X.K m1 st1 H1 → RelWs X.K m1 H1 ws vs → T vs H1) : SA X es σ H T :=
  h ρ st σ H m T S R (p.imp Ext.refl fun w st1 q v m1 H1 e1 s1 r1 => k w st1 v m1 H1 q e1 s1 r1)
end
end J
namespace J
open PySem PySem.Spec PyProof.Rows L2
def lim : Nat := 1000000
theorem lim_le {n : Nat} (h : n ≤ lim) : n ≤ sizeLine := Nat.le_trans h (by unfold lim; rw [sizeLine_eq]; decide)
theorem lim_lt {n : Nat} (h : n < lim) : n < sizeLine := Nat.lt_of_lt_of_le h (by unfold lim; rw [sizeLine_eq]; decide)
def gVar (i : Nat) : GE := fun ρ st => match ρ[i]? with
  | some (some w) => .ok w st
  | _ => .bad
def gC (w : Wv) : GE := fun _ st => .ok w st
section
variable {X : Cx}
theorem je_var (i : Nat) {x : Str} {pos : Pos} (hN : X.N[i]? = some x := by rfl) (hv : Vis X.env.scope x := by first | exact Or.inl rfl | exact Or.inr (Or.inl rfl) | exact Or.inr (Or.inr rfl)) (hd : (x == ("__debug__" : Str)) = false := by decide)
    (hcd : (x == ("__classdict__" : Str)) = false := by decide) : JE X (.Name x pos) (gVar i) := JE.of (pe_var hN hv hd hcd) fun ρ st σ H m Q S R p => by
  unfold gVar at p
  cases e : ρ[i]? with
  | none => rw [e] at p; exact False.elim p
  | some o =>
    cases o with
    | none => rw [e] at p; exact False.elim p
    | some w =>
      rw [e] at p
      obtain ⟨v, h1, h2⟩ := R.get i w e
      exact ⟨v, h1, p v m H Ext.refl S h2⟩
theorem je_int {i : Int} {j pos} : JE X (.Constant (.int i) j pos) (gC (.int i)) := JE.of pe_int fun ρ st σ H m Q S R p => p (.int i) m H Ext.refl S (by unfold RelW; rfl)
theorem je_bl {b : Bool} {j pos} : JE X (.Constant (.bool b) j pos) (gC (.bl b)) := JE.of pe_bl fun ρ st σ H m Q S R p => p (.bl b) m H Ext.refl S (by unfold RelW; rfl)
theorem je_non {j pos} : JE X (.Constant .none j pos) (gC .non) := JE.of pe_non fun ρ st σ H m Q S R p => p .non m H Ext.refl S (by unfold RelW; rfl)
theorem je_str {x : PySem.Str} {j pos} (hx : PyData.strOk x = true := by decide +kernel) : JE X (.Constant (.str x) j pos) (gC (.str x)) := JE.of pe_str fun ρ st σ H m Q S R p => p (.str x) m H Ext.refl S (by unfold RelW; exact ⟨rfl, hx⟩)
theorem je_globI {x : Str} {i : Int} {t : Tok} {pos : Pos} (hg : Gl X x) (hm : X.mg x = some (.int i t)) (hd : (x == ("__debug__" : Str)) = false := by decide) : JE X (.Name x pos) (gC (.int i)) :=
  JE.of (pe_glob (v := .int i) hg hm ⟨t, rfl⟩ hd) fun ρ st σ H m Q S R p => p (.int i) m H Ext.refl S (by unfold RelW; rfl)
theorem je_globS {x y : Str} {t : Tok} {pos : Pos} (hg : Gl X x) (hm : X.mg x = some (.str y t)) (hy : PyData.strOk y = true := by decide +kernel) (hd : (x == ("__debug__" : Str)) = false := by decide) : JE X (.Name x pos) (gC (.str y)) :=
  JE.of (pe_glob (v := .str y) hg hm ⟨t, rfl⟩ hd) fun ρ st σ H m Q S R p => p (.str y) m H Ext.refl S (by unfold RelW; exact ⟨rfl, hy⟩)
theorem je_ty {x : Str} {T : String} {pos : Pos} (hg : Gl X x) (hm : X.mg x = none) (hv : bootBuiltins x = some (.type T)) (hn : x ≠ "__name__" := by decide) (hd : (x == ("__debug__" : Str)) = false := by decide) : JE X (.Name x pos) (gC (.ty T)) :=
  JE.of (pe_bltn (v := .ty T) hg hm hv rfl hn hd) fun ρ st σ H m Q S R p => p (.ty T) m H Ext.refl S (by unfold RelW; rfl)
abbrev Op2 := Wv → Wv → Hs → Re Wv
def gBin (op : Op2) (ga gb : GE) : GE := fun ρ st => (ga ρ st).bind fun x st1 => (gb ρ st1).bind fun y st2 => (op x y st2).nox
def ReadW (X : Cx) (op : Op2) (r : R2) : Prop := ∀ (x y : Wv) (a b : V) (st : Hs) (H : Hp) (m : Mp) (Q : VK), Sim X.K m st H → RelW X.K m H x a → RelW X.K m H y b → PostO X.K m H (op x y st) Q → r a b H Q
def OpW (X : Cx) (f : Value → Value → Sem Value) (op : Op2) : Prop := ∃ r, OpR X f r ∧ ReadW X op r
theorem read2 {a b : Expr} {ga gb : GE} {op : Op2} {r : R2} (h2 : ReadW X op r) (ha : JE X a ga) (hb : JE X b gb) {ρ : Rho} {st : Hs} {σ : St} {H : Hp} {m : Mp} {Q : VK} (S : Sim X.K m st H) (R : RelEnv X.K m H ρ σ) (p : PostE X σ m H (gBin op ga gb ρ st) Q) :
    tOp r (SE X a) (SE X b) σ H Q := by
  refine ha.go S R (PostG.bind p) fun x st1 v m1 H1 p1 e1 S1 rx => ?_
  refine hb.go S1 (R.mono e1) ((PostG.bind p1).imp e1 fun _ _ q => q) fun y st2 u m2 H2 p2 e2 S2 ry => ?_
  exact h2 x y v u st2 H2 m2 Q S2 (RelW.mono e2 _ _ rx) ry (PostO.shift (PostG.nox p2) (e1.trans e2))
theorem je_bin {a b : Expr} {ga gb : GE} {o : Operator} {op : Op2} {pos : Pos} (ho : OpW X (binaryOp o) op) (ha : JE X a ga) (hb : JE X b gb) : JE X (.BinOp a o b pos) (gBin op ga gb) := by
  obtain ⟨r, h1, h2⟩ := ho
  exact JE.of (pe_op h1 pe_SE pe_SE) fun ρ st σ H m Q S R p => read2 h2 ha hb S R p
theorem je_cmp {a b : Expr} {ga gb : GE} {o : CmpOp} {op : Op2} {pos : Pos} (ho : OpW X (compareOp o) op) (ha : JE X a ga) (hb : JE X b gb) (hm : behindInMarks o b = false) : JE X (.Compare a [o] [b] pos) (gBin op ga gb) := by
  obtain ⟨r, h1, h2⟩ := ho
  exact JE.of (pe_cmpR h1 pe_SE pe_SE hm) fun ρ st σ H m Q S R p => read2 h2 ha hb S R p
def tst (w : Wv) (st : Hs) : Re Bool := match w with
  | .bl b => .ok b st
  | _ => .bad
def gTst (g : GE) : GT := fun ρ st => (g ρ st).bind tst
theorem post_tst {σ : St} {m : Mp} {H : Hp} {r : Re Wv} {Q : Bool → Hp → Prop} (p : PostT X σ m H (r.bind tst) Q) : PostE X σ m H r (fun x H' => ∃ k, x = .bl k ∧ Q k H') := by
  cases r with
  | ok w st =>
    cases w with
    | bl b =>
      intro v m' H' e S rw'
      unfold RelW at rw'
      exact ⟨b, rw', p m' H' e S⟩
    | _ => exact False.elim p
  | err c st => exact p
  | bad => exact p
theorem jt_cmp {a b : Expr} {ga gb : GE} {o : CmpOp} {op : Op2} {pos : Pos} (ho : OpW X (compareOp o) op) (ha : JE X a ga) (hb : JE X b gb) (hm : behindInMarks o b = false) : JT X (.Compare a [o] [b] pos) (gTst (gBin op ga gb)) := by
  obtain ⟨r, h1, h2⟩ := ho
  exact JT.of (pt_cmpR h1 pe_SE pe_SE hm) fun ρ st σ H m Q S R p => read2 h2 ha hb S R (post_tst p)
def gChain (op op' : Op2) (ga gb gc : GE) : GE := fun ρ st => (ga ρ st).bind fun x st1 => (gb ρ st1).bind fun y st2 => (op x y st2).nox.bind fun z st3 => match z with
  | .bl true => (gc ρ st3).bind fun u st4 => (op' y u st4).nox
  | .bl false => .ok (.bl false) st3
  | _ => .bad
theorem readC {a b c : Expr} {ga gb gc : GE} {op op' : Op2} {r r' : R2} (h2 : ReadW X op r) (h2' : ReadW X op' r') (ha : JE X a ga) (hb : JE X b gb) (hc : JE X c gc) {ρ : Rho} {st : Hs} {σ : St} {H : Hp} {m : Mp} {Q : VK}
    (S : Sim X.K m st H) (R : RelEnv X.K m H ρ σ) (p : PostE X σ m H (gChain op op' ga gb gc ρ st) Q) : tChain r r' (SE X a) (SE X b) (SE X c) σ H Q := by
  refine ha.go S R (PostG.bind p) fun x st1 v m1 H1 p1 e1 S1 rx => ?_
  refine hb.go S1 (R.mono e1) ((PostG.bind p1).imp e1 fun _ _ q => q) fun y st2 u m2 H2 p2 e2 S2 ry => ?_
  refine h2 x y v u st2 H2 m2 _ S2 (RelW.mono e2 _ _ rx) ry (PostN.imp (PostG.nox (PostG.bind p2)) fun z st3 p3 => ?_)
  intro z' m3 H3 e3 S3 rz
  cases z with
  | bl k =>
    unfold RelW at rz
    refine ⟨k, rz, ?_⟩
    cases k with
    | true =>
      rw [if_pos rfl]
      refine hc.go S3 (R.mono (e1.trans (e2.trans e3))) ((PostG.bind p3).imp (e1.trans (e2.trans e3)) fun _ _ q => q) fun q st4 u' m4 H4 p4 e4 S4 rq => ?_
      exact h2' y q u u' st4 H4 m4 Q S4 (RelW.mono (e3.trans e4) _ _ ry) rq (PostO.shift (PostG.nox p4) (e1.trans (e2.trans (e3.trans e4))))
    | false =>
      rw [if_neg Bool.false_ne_true]
      exact p3 (.bl false) m3 H3 (e1.trans (e2.trans e3)) S3 (by unfold RelW; rfl)
  | _ => exact False.elim p3
theorem je_chain {a b c : Expr} {ga gb gc : GE} {o o' : CmpOp} {op op' : Op2} {pos : Pos} (ho : OpW X (compareOp o) op) (ho' : OpW X (compareOp o') op') (ha : JE X a ga) (hb : JE X b gb) (hc : JE X c gc)
    (hm : lastMarks [o, o'] [b, c] = false := by with_unfolding_all rfl) : JE X (.Compare a [o, o'] [b, c] pos) (gChain op op' ga gb gc) := by
  obtain ⟨r, h1, h2⟩ := ho
  obtain ⟨r', h1', h2'⟩ := ho'
  exact JE.of (pe_chain h1 h1' pe_SE pe_SE pe_SE hm) fun ρ st σ H m Q S R p => readC h2 h2' ha hb hc S R p
theorem jt_chain {a b c : Expr} {ga gb gc : GE} {o o' : CmpOp} {op op' : Op2} {pos : Pos} (ho : OpW X (compareOp o) op) (ho' : OpW X (compareOp o') op') (ha : JE X a ga) (hb : JE X b gb) (hc : JE X c gc)
    (hm : lastMarks [o, o'] [b, c] = false := by with_unfolding_all rfl) : JT X (.Compare a [o, o'] [b, c] pos) (gTst (gChain op op' ga gb gc)) := by
  obtain ⟨r, h1, h2⟩ := ho
  obtain ⟨r', h1', h2'⟩ := ho'
  exact JT.of (pt_chain h1 h1' pe_SE pe_SE pe_SE hm) fun ρ st σ H m Q S R p => readC h2 h2' ha hb hc S R (post_tst p)
def gUn (op : Wv → Hs → Re Wv) (ga : GE) : GE := fun ρ st => (ga ρ st).bind op
def opNeg : Wv → Hs → Re Wv
  | .int i, st => .ok (.int (-i)) st
  | _, _ => .bad
theorem je_neg {a : Expr} {ga : GE} {pos : Pos} (ha : JE X a ga) : JE X (.UnaryOp .USub a pos) (gUn opNeg ga) := by
  refine JE.of (pe_un un_neg pe_SE) fun ρ st σ H m Q S R p => ?_
  refine ha.go S R (PostG.bind p) fun x st1 v m1 H1 p1 e1 S1 rx => ?_
  cases x with
  | int i =>
    unfold RelW at rx
    exact ⟨i, rx, p1 _ m1 H1 e1 S1 (by unfold RelW; rfl)⟩
  | _ => exact False.elim p1
def SW (X : Cx) (e : Expr) : TT := fun σ H Q => ∀ (wh : Sem Value) (pins : List (Addr × Obj)) (s : Shared), Inv X pins σ H s → wpAny (model X.prog X.w) X.A (isTrue e X.env wh) (TP X pins σ Q) X.xe s
theorem pw_SW {e : Expr} : PW X e (SW X e) := fun wh pins s _ _ _ I h => h wh pins s I
def JW (X : Cx) (e : Expr) (g : GT) : Prop := ∀ (ρ : Rho) (st : Hs) (σ : St) (H : Hp) (m : Mp) (Q : Bool → Hp → Prop), Sim X.K m st H → RelEnv X.K m H ρ σ → PostT X σ m H (g ρ st) Q → SW X e σ H Q
theorem JW.of {e : Expr} {g : GT} {t : TT} (h : PW X e t) (k : ∀ (ρ : Rho) (st : Hs) (σ : St) (H : Hp) (m : Mp) (Q : Bool → Hp → Prop), Sim X.K m st H → RelEnv X.K m H ρ σ → PostT X σ m H (g ρ st) Q → t σ H Q) : JW X e g :=
  fun ρ st σ H m Q S R p wh pins s I => h wh pins s σ H Q I (k ρ st σ H m Q S R p)
theorem JW.jt {e : Expr} {g : GT} (h : JW X e g) : JT X e g := fun ρ st σ H m Q S R p pins s I => h ρ st σ H m Q S R p _ pins s I
def gAnd (ga gb : GT) : GT := fun ρ st => (ga ρ st).bind fun b st1 => if b = true then gb ρ st1 else .ok false st1
def gOr (ga gb : GT) : GT := fun ρ st => (ga ρ st).bind fun b st1 => if b = true then .ok true st1 else gb ρ st1
def gNot (ga : GT) : GT := fun ρ st => (ga ρ st).bind fun b st1 => .ok (!b) st1
theorem jw_and1 {a : Expr} {ga : GT} {pos : Pos} (ha : JT X a ga) : JW X (.BoolOp .And [a] pos) ga := JW.of (pw_and1 pt_ST) fun ρ st σ H m Q S R p => ha ρ st σ H m Q S R p
theorem jw_or1 {a : Expr} {ga : GT} {pos : Pos} (ha : JT X a ga) : JW X (.BoolOp .Or [a] pos) ga := JW.of (pw_or1 pt_ST) fun ρ st σ H m Q S R p => ha ρ st σ H m Q S R p
theorem jw_and {a b : Expr} {rest : List Expr} {ga gb : GT} {pos : Pos} (ha : JT X a ga) (hb : JW X (.BoolOp .And (b :: rest) pos) gb) : JW X (.BoolOp .And (a :: b :: rest) pos) (gAnd ga gb) := by
  refine JW.of (pw_and pt_ST pw_SW) fun ρ st σ H m Q S R p => ?_
  refine ha.go S R (PostG.bind p) fun c st1 m1 H1 p1 e1 S1 => ?_
  cases c with
  | true => rw [if_pos rfl] at p1 ⊢; exact hb ρ st1 σ H1 m1 Q S1 (R.mono e1) (PostT.shift p1 e1)
  | false => rw [if_neg Bool.false_ne_true] at p1 ⊢; exact p1 m1 H1 e1 S1
theorem jw_or {a b : Expr} {rest : List Expr} {ga gb : GT} {pos : Pos} (ha : JT X a ga) (hb : JW X (.BoolOp .Or (b :: rest) pos) gb) : JW X (.BoolOp .Or (a :: b :: rest) pos) (gOr ga gb) := by
  refine JW.of (pw_or pt_ST pw_SW) fun ρ st σ H m Q S R p => ?_
  refine ha.go S R (PostG.bind p) fun c st1 m1 H1 p1 e1 S1 => ?_
  cases c with
  | true => rw [if_pos rfl] at p1 ⊢; exact p1 m1 H1 e1 S1
  | false => rw [if_neg Bool.false_ne_true] at p1 ⊢; exact hb ρ st1 σ H1 m1 Q S1 (R.mono e1) (PostT.shift p1 e1)
theorem jt_not {a : Expr} {ga : GT} {pos : Pos} (ha : JT X a ga) : JT X (.UnaryOp .Not a pos) (gNot ga) := by
  refine JT.of (pt_not pt_ST) fun ρ st σ H m Q S R p => ?_
  exact ha.go S R (PostG.bind p) fun c st1 m1 H1 p1 e1 S1 => p1 m1 H1 e1 S1
def gAndV (ga gb : GE) : GE := fun ρ st => (ga ρ st).bind fun w st1 => match w with
  | .bl true => gb ρ st1
  | .bl false => .ok (.bl false) st1
  | _ => .bad
def gOrV (ga gb : GE) : GE := fun ρ st => (ga ρ st).bind fun w st1 => match w with
  | .bl true => .ok (.bl true) st1
  | .bl false => gb ρ st1
  | _ => .bad
def gNotV (ga : GE) : GE := fun ρ st => (ga ρ st).bind fun w st1 => match w with
  | .bl b => .ok (.bl (!b)) st1
  | _ => .bad
theorem je_one {op} {a : Expr} {ga : GE} {pos : Pos} (ha : JE X a ga) : JE X (.BoolOp op [a] pos) ga := JE.of (pe_one pe_SE) fun ρ st σ H m Q S R p => ha ρ st σ H m Q S R p
theorem je_and {a b : Expr} {rest : List Expr} {ga gb : GE} {pos : Pos} (ha : JE X a ga) (hb : JE X (.BoolOp .And (b :: rest) pos) gb) : JE X (.BoolOp .And (a :: b :: rest) pos) (gAndV ga gb) := by
  refine JE.of (pe_and pe_SE pe_SE) fun ρ st σ H m Q S R p => ?_
  refine ha.go S R (PostG.bind p) fun x st1 v m1 H1 p1 e1 S1 rx => ?_
  cases x with
  | bl c =>
    unfold RelW at rx
    refine ⟨c, rx, ?_⟩
    cases c with
    | true => rw [if_pos rfl]; exact hb ρ st1 σ H1 m1 Q S1 (R.mono e1) (PostE.shift p1 e1)
    | false => rw [if_neg Bool.false_ne_true]; exact p1 _ m1 H1 e1 S1 (by unfold RelW; rfl)
  | _ => exact False.elim p1
theorem je_or {a b : Expr} {rest : List Expr} {ga gb : GE} {pos : Pos} (ha : JE X a ga) (hb : JE X (.BoolOp .Or (b :: rest) pos) gb) : JE X (.BoolOp .Or (a :: b :: rest) pos) (gOrV ga gb) := by
  refine JE.of (pe_or pe_SE pe_SE) fun ρ st σ H m Q S R p => ?_
  refine ha.go S R (PostG.bind p) fun x st1 v m1 H1 p1 e1 S1 rx => ?_
  cases x with
  | bl c =>
    unfold RelW at rx
    refine ⟨c, rx, ?_⟩
    cases c with
    | true => rw [if_pos rfl]; exact p1 _ m1 H1 e1 S1 (by unfold RelW; rfl)
    | false => rw [if_neg Bool.false_ne_true]; exact hb ρ st1 σ H1 m1 Q S1 (R.mono e1) (PostE.shift p1 e1)
  | _ => exact False.elim p1
theorem je_not {a : Expr} {ga : GE} {pos : Pos} (ha : JE X a ga) : JE X (.UnaryOp .Not a pos) (gNotV ga) := by
  refine JE.of (pe_not pe_SE) fun ρ st σ H m Q S R p => ?_
  refine ha.go S R (PostG.bind p) fun x st1 v m1 H1 p1 e1 S1 rx => ?_
  cases x with
  | bl c =>
    unfold RelW at rx
    exact ⟨c, rx, p1 _ m1 H1 e1 S1 (by unfold RelW; rfl)⟩
  | _ => exact False.elim p1
def gIfE (gt : GT) (ga gb : GE) : GE := fun ρ st => (gt ρ st).bind fun b st1 => if b = true then ga ρ st1 else gb ρ st1
theorem je_if {c a b : Expr} {gt : GT} {ga gb : GE} {pos : Pos} (hc : JT X c gt) (ha : JE X a ga) (hb : JE X b gb) : JE X (.IfExp c a b pos) (gIfE gt ga gb) := by
  refine JE.of (pe_ifExp pt_ST pe_SE pe_SE) fun ρ st σ H m Q S R p => ?_
  refine hc.go S R (PostG.bind p) fun k st1 m1 H1 p1 e1 S1 => ?_
  cases k with
  | true => rw [if_pos rfl] at p1 ⊢; exact ha ρ st1 σ H1 m1 Q S1 (R.mono e1) (PostE.shift p1 e1)
  | false => rw [if_neg Bool.false_ne_true] at p1 ⊢; exact hb ρ st1 σ H1 m1 Q S1 (R.mono e1) (PostE.shift p1 e1)
def gNil : GA := fun _ st => .ok [] st
def gCons (ga : GE) (gr : GA) : GA := fun ρ st => (ga ρ st).bind fun x st1 => (gr ρ st1).bind fun xs st2 => .ok (x :: xs) st2
theorem ja_nil : JA X [] gNil := JA.of pa_nil fun ρ st σ H m Q S R p => p [] m H Ext.refl S RelWs.nil
theorem ja_cons {e : Expr} {es : List Expr} {ga : GE} {gr : GA} (ha : JE X e ga) (hr : JA X es gr) (hs : starEach (e :: es) X.env = (false, eval e X.env) :: starEach es X.env := by rfl) : JA X (e :: es) (gCons ga gr) := by
  refine JA.of (pa_cons pe_SE pa_SA hs) fun ρ st σ H m Q S R p => ?_
  refine ha.go S R (PostG.bind p) fun x st1 v m1 H1 p1 e1 S1 rx => ?_
  refine hr.go S1 (R.mono e1) ((PostG.bind p1).imp e1 fun _ _ q => q) fun xs st2 vs m2 H2 p2 e2 S2 rs => ?_
  exact p2 (v :: vs) m2 H2 (e1.trans e2) S2 (RelWs.cons (RelW.mono e2 _ _ rx) rs)
def gTup (g : GA) : GE := fun ρ st => (g ρ st).bind fun ws st1 => if ws.length ≤ lim then .ok (.tup ws) st1 else .bad
def gLst (g : GA) : GE := fun ρ st => (g ρ st).bind fun ws st1 => if ws.length ≤ lim then .ok (.ref st1.length) (st1 ++ [.lst ws]) else .bad
theorem je_tup {es : List Expr} {g : GA} {x1 pos} (h : JA X es g) : JE X (.Tuple es x1 pos) (gTup g) := by
  refine JE.of (pe_tup pa_SA) fun ρ st σ H m Q S R p => ?_
  refine h.go S R (PostG.bind p) fun ws st1 vs m1 H1 p1 e1 S1 rs => ?_
  by_cases hl : ws.length ≤ lim
  · rw [if_pos hl] at p1
    refine ⟨by rw [← rs.length]; exact lim_le hl, fun q hq => ?_⟩
    have e2 : Ext X.K m1 H1 m1 (upd H1 q (.tup vs)) := Ext.upd (.inl hq)
    exact p1 (.ref q) m1 _ (e1.trans e2) (S1.fresh hq) (by unfold RelW; exact ⟨q, vs, rfl, upd_same, RelWs.mono e2 _ _ rs⟩)
  · rw [if_neg hl] at p1; exact False.elim p1
theorem Sim.newest {K : PySem.W.Frag} {m : Mp} {st : Hs} {H : Hp} (S : Sim K m st H) (q : Addr) (H' : Hp) : RelW K (m ++ [q]) H' (.ref st.length) (.ref q) := by
  unfold RelW
  refine ⟨q, rfl, ?_⟩
  rw [← S.len, List.getElem?_append_right (Nat.le_refl _), Nat.sub_self]
  rfl
theorem new_list {m m1 : Mp} {H H1 : Hp} {st1 : Hs} {ws : List Wv} {vs : List V} {Q : VK} (p1 : okE X.K m H Q (.ref st1.length) (st1 ++ [.lst ws])) (e1 : Ext X.K m H m1 H1) (S1 : Sim X.K m1 st1 H1) (rs : RelWs X.K m1 H1 ws vs) (q : Addr) (hq : H1 q = none) :
    Q (.ref q) (upd H1 q (.lst vs)) :=
  p1 (.ref q) (m1 ++ [q]) _ (e1.trans (Ext.more.trans (Ext.upd (.inl hq)))) (S1.alloc hq rs) (S1.newest q _)
theorem je_lst {es : List Expr} {g : GA} {pos} (h : JA X es g) : JE X (.List es pos) (gLst g) := by
  refine JE.of (pe_lst pa_SA) fun ρ st σ H m Q S R p => ?_
  refine h.go S R (PostG.bind p) fun ws st1 vs m1 H1 p1 e1 S1 rs => ?_
  by_cases hl : ws.length ≤ lim
  · rw [if_pos hl] at p1
    exact ⟨by rw [← rs.length]; exact lim_le hl, fun q hq => new_list p1 e1 S1 rs q hq⟩
  · rw [if_neg hl] at p1; exact False.elim p1
end
end J
namespace J
open PySem PySem.Spec PyProof.Rows L2
section
variable {X : Cx}
theorem OpR.or {f : Value → Value → Sem Value} {r r' : R2} (h : OpR X f r) (h' : OpR X f r') : OpR X f (fun x y H Q => r x y H Q ∨ r' x y H Q) := by
  intro pins s σ H x y v u Q I rx ry q
  rcases q with q | q
  · exact h pins s σ H x y v u Q I rx ry q
  · exact h' pins s σ H x y v u Q I rx ry q
theorem op_fdivG : OpR X (binaryOp .FloorDiv) (rI (fun _ j => j ≠ 0 ∧ j.natAbs.log2 < 9000) fun i j => .int (i.fdiv j)) := opI fun i j _ _ _ _ _ hc q => floordiv_int hc.1 q (.inl (PyProof.noPylong_of_log2 hc.2))
theorem op_modG : OpR X (binaryOp .Mod) (rI (fun _ j => j ≠ 0) fun i j => .int (i.fmod j)) := opI fun i j _ _ _ _ _ hc q => mod_int' hc q
theorem op_mulG : OpR X (binaryOp .Mult) (rI (fun i j => IntMulOk i j) fun i j => .int (i * j)) := opI fun _ _ _ _ _ _ _ hc q => mul_int q hc
instance mulDec {a b : Int} : Decidable (IntMulOk a b) := by unfold IntMulOk; infer_instance
def oSub : Op2
  | .int i, .int j, st => .ok (.int (i - j)) st
  | _, _, _ => .bad
def oFdiv : Op2
  | .int i, .int j, st => if j ≠ 0 ∧ j.natAbs.log2 < 9000 then .ok (.int (i.fdiv j)) st else .bad
  | _, _, _ => .bad
def oMod : Op2
  | .int i, .int j, st => if j ≠ 0 then .ok (.int (i.fmod j)) st else .bad
  | _, _, _ => .bad
def oPow : Op2
  | .int i, .int j, st => if 0 ≤ j ∧ j ≤ 1000000 ∧ i.natAbs < 2 ^ 64 then .ok (.int (i ^ j.toNat)) st else .bad
  | _, _, _ => .bad
def oLt0 : Op2
  | .int i, .int j, st => .ok (.bl (decide (i < j))) st
  | .str i, .str j, st => .ok (.bl (decide (i.cps.toList < j.cps.toList))) st
  | _, _, _ => .bad
def oLe0 : Op2
  | .int i, .int j, st => .ok (.bl (decide (i ≤ j))) st
  | _, _, _ => .bad
def oGt : Op2
  | .int i, .int j, st => .ok (.bl (decide (j < i))) st
  | _, _, _ => .bad
def oGe : Op2
  | .int i, .int j, st => .ok (.bl (decide (j ≤ i))) st
  | _, _, _ => .bad
theorem relInt {m : Mp} {H : Hp} {i : Int} {a : V} (h : RelW X.K m H (.int i) a) : a = .int i := by unfold RelW at h; exact h
theorem relBl {m : Mp} {H : Hp} {b : Bool} {a : V} (h : RelW X.K m H (.bl b) a) : a = .bl b := by unfold RelW at h; exact h
theorem relStr {m : Mp} {H : Hp} {x : PySem.Str} {a : V} (h : RelW X.K m H (.str x) a) : a = .str x ∧ PyData.strOk x = true := by unfold RelW at h; exact h
theorem mkInt {m : Mp} {H : Hp} {i : Int} : RelW X.K m H (.int i) (.int i) := by unfold RelW; rfl
theorem mkBl {m : Mp} {H : Hp} {i : Bool} : RelW X.K m H (.bl i) (.bl i) := by unfold RelW; rfl
theorem mkNon {m : Mp} {H : Hp} : RelW X.K m H .non .non := by unfold RelW; rfl
theorem mkStr {m : Mp} {H : Hp} {x : PySem.Str} (h : PyData.strOk x = true) : RelW X.K m H (.str x) (.str x) := by unfold RelW; exact ⟨rfl, h⟩
theorem ow_sub : OpW X (binaryOp .Sub) oSub := ⟨_, op_sub, fun x y a b st H m Q S rx ry p => by
  cases x with
  | int i =>
    cases y with
    | int j => exact ⟨i, j, relInt rx, relInt ry, p _ m H Ext.refl S mkInt⟩
    | _ => exact False.elim p
  | _ => cases y <;> exact False.elim p⟩
theorem ow_fdiv : OpW X (binaryOp .FloorDiv) oFdiv := ⟨_, op_fdivG, fun x y a b st H m Q S rx ry p => by
  cases x with
  | int i =>
    cases y with
    | int j =>
      dsimp only [oFdiv] at p
      by_cases c : j ≠ 0 ∧ j.natAbs.log2 < 9000
      · rw [if_pos c] at p; exact ⟨i, j, relInt rx, relInt ry, c, p _ m H Ext.refl S mkInt⟩
      · rw [if_neg c] at p; exact False.elim p
    | _ => exact False.elim p
  | _ => cases y <;> exact False.elim p⟩
theorem ow_mod : OpW X (binaryOp .Mod) oMod := ⟨_, op_modG, fun x y a b st H m Q S rx ry p => by
  cases x with
  | int i =>
    cases y with
    | int j =>
      dsimp only [oMod] at p
      by_cases c : j ≠ 0
      · rw [if_pos c] at p; exact ⟨i, j, relInt rx, relInt ry, c, p _ m H Ext.refl S mkInt⟩
      · rw [if_neg c] at p; exact False.elim p
    | _ => exact False.elim p
  | _ => cases y <;> exact False.elim p⟩
theorem ow_pow : OpW X (binaryOp .Pow) oPow := ⟨_, op_pow, fun x y a b st H m Q S rx ry p => by
  cases x with
  | int i =>
    cases y with
    | int j =>
      dsimp only [oPow] at p
      by_cases c : 0 ≤ j ∧ j ≤ 1000000 ∧ i.natAbs < 2 ^ 64
      · rw [if_pos c] at p; exact ⟨i, j, relInt rx, relInt ry, c, p _ m H Ext.refl S mkInt⟩
      · rw [if_neg c] at p; exact False.elim p
    | _ => exact False.elim p
  | _ => cases y <;> exact False.elim p⟩
theorem ow_lt : OpW X (compareOp .Lt) oLt0 := ⟨_, OpR.or op_lt op_lt_str, fun x y a b st H m Q S rx ry p => by
  cases x with
  | int i =>
    cases y with
    | int j => exact .inl ⟨i, j, relInt rx, relInt ry, p _ m H Ext.refl S mkBl⟩
    | _ => exact False.elim p
  | str i =>
    cases y with
    | str j => exact .inr ⟨i, j, (relStr rx).1, (relStr ry).1, p _ m H Ext.refl S mkBl⟩
    | _ => exact False.elim p
  | _ => cases y <;> exact False.elim p⟩
theorem ow_le : OpW X (compareOp .LtE) oLe0 := ⟨_, op_le, fun x y a b st H m Q S rx ry p => by
  cases x with
  | int i =>
    cases y with
    | int j => exact ⟨i, j, relInt rx, relInt ry, p _ m H Ext.refl S mkBl⟩
    | _ => exact False.elim p
  | _ => cases y <;> exact False.elim p⟩
theorem ow_gt : OpW X (compareOp .Gt) oGt := ⟨_, op_gt, fun x y a b st H m Q S rx ry p => by
  cases x with
  | int i =>
    cases y with
    | int j => exact ⟨i, j, relInt rx, relInt ry, p _ m H Ext.refl S mkBl⟩
    | _ => exact False.elim p
  | _ => cases y <;> exact False.elim p⟩
theorem ow_ge : OpW X (compareOp .GtE) oGe := ⟨_, op_ge, fun x y a b st H m Q S rx ry p => by
  cases x with
  | int i =>
    cases y with
    | int j => exact ⟨i, j, relInt rx, relInt ry, p _ m H Ext.refl S mkBl⟩
    | _ => exact False.elim p
  | _ => cases y <;> exact False.elim p⟩
def oIs : Op2
  | x, .non, st => .ok (.bl (match x with | .non => true | _ => false)) st
  | _, _, _ => .bad
def oIsNot : Op2
  | x, .non, st => .ok (.bl (match x with | .non => false | _ => true)) st
  | _, _, _ => .bad
theorem isNon {m : Mp} {H : Hp} {x : Wv} {a : V} (h : RelW X.K m H x a) : decide (a = V.non) = (match x with | .non => true | _ => false) := by
  cases x with
  | non => unfold RelW at h; subst h; rfl
  | bl b => unfold RelW at h; subst h; rfl
  | int b => unfold RelW at h; subst h; rfl
  | str b => unfold RelW at h; obtain ⟨h, _⟩ := h; subst h; rfl
  | tup b => unfold RelW at h; obtain ⟨q, xs, h, _⟩ := h; subst h; rfl
  | ktp b => unfold RelW at h; obtain ⟨q, xs, h, _⟩ := h; subst h; rfl
  | ref b => unfold RelW at h; obtain ⟨q, h, _⟩ := h; subst h; rfl
  | ty b => unfold RelW at h; subst h; rfl
  | cls b => unfold RelW at h; obtain ⟨q, h, _⟩ := h; subst h; rfl
  | exn b => unfold RelW at h; obtain ⟨q, C, h, _⟩ := h; subst h; rfl
  | fn fp b => unfold RelW at h; obtain ⟨h, _⟩ := h; subst h; rfl
theorem ow_is : OpW X (compareOp .Is) oIs := ⟨_, op_isN, fun x y a b st H m Q S rx ry p => by
  cases y with
  | non =>
    refine ⟨by unfold RelW at ry; exact ry, ?_⟩
    rw [isNon rx]
    cases x <;> exact p _ m H Ext.refl S mkBl
  | _ => cases x <;> exact False.elim p⟩
theorem ow_isnot : OpW X (compareOp .IsNot) oIsNot := ⟨_, op_notN, fun x y a b st H m Q S rx ry p => by
  cases y with
  | non =>
    refine ⟨by unfold RelW at ry; exact ry, ?_⟩
    rw [isNon rx]
    cases x <;> exact p _ m H Ext.refl S mkBl
  | _ => cases x <;> exact False.elim p⟩
theorem strOk_append {a b : PySem.Str} (ha : PyData.strOk a = true) (hb : PyData.strOk b = true) : PyData.strOk (a ++ b) = true := by
  unfold PyData.strOk at *
  show ((a.cps ++ b.cps).all _) = true
  rw [Array.all_append, ha, hb]
  rfl
def rCatL (K : PySem.W.Frag) : R2 := fun x y H Q => ∃ l b xs zs, x = .ref l ∧ y = .ref b ∧ SqL K H l xs ∧ SqL K H b zs ∧ xs.length + zs.length ≤ sizeLine ∧ ∀ p, H p = none → Q (.ref p) (upd H p (.lst (xs ++ zs)))
theorem op_catL : OpR X (binaryOp .Add) (rCatL X.K) := by
  intro pins s σ H x y v u Q I rx ry h
  obtain ⟨l, b, xs, zs, rfl, rfl, hH, hB, hz, q⟩ := h
  cases rx
  cases ry
  obtain ⟨its, r, pl, hs⟩ := I.list hH
  obtain ⟨its2, r2, pl2, hs2⟩ := I.list hB
  have hl := r.length
  have hl2 := r2.length
  obtain ⟨⟨cls, dd, data, sl⟩, ho, hc, n, hd⟩ := id pl.isList
  obtain ⟨⟨cls2, dd2, data2, sl2⟩, ho2, hc2, n2, hd2⟩ := id pl2.isList
  simp only at hc hd hc2 hd2
  subst hc hd hc2 hd2
  have e : its.toArray ++ its2.toArray = (its ++ its2).toArray := by simp
  refine PySem.concat_meets ⟨_, ho, rfl⟩ ⟨_, ho2, rfl⟩ PySem.noFill_list_add PySem.seq_list_add PySem.F.slot_list_add PySem.F.entry_list_add (PySem.F.args_list_add_2 _ _) (list_addW l b its.toArray its2.toArray n n2 dd dd2 sl sl2 (by simp; omega)) ⟨ho, ho2, ?_⟩
  rw [e]
  exact ⟨.ref _, _, I.lnew (t' := s.toks) (r.append r2) (by rw [List.length_append]; omega), rfl, q _ I.fresh⟩
def rCatE (K : PySem.W.Frag) : R2 := fun x y H Q => ∃ a b ys, x = .ref a ∧ y = .ref b ∧ SqT K H a [] ∧ SqT K H b ys ∧ Q (.ref b) H
theorem op_catE : OpR X (binaryOp .Add) (rCatE X.K) := by
  intro pins s σ H x y v u Q I rx ry h
  obtain ⟨a, b, ys, rfl, rfl, ha, hb, q⟩ := h
  cases rx
  cases ry
  obtain ⟨its, r1, p1, _⟩ := I.tuple ha
  obtain ⟨its2, r2, p2, _⟩ := I.tuple hb
  cases r1
  obtain ⟨⟨c1, d1, t1, l1⟩, g1, k1, n1, j1⟩ := id p1
  obtain ⟨⟨c2, d2, t2, l2⟩, g2, k2, n2, j2⟩ := id p2
  simp only at k1 j1 k2 j2
  subst k1 j1 k2 j2
  exact PySem.concat_meets ⟨_, g1, rfl⟩ ⟨_, g2, rfl⟩ PySem.noFill_tuple_add PySem.seq_tuple_add PySem.F.slot_tuple_add PySem.F.entry_tuple_add (PySem.F.args_tuple_add_2 _ _) (tuple_addW0 a b #[] its2.toArray n1 n2 d1 d2 l1 l2 (by simp)) ⟨g1, g2, ⟨.ref b, H, I, rfl, q⟩⟩
def oAdd : Op2
  | .int i, .int j, st => .ok (.int (i + j)) st
  | .str i, .str j, st => if i.length + j.length ≤ lim then .ok (.str (i ++ j)) st else .bad
  | .tup i, .tup j, st => if i.length + j.length ≤ lim then .ok (.tup (i ++ j)) st else .bad
  | .ref l, .ref k, st => match lstOf st l, lstOf st k with
    | some i, some j => if i.length + j.length ≤ lim then .ok (.ref st.length) (st ++ [.lst (i ++ j)]) else .bad
    | _, _ => .bad
  | _, _, _ => .bad
instance {α : Type} {xs : List α} : Decidable (xs ≠ []) := match xs with
  | [] => isFalse (fun h => h rfl)
  | _ :: _ => isTrue (fun h => by cases h)
theorem ow_add : OpW X (binaryOp .Add) oAdd := ⟨_, OpR.or op_add (OpR.or op_add_str (OpR.or op_catT (OpR.or op_catL op_catE))), fun x y a b st H m Q S rx ry p => by
  cases x with
  | int i =>
    cases y with
    | int j => exact .inl ⟨i, j, relInt rx, relInt ry, p _ m H Ext.refl S mkInt⟩
    | _ => exact False.elim p
  | str i =>
    cases y with
    | str j =>
      dsimp only [oAdd] at p
      by_cases c : i.length + j.length ≤ lim
      · rw [if_pos c] at p
        exact .inr (.inl ⟨i, j, (relStr rx).1, (relStr ry).1, lim_le c, p _ m H Ext.refl S (mkStr (strOk_append (relStr rx).2 (relStr ry).2))⟩)
      · rw [if_neg c] at p; exact False.elim p
    | _ => exact False.elim p
  | tup i =>
    cases y with
    | tup j =>
      dsimp only [oAdd] at p
      by_cases c : i.length + j.length ≤ lim
      · rw [if_pos c] at p
        by_cases c0 : i = []
        · subst c0
          unfold RelW at rx ry
          obtain ⟨a1, xs, rfl, h1, h2⟩ := rx
          obtain ⟨a2, ys, rfl, h3, h4⟩ := ry
          have l1 : xs = [] := List.eq_nil_of_length_eq_zero h2.length.symm
          subst l1
          exact .inr (.inr (.inr (.inr ⟨a1, a2, ys, rfl, rfl, SqT.of h1, SqT.of h3, p (.ref a2) m H Ext.refl S (by rw [List.nil_append]; unfold RelW; exact ⟨a2, ys, rfl, h3, h4⟩)⟩)))
        unfold RelW at rx ry
        obtain ⟨a1, xs, rfl, h1, h2⟩ := rx
        obtain ⟨a2, ys, rfl, h3, h4⟩ := ry
        have l1 := h2.length
        have l2 := h4.length
        have n1 : xs ≠ [] := fun z => by rw [z] at l1; exact c0 (List.eq_nil_of_length_eq_zero l1)
        refine .inr (.inr (.inl ⟨a1, a2, xs, ys, rfl, rfl, SqT.of h1, SqT.of h3, n1, by rw [← l1, ← l2]; exact lim_le c, fun z => ?_, fun _ q hq => ?_⟩))
        · rw [z] at l2
          rw [List.eq_nil_of_length_eq_zero l2, List.append_nil] at p
          exact p (.ref a1) m H Ext.refl S (by unfold RelW; exact ⟨a1, xs, rfl, h1, h2⟩)
        have e2 : Ext X.K m H m (upd H q (.tup (xs ++ ys))) := Ext.upd (.inl hq)
        exact p (.ref q) m _ e2 (S.fresh hq) (by unfold RelW; exact ⟨q, xs ++ ys, rfl, upd_same, RelWs.mono e2 _ _ (h2.append h4)⟩)
      · rw [if_neg c] at p; exact False.elim p
    | _ => exact False.elim p
  | ref l =>
    cases y with
    | ref k =>
      dsimp only [oAdd] at p
      unfold RelW at rx ry
      obtain ⟨a1, rfl, h1⟩ := rx
      obtain ⟨a2, rfl, h2⟩ := ry
      cases e1 : lstOf st l with
      | none => rw [e1] at p; exact False.elim p
      | some i =>
        cases e2 : lstOf st k with
        | none => rw [e1, e2] at p; exact False.elim p
        | some j =>
          rw [e1, e2] at p
          by_cases c : i.length + j.length ≤ lim
          · simp only [if_pos c] at p
            obtain ⟨xs, q1, q2⟩ := S.read h1 e1
            obtain ⟨ys, q3, q4⟩ := S.read h2 e2
            exact .inr (.inr (.inr (.inl ⟨a1, a2, xs, ys, rfl, rfl, q1, q3, by rw [← q2.length, ← q4.length]; exact lim_le c, fun q hq => new_list p Ext.refl S (q2.append q4) q hq⟩)))
          · simp only [if_neg c] at p; exact False.elim p
    | _ => exact False.elim p
  | _ => cases y <;> exact False.elim p⟩
def repS (n : Nat) (x : PySem.Str) : PySem.Str := ⟨(List.replicate n x.cps).foldl (· ++ ·) #[]⟩
end
end J
namespace J
open PySem PySem.Spec PySem.SeqAt PyProof.Rows L2
def mapO {α β : Type} (f : α → Option β) : List α → Option (List β)
  | [] => some []
  | w :: ws => match f w, mapO f ws with
    | some d, some ds => some (d :: ds)
    | _, _ => none
def datum (st : Hs) : Nat → Wv → Option PyData
  | 0, w => match w with
    | .non => some .none
    | .bl b => some (.bool b)
    | .int i => some (.int i)
    | .str x => some (.str x)
    | _ => none
  | n + 1, w => match w with
    | .non => some .none
    | .bl b => some (.bool b)
    | .int i => some (.int i)
    | .str x => some (.str x)
    | .tup ws => (mapO (datum st n) ws).map .tuple
    | .ktp ws => (mapO (datum st n) ws).map .tuple
    | .ref l => match lstOf st l with
      | some ws => (mapO (datum st n) ws).map .list
      | none => none
    | .ty _ => none
    | .cls _ => none
    | .exn _ => none
    | .fn _ _ => none
section
variable {X : Cx} {pins : List (Addr × Obj)} {σ : St} {H : Hp} {s : Shared} {m : Mp} {st : Hs}
def DatOk (h : Heap) (n : Nat) (u : Value) (d : PyData) : Prop := ∃ as, Reads h u d as ∧ d.canLay0 = true ∧ d.depth ≤ n
theorem datums_ok {n : Nat} (ih : ∀ (w : Wv) (a : V) (u : Value) (d : PyData), RelW X.K m H w a → RelV a u → datum st n w = some d → DatOk s.heap n u d) :
    ∀ (ws : List Wv) (xs : List V) (us : List Value) (ds : List PyData), RelWs X.K m H ws xs → Vals xs us → mapO (datum st n) ws = some ds → ∃ as, ReadsAll s.heap us ds as ∧ PyData.canLayAll0 ds = true ∧ PyData.depthAll ds ≤ n
  | [], xs, us, ds, h, r, e => by
    unfold RelWs at h
    subst h
    cases r
    cases e
    exact ⟨[], .nil, rfl, Nat.zero_le _⟩
  | w :: ws, xs, us, ds, h, r, e => by
    unfold RelWs at h
    obtain ⟨x, xr, rfl, h1, h2⟩ := h
    cases r with
    | cons r1 r2 =>
      unfold mapO at e
      cases e1 : datum st n w with
      | none => rw [e1] at e; cases e
      | some d =>
        cases e2 : mapO (datum st n) ws with
        | none => rw [e1, e2] at e; cases e
        | some dr =>
          rw [e1, e2] at e
          cases e
          obtain ⟨as, q1, q2, q3⟩ := ih w x _ d h1 r1 e1
          obtain ⟨bs, p1, p2, p3⟩ := datums_ok ih ws xr _ dr h2 r2 e2
          refine ⟨as ++ bs, .cons q1 p1, ?_, ?_⟩
          · show (PyData.canLay0 d && PyData.canLayAll0 dr) = true
            rw [q2, p2]; rfl
          · show max d.depth (PyData.depthAll dr) ≤ n
            omega
theorem datum_ok (I : Inv X pins σ H s) (S : Sim X.K m st H) : ∀ (n : Nat) (w : Wv) (a : V) (u : Value) (d : PyData), RelW X.K m H w a → RelV a u → datum st n w = some d → DatOk s.heap n u d := by
  intro n
  induction n with
  | zero =>
    intro w a u d h r e
    cases w with
    | non => unfold RelW at h; subst h; cases r; cases e; exact ⟨[], .none, rfl, Nat.le_refl _⟩
    | bl b => unfold RelW at h; subst h; cases r; cases e; exact ⟨[], .bool b, rfl, Nat.le_refl _⟩
    | int i => unfold RelW at h; subst h; obtain ⟨t, rfl⟩ := r; cases e; exact ⟨[], .int i t, rfl, Nat.le_refl _⟩
    | str x => unfold RelW at h; obtain ⟨rfl, hx⟩ := h; obtain ⟨t, rfl⟩ := r; cases e; exact ⟨[], .str x t, hx, Nat.le_refl _⟩
    | tup ws => cases e
    | ktp ws => cases e
    | ref l => cases e
    | ty t => cases e
    | cls t => cases e
    | exn t => cases e
    | fn fp t => cases e
  | succ n ih =>
    intro w a u d h r e
    cases w with
    | non => unfold RelW at h; subst h; cases r; cases e; exact ⟨[], .none, rfl, Nat.zero_le _⟩
    | bl b => unfold RelW at h; subst h; cases r; cases e; exact ⟨[], .bool b, rfl, Nat.zero_le _⟩
    | int i => unfold RelW at h; subst h; obtain ⟨t, rfl⟩ := r; cases e; exact ⟨[], .int i t, rfl, Nat.zero_le _⟩
    | str x => unfold RelW at h; obtain ⟨rfl, hx⟩ := h; obtain ⟨t, rfl⟩ := r; cases e; exact ⟨[], .str x t, hx, Nat.zero_le _⟩
    | ty t => cases e
    | cls t => cases e
    | exn t => cases e
    | fn fp t => cases e
    | tup ws =>
      unfold RelW at h
      obtain ⟨p, xs, rfl, h1, h2⟩ := h
      cases r
      have e' : (mapO (datum st n) ws).map PyData.tuple = some d := e
      cases e2 : mapO (datum st n) ws with
      | none => rw [e2] at e'; cases e'
      | some ds =>
        rw [e2] at e'
        cases e'
        obtain ⟨its, rv, ht, hz⟩ := I.tuple (SqT.of h1)
        obtain ⟨as, q1, q2, q3⟩ := datums_ok ih ws xs its ds h2 rv e2
        obtain ⟨o, ho, hc, k, hd⟩ := ht
        exact ⟨as, .tuple ho hc hd (by simpa using q1), q2, Nat.succ_le_succ q3⟩
    | ktp ws =>
      unfold RelW at h
      obtain ⟨p, xs, rfl, h1, h2⟩ := h
      cases r
      have e' : (mapO (datum st n) ws).map PyData.tuple = some d := e
      cases e2 : mapO (datum st n) ws with
      | none => rw [e2] at e'; cases e'
      | some ds =>
        rw [e2] at e'
        cases e'
        obtain ⟨its, rv, ht, hz⟩ := I.tuple (.inr h1)
        obtain ⟨as, q1, q2, q3⟩ := datums_ok ih ws xs its ds h2 rv e2
        obtain ⟨o, ho, hc, k, hd⟩ := ht
        exact ⟨as, .tuple ho hc hd (by simpa using q1), q2, Nat.succ_le_succ q3⟩
    | ref l =>
      unfold RelW at h
      obtain ⟨p, rfl, h1⟩ := h
      cases r
      have e' : (match lstOf st l with | some ws => (mapO (datum st n) ws).map PyData.list | none => none) = some d := e
      cases e1 : lstOf st l with
      | none => rw [e1] at e'; cases e'
      | some ws =>
        rw [e1] at e'
        have e'' : (mapO (datum st n) ws).map PyData.list = some d := e'
        cases e2 : mapO (datum st n) ws with
        | none => rw [e2] at e''; cases e''
        | some ds =>
          rw [e2] at e''
          cases e''
          obtain ⟨xs, hq, h2⟩ := S.read h1 e1
          obtain ⟨its, rv, ht, hz⟩ := I.list hq
          obtain ⟨as, q1, q2, q3⟩ := datums_ok ih ws xs its ds h2 rv e2
          obtain ⟨o, ho, hc, k, hd⟩ := ht.isList
          exact ⟨_, .list ho hc hd (by simpa using q1), q2, Nat.succ_le_succ q3⟩
end
def oEq : Op2 := fun x y st => match datum st 20 x, datum st 20 y with
  | some a, some b => .ok (.bl (PyData.eqv a b)) st
  | _, _ => .bad
def oNe : Op2 := fun x y st => match datum st 20 x, datum st 20 y with
  | some a, some b => .ok (.bl (!PyData.eqv a b)) st
  | _, _ => .bad
section
variable {X : Cx}
def rDat (K : PySem.W.Frag) (neg : Bool) : R2 := fun a b H Q => ∃ m st x y da db, Sim K m st H ∧ RelW K m H x a ∧ RelW K m H y b ∧ datum st 20 x = some da ∧ datum st 20 y = some db ∧ Q (.bl (if neg then !PyData.eqv da db else PyData.eqv da db)) H
theorem shaped_of {n : Nat} {d : PyData} (hn : n ≤ 64) (h : d.canLay0 = true) (k : d.depth ≤ n) : shaped d = true := by
  unfold shaped
  rw [h, decide_eq_true (Nat.le_trans k hn)]
  rfl
theorem op_eqD (hu : X.A.units + 64 < cLine) : OpR X (compareOp .Eq) (rDat X.K false) := by
  intro pins s σ H a b v u Q I rx ry h
  obtain ⟨m, st, x, y, da, db, S, h1, h2, e1, e2, q⟩ := h
  obtain ⟨as, q1, q2, q3⟩ := datum_ok I S 20 x a v da h1 rx e1
  obtain ⟨bs, p1, p2, p3⟩ := datum_ok I S 20 y b u db h2 ry e2
  exact eq_dataH q1 p1 (shaped_of (by decide) q2 q3) (shaped_of (by decide) p2 p3) hu ⟨.bl _, H, I, rfl, q⟩
theorem op_neD (hu : X.A.units + 64 < cLine) : OpR X (compareOp .NotEq) (rDat X.K true) := by
  intro pins s σ H a b v u Q I rx ry h
  obtain ⟨m, st, x, y, da, db, S, h1, h2, e1, e2, q⟩ := h
  obtain ⟨as, q1, q2, q3⟩ := datum_ok I S 20 x a v da h1 rx e1
  obtain ⟨bs, p1, p2, p3⟩ := datum_ok I S 20 y b u db h2 ry e2
  exact ne_dataH q1 p1 (shaped_of (by decide) q2 q3) (shaped_of (by decide) p2 p3) hu ⟨.bl _, H, I, rfl, q⟩
theorem ow_eq (hu : X.A.units + 64 < cLine) : OpW X (compareOp .Eq) oEq := ⟨_, op_eqD hu, fun x y a b st H m Q S rx ry p => by
  unfold oEq at p
  cases e1 : datum st 20 x with
  | none => rw [e1] at p; exact False.elim p
  | some da =>
    cases e2 : datum st 20 y with
    | none => rw [e1, e2] at p; exact False.elim p
    | some db =>
      rw [e1, e2] at p
      exact ⟨m, st, x, y, da, db, S, rx, ry, e1, e2, p _ m H Ext.refl S mkBl⟩⟩
theorem ow_ne (hu : X.A.units + 64 < cLine) : OpW X (compareOp .NotEq) oNe := ⟨_, op_neD hu, fun x y a b st H m Q S rx ry p => by
  unfold oNe at p
  cases e1 : datum st 20 x with
  | none => rw [e1] at p; exact False.elim p
  | some da =>
    cases e2 : datum st 20 y with
    | none => rw [e1, e2] at p; exact False.elim p
    | some db =>
      rw [e1, e2] at p
      exact ⟨m, st, x, y, da, db, S, rx, ry, e1, e2, p _ m H Ext.refl S mkBl⟩⟩
def flatW : Wv → Bool
  | .non => true
  | .bl _ => true
  | .int _ => true
  | .str _ => true
  | _ => false
def eqF : Wv → Wv → Bool
  | .non, .non => true
  | .bl a, .bl b => a == b
  | .bl a, .int b => (if a then 1 else 0) == b
  | .int a, .bl b => a == (if b then 1 else 0)
  | .int a, .int b => a == b
  | .str a, .str b => a == b
  | _, _ => false
def seqOf (st : Hs) : Wv → Option (List Wv)
  | .tup ws => some ws
  | .ktp ws => some ws
  | .ref l => lstOf st l
  | _ => none
def oIn : Op2 := fun x y st => match seqOf st y with
  | some ws => if flatW x = true ∧ ws.all flatW = true then .ok (.bl (ws.any fun z => eqF z x)) st else .bad
  | none => .bad
def oNotIn : Op2 := fun x y st => match seqOf st y with
  | some ws => if flatW x = true ∧ ws.all flatW = true then .ok (.bl (!(ws.any fun z => eqF z x))) st else .bad
  | none => .bad
theorem flat_rel {m : Mp} {H : Hp} {x : Wv} {a : V} (h : RelW X.K m H x a) (f : flatW x = true) : flatV a = true := by
  cases x with
  | non => unfold RelW at h; subst h; rfl
  | bl b => unfold RelW at h; subst h; rfl
  | int b => unfold RelW at h; subst h; rfl
  | str b => unfold RelW at h; obtain ⟨h, _⟩ := h; subst h; rfl
  | _ => cases f
theorem eqF_rel {m : Mp} {H : Hp} {x y : Wv} {a b : V} (h : RelW X.K m H x a) (k : RelW X.K m H y b) (f : flatW x = true) (g : flatW y = true) : eqV a b = eqF x y := by
  cases x with
  | non =>
    unfold RelW at h; subst h
    cases y with
    | str j => unfold RelW at k; obtain ⟨k, _⟩ := k; subst k; rfl
    | tup j => cases g
    | ktp j => cases g
    | ref j => cases g
    | ty j => cases g
    | cls j => cases g
    | exn j => cases g
    | fn fp j => cases g
    | _ => unfold RelW at k; subst k; rfl
  | bl i =>
    unfold RelW at h; subst h
    cases y with
    | str j => unfold RelW at k; obtain ⟨k, _⟩ := k; subst k; rfl
    | tup j => cases g
    | ktp j => cases g
    | ref j => cases g
    | ty j => cases g
    | cls j => cases g
    | exn j => cases g
    | fn fp j => cases g
    | _ => unfold RelW at k; subst k; rfl
  | int i =>
    unfold RelW at h; subst h
    cases y with
    | str j => unfold RelW at k; obtain ⟨k, _⟩ := k; subst k; rfl
    | tup j => cases g
    | ktp j => cases g
    | ref j => cases g
    | ty j => cases g
    | cls j => cases g
    | exn j => cases g
    | fn fp j => cases g
    | _ => unfold RelW at k; subst k; rfl
  | str i =>
    unfold RelW at h; obtain ⟨h, _⟩ := h; subst h
    cases y with
    | str j => unfold RelW at k; obtain ⟨k, _⟩ := k; subst k; rfl
    | tup j => cases g
    | ktp j => cases g
    | ref j => cases g
    | ty j => cases g
    | cls j => cases g
    | exn j => cases g
    | fn fp j => cases g
    | _ => unfold RelW at k; subst k; rfl
  | _ => cases f
theorem flats_rel {m : Mp} {H : Hp} {x : Wv} {a : V} (h : RelW X.K m H x a) (f : flatW x = true) : ∀ {ws : List Wv} {xs : List V}, RelWs X.K m H ws xs → ws.all flatW = true → xs.all flatV = true ∧ inV a xs = ws.any fun z => eqF z x
  | [], xs, r, _ => by unfold RelWs at r; subst r; exact ⟨rfl, rfl⟩
  | w :: ws, xs, r, g => by
    unfold RelWs at r
    obtain ⟨y, yr, rfl, r1, r2⟩ := r
    rw [List.all_cons, Bool.and_eq_true] at g
    obtain ⟨q1, q2⟩ := flats_rel h f r2 g.2
    constructor
    · rw [List.all_cons, flat_rel r1 g.1, q1]; rfl
    · unfold inV at q2 ⊢
      rw [List.any_cons, List.any_cons, eqF_rel r1 h g.1 f, q2]
theorem seq_rel {m : Mp} {H : Hp} {st : Hs} {y : Wv} {b : V} {ws : List Wv} (S : Sim X.K m st H) (h : RelW X.K m H y b) (e : seqOf st y = some ws) : ∃ p xs, b = .ref p ∧ (SqL X.K H p xs ∨ SqT X.K H p xs) ∧ RelWs X.K m H ws xs := by
  cases y with
  | tup zs =>
    cases e
    unfold RelW at h
    obtain ⟨p, xs, e1, e2, e3⟩ := h
    exact ⟨p, xs, e1, .inr (SqT.of e2), e3⟩
  | ktp zs =>
    cases e
    unfold RelW at h
    obtain ⟨p, xs, e1, e2, e3⟩ := h
    exact ⟨p, xs, e1, .inr (.inr e2), e3⟩
  | ref l =>
    unfold RelW at h
    obtain ⟨p, e1, e2⟩ := h
    obtain ⟨xs, q1, q2⟩ := S.read e2 e
    exact ⟨p, xs, e1, .inl q1, q2⟩
  | _ => cases e
theorem ow_in : OpW X (compareOp .In) oIn := ⟨_, op_in_seq, fun x y a b st H m Q S rx ry p => by
  unfold oIn at p
  cases e : seqOf st y with
  | none => rw [e] at p; exact False.elim p
  | some ws =>
    rw [e] at p
    by_cases c : flatW x = true ∧ ws.all flatW = true
    · simp only [if_pos c] at p
      obtain ⟨q, xs, e1, e2, e3⟩ := seq_rel S ry e
      obtain ⟨f1, f2⟩ := flats_rel rx c.1 e3 c.2
      refine ⟨q, xs, e1, e2, flat_rel rx c.1, f1, ?_⟩
      rw [f2]
      exact p _ m H Ext.refl S mkBl
    · simp only [if_neg c] at p; exact False.elim p⟩
theorem ow_notIn : OpW X (compareOp .NotIn) oNotIn := ⟨_, op_notIn_seq, fun x y a b st H m Q S rx ry p => by
  unfold oNotIn at p
  cases e : seqOf st y with
  | none => rw [e] at p; exact False.elim p
  | some ws =>
    rw [e] at p
    by_cases c : flatW x = true ∧ ws.all flatW = true
    · simp only [if_pos c] at p
      obtain ⟨q, xs, e1, e2, e3⟩ := seq_rel S ry e
      obtain ⟨f1, f2⟩ := flats_rel rx c.1 e3 c.2
      refine ⟨q, xs, e1, e2, flat_rel rx c.1, f1, ?_⟩
      rw [f2]
      exact p _ m H Ext.refl S mkBl
    · simp only [if_neg c] at p; exact False.elim p⟩
def oIx : Op2
  | .str z, .int i, st => if z.length ≤ lim then (match atI z.cps.toList i with | some c => .ok (.str ⟨#[c]⟩) st | none => .bad) else .bad
  | x, .int i, st => match seqOf st x with
    | some ws => (match atI ws i with | some w => .ok w st | none => .bad)
    | none => .bad
  | _, _, _ => .bad
theorem atI_rel {m : Mp} {H : Hp} {ws : List Wv} {xs : List V} {i : Int} {w : Wv} (r : RelWs X.K m H ws xs) (h : atI ws i = some w) : ∃ x, atI xs i = some x ∧ RelW X.K m H w x := by
  unfold atI at h ⊢
  rw [← r.length]
  cases e : ixN ws.length i with
  | none => rw [e] at h; cases h
  | some j => rw [e] at h; exact r.get h
theorem atI_mem {α : Type} {xs : List α} {i : Int} {v : α} (h : atI xs i = some v) : v ∈ xs := by
  obtain ⟨j, _, h2, _⟩ := atI_get h
  exact List.mem_of_getElem? h2
theorem strOk_one {z : PySem.Str} {c : Nat} (h : PyData.strOk z = true) (hc : c ∈ z.cps.toList) : PyData.strOk ⟨#[c]⟩ = true := by
  unfold PyData.strOk at h ⊢
  rw [Array.all_eq_true_iff_forall_mem] at h
  have q := h c (by simpa using hc)
  simpa using q
theorem je_ix {a b : Expr} {ga gb : GE} {pos : Pos} (ha : JE X a ga) (hb : JE X b gb) (hs : PlainIx b := by exact fun _ _ => rfl) : JE X (.Subscript a b pos) (gBin oIx ga gb) :=
  JE.of (pe_ix ix_seq pe_SE pe_SE hs) fun ρ st σ H m Q S R p => read2 (op := oIx) (fun x y a b st H m Q S rx ry p => by
    have seqs : ∀ (i : Int), y = .int i → (match seqOf st x with | some ws => (match atI ws i with | some w => Re.ok w st | none => .bad) | none => .bad) = oIx x y st → rIx X.K a b H Q := fun i hy hp => by
      subst hy
      rw [← hp] at p
      cases e : seqOf st x with
      | none => rw [e] at p; exact False.elim p
      | some ws =>
        rw [e] at p
        dsimp only at p
        cases e1 : atI ws i with
        | none => rw [e1] at p; exact False.elim p
        | some w =>
          rw [e1] at p
          obtain ⟨q, xs, e2, e3, e4⟩ := seq_rel S rx e
          obtain ⟨v, f1, f2⟩ := atI_rel e4 e1
          rcases e3 with e3 | e3
          · exact .inl ⟨q, xs, i, v, e2, relInt ry, e3, f1, p v m H Ext.refl S f2⟩
          · exact .inr (.inl ⟨q, xs, i, v, e2, relInt ry, e3, f1, p v m H Ext.refl S f2⟩)
    cases y with
    | int i =>
      cases x with
      | str z =>
        dsimp only [oIx] at p
        by_cases c : z.length ≤ lim
        · simp only [if_pos c] at p
          cases e1 : atI z.cps.toList i with
          | none => rw [e1] at p; exact False.elim p
          | some ch =>
            rw [e1] at p
            exact .inr (.inr ⟨z, i, ch, (relStr rx).1, relInt ry, lim_le c, e1, p _ m H Ext.refl S (mkStr (strOk_one (relStr rx).2 (atI_mem e1)))⟩)
        · simp only [if_neg c] at p; exact False.elim p
      | _ => exact seqs i rfl rfl
    | _ => cases x <;> exact False.elim p) ha hb S R p
abbrev GO := Rho → Hs → Re (Option Int)
def SO (X : Cx) (e : Option Expr) : TO := fun σ H Q => ∀ (pins : List (Addr × Obj)) (s : Shared), Inv X pins σ H s → wpAny (model X.prog X.w) X.A (evalPart e X.env) (fun u s' => ∃ o H', Inv X pins σ H' s' ∧ IsPart u o ∧ Q o H') X.xe s
theorem po_SO {e : Option Expr} : PO X e (SO X e) := fun pins s _ _ _ I h => h pins s I
def okO (K : PySem.W.Frag) (m : Mp) (H : Hp) (Q : Option Int → Hp → Prop) (o : Option Int) (st : Hs) : Prop := ∀ (m' : Mp) (H' : Hp), Ext K m H m' H' → Sim K m' st H' → Q o H'
def JO (X : Cx) (e : Option Expr) (g : GO) : Prop := ∀ (ρ : Rho) (st : Hs) (σ : St) (H : Hp) (m : Mp) (Q : Option Int → Hp → Prop), Sim X.K m st H → RelEnv X.K m H ρ σ → PostG X σ m H (g ρ st) (okO X.K m H Q) → SO X e σ H Q
def gNoPart : GO := fun _ st => .ok none st
def gPart (g : GE) : GO := fun ρ st => (g ρ st).bind fun w st1 => match w with
  | .int i => .ok (some i) st1
  | _ => .bad
theorem jo_none : JO X none gNoPart := fun ρ st σ H m Q S R p pins s I => po_none pins s σ H Q I (p m H Ext.refl S)
theorem jo_some {e : Expr} {g : GE} (h : JE X e g) : JO X (some e) (gPart g) := fun ρ st σ H m Q S R p pins s I =>
  po_some pe_SE pins s σ H Q I (h.go S R (PostG.bind p) fun w st1 v m1 H1 p1 e1 S1 r1 => by
    cases w with
    | int i => exact ⟨i, relInt r1, p1 m1 H1 e1 S1⟩
    | _ => exact False.elim p1)
theorem JO.go {e : Option Expr} {g : GO} {ρ : Rho} {st : Hs} {σ : St} {H : Hp} {m : Mp} {T : Option Int → Hp → Prop} {ok : Option Int → Hs → Prop} (h : JO X e g) (S : Sim X.K m st H) (R : RelEnv X.K m H ρ σ) (p : PostG X σ m H (g ρ st) ok)
    (k : ∀ (b : Option Int) (st1 : Hs) (m1 : Mp) (H1 : Hp), ok b st1 → Ext X.K m H m1 H1 → Sim X.K m1 st1 H1 → T b H1) : SO X e σ H T :=
  h ρ st σ H m T S R (p.imp Ext.refl fun b st1 q m1 H1 e1 s1 => k b st1 m1 H1 q e1 s1)
def cutW (xs : List Wv) (lo hi : Option Int) : List Wv := (xs.drop (HT.sIx xs.length 0 lo)).take (HT.sIx xs.length xs.length hi - HT.sIx xs.length 0 lo)
def oSl (x : Wv) (lo hi : Option Int) (st : Hs) : Re Wv := match x with
  | .tup ws => if HT.sIx ws.length 0 lo = 0 ∧ HT.sIx ws.length ws.length hi = ws.length then .bad else .ok (.tup (cutW ws lo hi)) st
  | .ref l => match lstOf st l with
    | some ws => .ok (.ref st.length) (st ++ [.lst (cutW ws lo hi)])
    | none => .bad
  | _ => .bad
theorem cut_rel {m : Mp} {H : Hp} {ws : List Wv} {xs : List V} {lo hi : Option Int} (r : RelWs X.K m H ws xs) : RelWs X.K m H (cutW ws lo hi) (cutV xs lo hi) := by
  unfold cutW cutV
  rw [← r.length]
  exact (r.drop _).take _
def gSlice (ga : GE) (gl gh : GO) : GE := fun ρ st => (ga ρ st).bind fun x st1 => (gl ρ st1).bind fun lo st2 => (gh ρ st2).bind fun hi st3 => oSl x lo hi st3
theorem je_slice {a : Expr} {lo hi : Option Expr} {ga : GE} {gl gh : GO} {pos p2 : Pos} (ha : JE X a ga) (hl : JO X lo gl) (hh : JO X hi gh) : JE X (.Subscript a (.Slice lo hi none p2) pos) (gSlice ga gl gh) := by
  refine JE.of (pe_slice (sl_tup.or sl_list) pe_SE po_SO po_SO) fun ρ st σ H m Q S R p => ?_
  refine ha.go S R (PostG.bind p) fun x st1 v m1 H1 p1 e1 S1 rx => ?_
  refine hl.go S1 (R.mono e1) ((PostG.bind p1).imp e1 fun _ _ q => q) fun l st2 m2 H2 p2 e2 S2 => ?_
  refine hh.go S2 (R.mono (e1.trans e2)) ((PostG.bind p2).imp (e1.trans e2) fun _ _ q => q) fun h st3 m3 H3 p3 e3 S3 => ?_
  have e13 := e1.trans (e2.trans e3)
  have rx3 := RelW.mono (e2.trans e3) _ _ rx
  cases x with
  | tup ws =>
    have p3' : PostE X σ m H (if HT.sIx ws.length 0 l = 0 ∧ HT.sIx ws.length ws.length h = ws.length then .bad else .ok (.tup (cutW ws l h)) st3) Q := p3
    by_cases c : HT.sIx ws.length 0 l = 0 ∧ HT.sIx ws.length ws.length h = ws.length
    · rw [if_pos c] at p3'; exact False.elim p3'
    · rw [if_neg c] at p3'
      unfold RelW at rx3
      obtain ⟨q, xs, rfl, f1, f2⟩ := rx3
      refine .inl ⟨q, xs, rfl, SqT.of f1, by rw [← f2.length]; exact c, fun r hr => ?_⟩
      have e4 : Ext X.K m3 H3 m3 (upd H3 r (.tup (cutV xs l h))) := Ext.upd (.inl hr)
      exact p3' (.ref r) m3 _ (e13.trans e4) (S3.fresh hr) (by unfold RelW; exact ⟨r, _, rfl, upd_same, RelWs.mono e4 _ _ (cut_rel f2)⟩)
  | ref k =>
    have p3' : PostE X σ m H (match lstOf st3 k with | some ws => .ok (.ref st3.length) (st3 ++ [.lst (cutW ws l h)]) | none => .bad) Q := p3
    unfold RelW at rx3
    obtain ⟨q, rfl, f1⟩ := rx3
    cases e : lstOf st3 k with
    | none => rw [e] at p3'; exact False.elim p3'
    | some ws =>
      rw [e] at p3'
      obtain ⟨xs, g1, g2⟩ := S3.read f1 e
      exact .inr ⟨q, xs, rfl, g1, fun r hr => new_list p3' e13 S3 (cut_rel g2) r hr⟩
  | _ => exact False.elim p3
end
end J
namespace J
open PySem PySem.Spec PyProof.Rows L2
section
variable {X : Cx}
def CallW (X : Cx) (f : Value) (op : List Wv → Hs → Re Wv) : Prop := ∃ r, CallR X f r ∧ ∀ (ws : List Wv) (vs : List V) (st : Hs) (H : Hp) (m : Mp) (Q : VK), Sim X.K m st H → RelWs X.K m H ws vs → PostO X.K m H (op ws st) Q → r vs H Q
def gCallB (op : List Wv → Hs → Re Wv) (g : GA) : GE := fun ρ st => (g ρ st).bind fun ws st1 => (op ws st1).nox
theorem je_callB {x : Str} {id : String} {p pos : Pos} {e : Expr} {es : List Expr} {g : GA} {op : List Wv → Hs → Re Wv} (hc : CallW X (.builtin id) op) (hg : Gl X x) (hm : X.mg x = none) (hv : bootBuiltins x = some (.builtin id)) (ha : JA X (e :: es) g)
    (hn : x ≠ "__name__" := by decide) (hdb : (x == ("__debug__" : Str)) = false := by decide) (he : starEach (e :: es) X.env = (false, eval e X.env) :: starEach es X.env := by rfl) (hpl : (backTo pos (starEach es X.env)).any (·.1) = false := by rfl) :
    JE X (.Call (.Name x p) (e :: es) [] pos) (gCallB op g) := by
  obtain ⟨r, h1, h2⟩ := hc
  refine JE.of (pe_callB h1 hg hm hv pa_SA hn hdb he hpl) fun ρ st σ H m Q S R p => ?_
  exact ha.go S R (PostG.bind p) fun ws st1 vs m1 H1 p1 e1 S1 rs => h2 ws vs st1 H1 m1 Q S1 rs (PostO.shift (PostG.nox p1) e1)
theorem je_callTy {x : Str} {T : String} {p pos : Pos} {e : Expr} {es : List Expr} {g : GA} {op : List Wv → Hs → Re Wv} (hc : CallW X (.type T) op) (hg : Gl X x) (hm : X.mg x = none) (hv : bootBuiltins x = some (.type T)) (ha : JA X (e :: es) g)
    (hn : x ≠ "__name__" := by decide) (hdb : (x == ("__debug__" : Str)) = false := by decide) (he : starEach (e :: es) X.env = (false, eval e X.env) :: starEach es X.env := by rfl) (hpl : (backTo pos (starEach es X.env)).any (·.1) = false := by rfl) :
    JE X (.Call (.Name x p) (e :: es) [] pos) (gCallB op g) := by
  obtain ⟨r, h1, h2⟩ := hc
  refine JE.of (pe_callTy h1 hg hm hv pa_SA hn hdb he hpl) fun ρ st σ H m Q S R p => ?_
  exact ha.go S R (PostG.bind p) fun ws st1 vs m1 H1 p1 e1 S1 rs => h2 ws vs st1 H1 m1 Q S1 rs (PostO.shift (PostG.nox p1) e1)
theorem rel1 {m : Mp} {H : Hp} {w : Wv} {vs : List V} (r : RelWs X.K m H [w] vs) : ∃ v, vs = [v] ∧ RelW X.K m H w v := by
  unfold RelWs at r
  obtain ⟨v, t, rfl, h1, h2⟩ := r
  unfold RelWs at h2
  subst h2
  exact ⟨v, rfl, h1⟩
theorem rel2 {m : Mp} {H : Hp} {w w' : Wv} {vs : List V} (r : RelWs X.K m H [w, w'] vs) : ∃ v v', vs = [v, v'] ∧ RelW X.K m H w v ∧ RelW X.K m H w' v' := by
  unfold RelWs at r
  obtain ⟨v, t, rfl, h1, h2⟩ := r
  obtain ⟨v', rfl, h3⟩ := rel1 h2
  exact ⟨v, v', rfl, h1, h3⟩
def oLen : List Wv → Hs → Re Wv
  | [.str z], st => if z.length ≤ lim then .ok (.int z.length) st else .bad
  | [x], st => match seqOf st x with
    | some ws => .ok (.int ws.length) st
    | none => .bad
  | _, _ => .bad
theorem cw_len : CallW X (.builtin "len") oLen := ⟨_, call_len_seq.or call_len_str, fun ws vs st H m Q S r p => by
  match ws, r, p with
  | [], r, p => exact False.elim p
  | x :: y :: t, r, p => cases x <;> exact False.elim p
  | [x], r, p =>
    obtain ⟨v, rfl, rx⟩ := rel1 r
    have seqs : (match seqOf st x with | some ws => Re.ok (Wv.int ws.length) st | none => .bad) = oLen [x] st → (∃ p ys, [v] = [V.ref p] ∧ (SqL X.K H p ys ∨ SqT X.K H p ys) ∧ Q (.int ys.length) H) := fun hp => by
      rw [← hp] at p
      cases e : seqOf st x with
      | none => rw [e] at p; exact False.elim p
      | some ws =>
        rw [e] at p
        obtain ⟨q, xs, rfl, e2, e3⟩ := seq_rel S rx e
        refine ⟨q, xs, rfl, e2, ?_⟩
        rw [← e3.length]
        exact p _ m H Ext.refl S mkInt
    cases x with
    | str z =>
      have p' : PostO X.K m H (if z.length ≤ lim then .ok (.int z.length) st else .bad) Q := p
      by_cases c : z.length ≤ lim
      · rw [if_pos c] at p'
        obtain ⟨rfl, _⟩ := relStr rx
        exact .inr ⟨z, rfl, lim_le c, p' _ m H Ext.refl S mkInt⟩
      · rw [if_neg c] at p'; exact False.elim p'
    | _ => exact .inl (seqs rfl)⟩
def oAbs : List Wv → Hs → Re Wv
  | [.int i], st => .ok (.int (if i < 0 then -i else i)) st
  | _, _ => .bad
theorem cw_abs : CallW X (.builtin "abs") oAbs := ⟨_, call_abs, fun ws vs st H m Q S r p => by
  match ws, r, p with
  | [], r, p => exact False.elim p
  | x :: y :: t, r, p => cases x <;> exact False.elim p
  | [x], r, p =>
    obtain ⟨v, rfl, rx⟩ := rel1 r
    cases x with
    | int i => cases relInt rx; exact ⟨i, rfl, p _ m H Ext.refl S mkInt⟩
    | _ => exact False.elim p⟩
def isW (st : Hs) (T : String) : Wv → Option Bool
  | .non => some false
  | .bl _ => some (T == "bool" || T == "int")
  | .int _ => some (T == "int")
  | .str _ => some (T == "str")
  | .tup _ => some (T == "tuple")
  | .ktp _ => none
  | .ref l => (lstOf st l).map fun _ => T == "list"
  | .ty _ => none
  | .cls _ => none
  | .exn _ => none
  | .fn _ _ => none
def okTy (T : String) : Bool := T == "int" || T == "str" || T == "bool" || T == "tuple" || T == "list"
def oIsI : List Wv → Hs → Re Wv
  | [x, .ty T], st => if okTy T = true then (match isW st T x with | some b => .ok (.bl b) st | none => .bad) else .bad
  | _, _ => .bad
def rIsI (K : PySem.W.Frag) : List V → Hp → VK → Prop := fun vs H Q => ∃ m st x T v b, vs = [v, .ty T] ∧ Sim K m st H ∧ RelW K m H x v ∧ okTy T = true ∧ isW st T x = some b ∧ Q (.bl b) H
theorem call_isI : CallR X (.builtin "isinstance") (rIsI X.K) := by
  intro pins s σ H xs us Q I r h
  obtain ⟨m, st, x, T, v, b, rfl, S, rx, hT, hb, q⟩ := h
  obtain ⟨u, u', rfl, r1, r2⟩ := vals2 r
  cases r2
  have fin : ∀ tk, EP X pins σ Q (.bool b) { s with toks := tk } := fun tk => ⟨.bl b, H, I.tok tk, rfl, q⟩
  have fin0 : EP X pins σ Q (.bool b) s := ⟨.bl b, H, I, rfl, q⟩
  unfold okTy at hT
  simp only [Bool.or_eq_true, beq_iff_eq] at hT
  cases x with
  | non =>
    unfold RelW at rx; subst rx; cases r1
    cases hb
    rcases hT with (((rfl | rfl) | rfl) | rfl) | rfl <;>
      exact call_isinstance (isinstance_false_none (by decide) (by kernel_rfl) (by rw [isSubtype_type]; kernel_rfl)) (fin _)
  | bl c =>
    unfold RelW at rx; subst rx; cases r1
    rcases hT with (((rfl | rfl) | rfl) | rfl) | rfl <;> cases hb <;> first
      | exact call_isinstance_yes (Tx := "bool") rfl (by kernel_rfl) (by rw [isSubtype_type]; kernel_rfl) fin0
      | exact call_isinstance (isinstance_false_bool (by decide) (by kernel_rfl) (by rw [isSubtype_type]; kernel_rfl)) (fin _)
  | int c =>
    unfold RelW at rx; subst rx; obtain ⟨t, rfl⟩ := r1
    rcases hT with (((rfl | rfl) | rfl) | rfl) | rfl <;> cases hb <;> first
      | exact call_isinstance_yes (Tx := "int") (typeIs_int s c t) (by kernel_rfl) (by rw [isSubtype_type]; kernel_rfl) fin0
      | exact call_isinstance (isinstance_false_int (by decide) (by kernel_rfl) (by rw [isSubtype_type]; kernel_rfl)) (fin _)
  | str c =>
    obtain ⟨rfl, _⟩ := relStr rx; obtain ⟨t, rfl⟩ := r1
    rcases hT with (((rfl | rfl) | rfl) | rfl) | rfl <;> cases hb <;> first
      | exact call_isinstance_yes (Tx := "str") (typeIs_str s c t) (by kernel_rfl) (by rw [isSubtype_type]; kernel_rfl) fin0
      | exact call_isinstance (isinstance_false_str (by decide) (by kernel_rfl) (by rw [isSubtype_type]; kernel_rfl)) (fin _)
  | ktp ws => cases hb
  | tup ws =>
    unfold RelW at rx; obtain ⟨a, xs, rfl, h1, h2⟩ := rx; cases r1
    obtain ⟨its, rv, ht, hz⟩ := I.tuple (SqT.of h1)
    have hty := ht.typeIs
    obtain ⟨o, ho, hc, k, hd⟩ := ht
    rcases hT with (((rfl | rfl) | rfl) | rfl) | rfl <;> cases hb <;> first
      | exact call_isinstance_yes (Tx := "tuple") hty (by kernel_rfl) (by rw [isSubtype_type]; kernel_rfl) fin0
      | exact call_isinstance (isinstance_false_tuple (by decide) (by kernel_rfl) (by rw [isSubtype_type]; kernel_rfl)) ⟨⟨o, ho, hc⟩, fin _⟩
  | ref l =>
    unfold RelW at rx; obtain ⟨a, rfl, h1⟩ := rx; cases r1
    have hb' : (lstOf st l).map (fun _ => T == "list") = some b := hb
    cases e : lstOf st l with
    | none => rw [e] at hb'; cases hb'
    | some ws =>
      rw [e] at hb'
      obtain ⟨xs, hq, h2⟩ := S.read h1 e
      obtain ⟨its, rv, ht, hz⟩ := I.list hq
      have hty := ht.isList.typeIs
      obtain ⟨o, ho, hc, k, hd⟩ := ht.isList
      rcases hT with (((rfl | rfl) | rfl) | rfl) | rfl <;> cases hb' <;> first
        | exact call_isinstance_yes (Tx := "list") hty (by kernel_rfl) (by rw [isSubtype_type]; kernel_rfl) fin0
        | exact call_isinstance (isinstance_false_list (by decide) (by kernel_rfl) (by rw [isSubtype_type]; kernel_rfl)) ⟨⟨o, ho, hc⟩, fin _⟩
  | ty t => cases hb
  | cls t => cases hb
  | exn t => cases hb
  | fn fp t => cases hb
theorem cw_isI : CallW X (.builtin "isinstance") oIsI := ⟨_, call_isI, fun ws vs st H m Q S r p => by
  match ws, r, p with
  | [], r, p => exact False.elim p
  | [x], r, p => cases x <;> exact False.elim p
  | x :: y :: z :: t, r, p => cases y <;> exact False.elim p
  | [x, y], r, p =>
    obtain ⟨v, v', rfl, rx, ry⟩ := rel2 r
    cases y with
    | ty T =>
      unfold RelW at ry
      subst ry
      have p' : PostO X.K m H (if okTy T = true then (match isW st T x with | some b => .ok (.bl b) st | none => .bad) else .bad) Q := p
      by_cases c : okTy T = true
      · rw [if_pos c] at p'
        cases e : isW st T x with
        | none => rw [e] at p'; exact False.elim p'
        | some b => rw [e] at p'; exact ⟨m, st, x, T, v, b, rfl, S, rx, c, e, p' _ m H Ext.refl S mkBl⟩
      · rw [if_neg c] at p'; exact False.elim p'
    | _ => exact False.elim p⟩
def gNext : GS := fun ρ st => .nx ρ st
def gSeq (g h : GS) : GS := fun ρ st => match g ρ st with
  | .nx ρ' st' => h ρ' st'
  | r => r
theorem jss_nil : JSs X [] gNext := JSs.of pss_nil fun ρ st σ H m D S R p => p σ m H Ext.refl S R
theorem jss_cons {s : Stmt} {rest : List Stmt} {g h : GS} (h1 : JS X s g) (h2 : JSs X rest h) : JSs X (s :: rest) (gSeq g h) :=
  JSs.of (pss_cons ps_SS pss_SSs) fun ρ st σ H m D S R p => h1 ρ st σ H m _ S R (by
    unfold gSeq at p
    cases e : g ρ st with
    | nx ρ' st' => rw [e] at p; exact fun σ' m' H' e' S' R' => h2 ρ' st' σ' H' m' D S' R' (PostS.shift p e')
    | rt w st' => rw [e] at p; exact p
    | bk ρ' st' => rw [e] at p; exact p
    | ct ρ' st' => rw [e] at p; exact p
    | err c ρ' st' => rw [e] at p; exact p
    | bad => rw [e] at p; exact p)
theorem jss_one {s : Stmt} {g : GS} (h1 : JS X s g) : JSs X [s] g := JSs.of (pss_one ps_SS) fun ρ st σ H m D S R p => h1 ρ st σ H m D S R p
def gRet (g : GE) : GS := fun ρ st => (g ρ st).thn ρ fun w st' => .rt w st'
theorem js_ret {e : Expr} {g : GE} {pos : Pos} (h : JE X e g) : JS X (.Return (some e) pos) (gRet g) :=
  JS.of (ps_ret pe_SE) fun ρ st σ H m D S R p => h.go S R (PostS.of_thn R p) fun w st1 v m1 H1 q e1 S1 r1 => q v m1 H1 e1 S1 r1
def gExpr (g : GE) : GS := fun ρ st => (g ρ st).thn ρ fun _ st' => .nx ρ st'
theorem js_expr {e : Expr} {g : GE} {pos : Pos} (h : JE X e g) (hs : swapsWith e none pos.line X.env = pure false := by rfl) : JS X (.Expr e pos) (gExpr g) :=
  JS.of (ps_expr pe_SE hs) fun ρ st σ H m D S R p => h.go S R (PostS.of_thn R p) fun w st1 v m1 H1 q e1 S1 r1 => q σ m1 H1 e1 S1 (R.mono e1)
def gIf (gt : GT) (ga gb : GS) : GS := fun ρ st => (gt ρ st).thn ρ fun b st' => if b = true then ga ρ st' else gb ρ st'
theorem js_if {c : Expr} {a b : List Stmt} {gt : GT} {ga gb : GS} {pos : Pos} (hc : JT X c gt) (ha : JSs X a ga) (hb : JSs X b gb) : JS X (.If c a b pos) (gIf gt ga gb) :=
  JS.of (ps_if pt_ST pss_SSs pss_SSs) fun ρ st σ H m D S R p => hc.go S R (PostS.of_thn R p) fun k st1 m1 H1 q e1 S1 => by
    cases k with
    | true => rw [if_pos rfl] at q ⊢; exact ha ρ st1 σ H1 m1 D S1 (R.mono e1) (PostS.shift q e1)
    | false => rw [if_neg Bool.false_ne_true] at q ⊢; exact hb ρ st1 σ H1 m1 D S1 (R.mono e1) (PostS.shift q e1)
def gSet (i : Nat) (g : GE) : GS := fun ρ st => (g ρ st).thn ρ fun w st' => .nx (ρ.set i (some w)) st'
theorem js_set (i : Nat) {x : Str} {e : Expr} {g : GE} {pos pos' : Pos} (hN : X.N.Nodup) (h : JE X e g) (hi : X.N[i]? = some x := by rfl) (hx : Loc X.env.scope x := by first | exact Or.inl rfl | exact Or.inr rfl) (hs : swapsWith e (some (.Name x pos')) pos.line X.env = pure false := by rfl)
    (hf : X.fn x = true ∨ X.env.scope.names.lookup x = some .local := by first | exact .inl rfl | exact .inr rfl | assumption) : JS X (.Assign [.Name x pos'] e pos) (gSet i g) :=
  JS.of (ps_set hN hi hx pe_SE hs hf) fun ρ st σ H m D S R p => h.go S R (PostS.of_thn R p) fun w st1 v m1 H1 q e1 S1 r1 => q _ m1 H1 e1 S1 ((R.mono e1).set i r1)
def gNever : GS := fun _ _ => .bad
theorem js_never {s : Stmt} : JS X s gNever := JS.of ps_never fun ρ st σ H m D S R p => p
theorem jss_never {s : List Stmt} : JSs X s gNever := JSs.of pss_never fun ρ st σ H m D S R p => p
def oSet (o i v : Wv) (ρ : Rho) (st : Hs) : Rs := match o, i with
  | .ref l, .int k => match st[l]? with
    | some (.lst ws) => (match ixN ws.length k with | some j => .nx ρ (st.set l (.lst (ws.set j v))) | none => .bad)
    | _ => .bad
  | _, _ => .bad
def gSetI (ge go gi : GE) : GS := fun ρ st => (ge ρ st).thn ρ fun v st1 => (go ρ st1).thn ρ fun o st2 => (gi ρ st2).thn ρ fun i st3 => oSet o i v ρ st3
theorem js_setI {o i e : Expr} {go gi ge : GE} {pos pos' : Pos} (he : JE X e ge) (ho : JE X o go) (hi : JE X i gi) (hs : swapsWithSole [.Subscript o i pos'] e pos.line X.env = pure false := by rfl) (hw : swappedStores [.Subscript o i pos'] e X.env = pure none := by rfl)
    (h1 : (assignEach [.Subscript o i pos'] X.env).map (·.2) = [assign (.Subscript o i pos') X.env] := by rfl)
    (ha : ∀ v, assign (.Subscript o i pos') X.env v = (do
      let ov ← holding [v] (eval o X.env)
      let iv ← holding [v, ov] (eval i X.env)
      standAt pos'
      holding [v, ov, iv] (setItem ov iv v)
      release [v, ov, iv] []) := by intro _; rfl) : JS X (.Assign [.Subscript o i pos'] e pos) (gSetI ge go gi) := by
  refine JS.of (ps_asg pe_SE (pg_sub pe_SE pe_SE set_list ha) hs hw h1) fun ρ st σ H m D S R p => ?_
  refine he.go S R (PostS.of_thn R p) fun v st1 vv m1 H1 p1 e1 S1 rv => ?_
  refine ho.go S1 (R.mono e1) ((PostS.of_thn (m := m) (H := H) R p1).imp e1 fun _ _ q => q) fun o' st2 ov m2 H2 p2 e2 S2 ro => ?_
  refine hi.go S2 (R.mono (e1.trans e2)) ((PostS.of_thn (m := m) (H := H) R p2).imp (e1.trans e2) fun _ _ q => q) fun i' st3 iv m3 H3 p3 e3 S3 ri => ?_
  have e13 := e1.trans (e2.trans e3)
  cases o' with
  | ref l =>
    cases i' with
    | int k =>
      have p3' : PostS X m H (match st3[l]? with | some (.lst ws) => (match ixN ws.length k with | some j => .nx ρ (st3.set l (.lst (ws.set j v))) | none => .bad) | _ => .bad) D := p3
      have ro3 := RelW.mono e3 _ _ ro
      unfold RelW at ro3
      obtain ⟨a, rfl, f1⟩ := ro3
      cases e : st3[l]? with
      | none => rw [e] at p3'; exact False.elim p3'
      | some ob =>
        cases ob with
        | dct kvs => rw [e] at p3'; exact False.elim p3'
        | dcT kvs => rw [e] at p3'; exact False.elim p3'
        | dcF kvs => rw [e] at p3'; exact False.elim p3'
        | scr ns => rw [e] at p3'; exact False.elim p3'
        | lst ws =>
          rw [e] at p3'
          cases ej : ixN ws.length k with
          | none => simp only [ej] at p3'; exact False.elim p3'
          | some j =>
            simp only [ej] at p3'
            obtain ⟨xs, g1, g2⟩ := S3.lstAt f1 e
            refine ⟨a, xs, k, j, rfl, relInt ri, g1, by rw [← g2.length]; exact ej, ?_⟩
            have rv3 := RelW.mono (e2.trans e3) _ _ rv
            have e4 : Ext X.K m3 H3 m3 (upd H3 a (.lst (xs.set j vv))) := Ext.upd (.inr ⟨xs, g1⟩)
            exact p3' σ m3 _ (e13.trans e4) (S3.write f1 e (g2.set j rv3)) (R.mono (e13.trans e4))
    | _ => exact False.elim p3
  | _ => cases i' <;> exact False.elim p3
open Classical in
noncomputable def forL (i : Nat) (gb : GS) (l : Nat) (all : List Wv) : List Wv → Rho → Hs → Rs
  | [], ρ, st => .nx ρ st
  | w :: r, ρ, st => match gb (ρ.set i (some w)) st with
    | .nx ρ' st' => if lstOf st' l = some all then forL i gb l all r ρ' st' else .bad
    | .ct ρ' st' => if lstOf st' l = some all then forL i gb l all r ρ' st' else .bad
    | .bk ρ' st' => .nx ρ' st'
    | .rt w st' => .rt w st'
    | .err c ρ' st' => .err c ρ' st'
    | .bad => .bad
end
end J
namespace J
open PySem PySem.Spec PyProof.Rows L2
def CXJ (P : Program) (w : World) : CXT := fun outer H s E e s' => ∃ H' C, Flown P w outer H s H' (.ref C) e s' ∧ E (.ref C) none H'
section
variable {X : Cx} {pins : List (Addr × Obj)} {σ : St} {Hc H' : Hp} {sc s' : Shared} {cls e : Value} {E : Value → Shared → Prop} {Q : Unit → Shared → Prop}
theorem old_ne (I : Inv X pins σ Hc sc) {b : Addr} {o : Obj} (q : X.s₀.heap.get? b = some o) : b ≠ X.env.locals := fun z => by
  have h1 := Heap.lt_size q
  have h2 := I.ok.above
  rw [z] at h1
  exact absurd (Nat.lt_of_lt_of_le h1 h2) (Nat.lt_irrefl _)
theorem old_out (I : Inv X pins σ Hc sc) (hst : X.stack = X.env :: X.outer) (hf : X.env.frame = some X.env.locals) {b : Addr} {o : Obj} (q : X.s₀.heap.get? b = some o) (hb : b ∉ frs X.outer) : b ∉ frs X.stack := fun z => by
  rw [hst] at z
  unfold frs at z
  rw [List.filterMap_cons, hf] at z
  rcases List.mem_cons.mp z with z | z
  · exact old_ne I q z
  · exact hb z
theorem in_stack (hst : X.stack = X.env :: X.outer) (hf : X.env.frame = some X.env.locals) {b : Addr} (hb : b ∈ frs X.outer) : b ∈ frs X.stack := by
  rw [hst]
  unfold frs
  rw [List.filterMap_cons, hf]
  exact List.mem_cons_of_mem _ hb
theorem note_any {M : Model} {A : Around} {E : Value → Shared → Prop} {s : Shared} {base : Heap} {env : Env} {outer : List Env} {L e : Addr} {cls a0 nt : Value} {Q : Unit → Shared → Prop} (hfr : A.frames = some (env :: outer)) (hf : env.frame = some L)
    (x : base.StaysIn s.heap ∧ base.get? e = none ∧ s.heap.FunFrames base (env :: outer) ∧ TrX s.heap base e cls a0 nt) (k : ∀ h', HeldX base (env :: outer) e cls a0 L h' → s.heap.UpToSlots h' → Q () { s with heap := h' }) :
    wpAny M A (noteFrame (.ref e) env) Q E s := by
  obtain ⟨x1, x2, x3, x4⟩ := x
  by_cases z : nt = rawInt L
  · subst z
    exact againX hf x4 (k s.heap ⟨x1, x2, x3, x4⟩ (Heap.UpToSlots.refl _))
  · obtain ⟨ox, us, T, ot, ws, g1, ⟨g2, g3⟩, g4, g5, g6, g7, g8, g9, g10⟩ := x4
    subst g2
    have apart : ∀ b, b ≠ T → (s.heap.update T (Obj.mapFields (·.setIfInBounds 3 Value.none))).get? b = s.heap.get? b := fun b hb => Heap.get?_update_other _ _ (Ne.symm hb)
    have plain : ∀ b o, s.heap.get? b = some o → (∀ vs, o.data ≠ .fields vs) → b ≠ T := fun b o hb hd q => by
      subst q
      rw [g8] at hb
      cases hb
      exact hd ws g9
    unfold noteFrame
    simp only [hf]
    refine wpAny_bind (wpAny_field g1 g4 g5 ?_)
    rw [if_pos (show (Value.ref T != Value.none) = true from by simp)]
    refine wpAny_bind (wpAny_field g8 g9 g10 ?_)
    rw [if_neg (show ¬ ((nt == rawInt L) = true) from by simpa using z)]
    refine wpAny_bind (wpAny_setField g8 g9 (Array.getElem?_eq_some_iff.mp g10).1 ?_)
    refine entryX (a0 := a0) hfr (x3.of_keeps fun b o hb hd => ⟨o, (apart b (plain b o hb hd)).trans hb, rfl⟩) hf ((apart e (Ne.symm g7)).trans g1) (fun b o hb => (apart b fun q => by rw [q, g6] at hb; cases hb).trans (x1 b o hb)) x2 g4 (Array.getElem?_eq_some_iff.mp g5).1 g3 fun h' y y4 => ?_
    exact k h' y fun b o hb hd => y4 b o ((apart b (plain b o hb hd)).trans hb) hd
theorem note_made {M : Model} {A : Around} {E : Value → Shared → Prop} {s : Shared} {base h : Heap} {env : Env} {outer : List Env} {L a : Addr} {cls : Value} {args : List Value} {Q : Unit → Shared → Prop} (hfr : A.frames = some (env :: outer)) (hf : env.frame = some L)
    (st : base.StaysIn h) (fs : h.FunFrames base (env :: outer)) (mk : Heap.MadeExcOf h s.heap a cls args) (k : ∀ h' a0, HeldX base (env :: outer) a cls a0 L h' → s.heap.UpToSlots h' → Q () { s with heap := h' }) :
    wpAny M A (noteFrame (.ref a) env) Q E s := by
  obtain ⟨t, e1, e2, e3⟩ := mk.there
  have fresh : ∀ b, h.get? b = none → base.get? b = none := fun b hb => by
    cases q : base.get? b with
    | none => rfl
    | some o' => have z := st b o' q; rw [hb] at z; cases z
  have fs' := fs.of_keeps (h' := s.heap) fun b o hb _ => ⟨o, mk.keeps b o hb, rfl⟩
  unfold noteFrame
  simp only [hf]
  refine wpAny_bind (wpAny_field e1 rfl (x := .none) rfl ?_)
  rw [if_neg (by decide)]
  exact entryX hfr fs' hf e1 (fun b o hb => mk.keeps b o (st b o hb)) (fresh a mk.new) rfl (by simp) (a0 := .ref t) rfl fun h' l1 l4 => k h' (.ref t) l1 l4
theorem un_out {ch : List Addr} (hx : X.ex = []) (hst : X.stack = X.env :: X.outer) (hf : X.env.frame = some X.env.locals) (I : Inv X pins σ Hc sc) {B h2 : Heap} (hch : ∀ b ∈ ch, FpOk X pins Hc b) (un : Un (frs X.stack) ch Hc H' sc.heap s'.heap) (up : s'.heap.UpToSlots h2) (stay : B.StaysIn h2)
    (cov : ∀ b o, sc.heap.get? b = some o → b ∉ frs X.stack → b ∉ ch → ∃ o', B.get? b = some o' ∧ (Hc b = none → o' = o)) :
    Un (frs X.outer) [] X.H₀ H' X.s₀.heap h2 ∧ (∀ b o, X.s₀.heap.get? b = some o → b ∉ frs X.outer → ∃ o', B.get? b = some o' ∧ (X.H₀ b = none → o' = o)) := by
  have nx : ∀ b : Addr, b ∉ X.ex := fun b => by rw [hx]; simp
  have nc : ∀ b o, X.s₀.heap.get? b = some o → b ∉ ch := fun b o q z => by
    rcases (hch b z).2.2.2.1 with y | y
    · exact nx b y
    · exact absurd (Nat.lt_of_lt_of_le (Heap.lt_size q) y) (Nat.lt_irrefl _)
  have cov2 : ∀ b o, X.s₀.heap.get? b = some o → b ∉ frs X.outer → ∃ o', B.get? b = some o' ∧ (X.H₀ b = none → o' = o) := fun b o q hb => by
    obtain ⟨o1, q1⟩ := I.base.there b o q (nx b)
    obtain ⟨o2, q2, q3⟩ := cov b o1 q1 (old_out I hst hf q hb) (nc b o q)
    refine ⟨o2, q2, fun n => ?_⟩
    have q4 := I.base.keep b o q n hb (nx b)
    rw [q4] at q1
    cases q1
    exact q3 (I.base.free b o q n (nx b))
  have sl : ∀ b o, X.s₀.heap.get? b = some o → X.H₀ b = none → b ∈ frs X.outer → ∃ sl, h2.get? b = some { o with slots := sl } := fun b o q n hb => by
    obtain ⟨s1, q1⟩ := I.base.slot b o q n hb (nx b)
    obtain ⟨s2, q2⟩ := un.slot b _ q1 (I.base.free b o q n (nx b)) (in_stack hst hf hb) (nc b o q)
    obtain ⟨_, o3, q3, q4⟩ := I.ok.funs.mem hb
    rw [q] at q3
    cases q3
    obtain ⟨s3, q5⟩ := up b _ q2 q4
    exact ⟨s3, q5⟩
  refine ⟨⟨fun b o q n hb _ => ?_, fun b o q n hb _ => sl b o q n hb, fun b o q n _ => ?_, fun b o q _ => ?_, fun b xs h => un.tups b xs (I.base.tups b xs h), fun b o u h => un.frzs b o u (I.base.frzs b o u h), fun b ps h => ?_⟩, cov2⟩
  · obtain ⟨o2, q2, q3⟩ := cov2 b o q hb
    rw [q3 n] at q2
    exact stay b o q2
  · obtain ⟨o1, q1⟩ := I.base.there b o q (nx b)
    exact un.free b o1 q1 (I.base.free b o q n (nx b)) (nc b o q)
  · by_cases hb : b ∈ frs X.outer
    · obtain ⟨s3, q3⟩ := sl b o q (I.ok.frf b hb) hb
      exact ⟨_, q3⟩
    · obtain ⟨o2, q2, _⟩ := cov2 b o q hb
      exact ⟨o2, stay b o2 q2⟩
  · obtain ⟨m1, t1⟩ := I.base.tbls b ps h
    obtain ⟨m2, t2⟩ := un.tbls b _ t1
    exact ⟨m1 ++ m2, by rw [← Array.append_assoc]; exact t2⟩
theorem leave_flown (hx : X.ex = []) (hst : X.stack = X.env :: X.outer) (hf : X.env.frame = some X.env.locals) (I : Inv X pins σ Hc sc) (F : FlownA X pins Hc sc H' cls e s')
    (k : ∀ s2, Flown X.prog X.w X.outer X.H₀ X.s₀ H' cls e s2 → Q () s2) : wpAny (model X.prog X.w) X.A (leaving X.env e) Q E s' := by
  obtain ⟨a, a0, nt, B, ch, rfl, os, bare, hch, un, hok, fl, cov⟩ := F
  have hfr : X.A.frames = some (X.env :: X.outer) := by rw [I.ok.frames, hst]
  rw [hst] at fl
  unfold leaving
  refine wpAny_bind (note_any hfr hf fl fun h1 hd1 up1 => ?_)
  refine landX hd1 fun h2 fl2 up2 => k _ ?_
  obtain ⟨k1, k2, ⟨_, _, k3⟩, k4⟩ := fl2
  obtain ⟨u2, c2⟩ := un_out hx hst hf I hch un (up1.trans up2) k1 cov
  exact ⟨a, a0, B, rfl, os.trans I.os, bare, u2, hok, ⟨k1, k2, k3, k4⟩, c2⟩
theorem hok_hide {P : Program} {w : World} {H : Hp} {h : Heap} {l : List Addr} (ok : HOk P w H h) (fr : ∀ b ∈ l, H b = none) : HOk P w H (PySem.W.hideAll h l) := fun a o q =>
  (ok a o q).stay (fun b u hb r => PySem.W.hideAll_get _ r fun z => by
    have n := fr b z
    rcases hb with hb | hb
    · rw [hb, q] at n; cases n
    · rw [hb] at n; cases n) (fun _ r => r) fun _ _ r => r
theorem leave_made {a C : Addr} {args : List Value} (hx : X.ex = []) (hst : X.stack = X.env :: X.outer) (hf : X.env.frame = some X.env.locals) (I : Inv X pins σ Hc sc) (ho : s'.os = sc.os) (hgn : s'.gens = sc.gens)
    (M : Heap.MadeExcOf sc.heap s'.heap a (.ref C) args) (k : ∀ s2, Flown X.prog X.w X.outer X.H₀ X.s₀ Hc (.ref C) (.ref a) s2 → Q () s2) : wpAny (model X.prog X.w) X.A (leaving X.env (.ref a)) Q E s' := by
  have hfr : X.A.frames = some (X.env :: X.outer) := by rw [I.ok.frames, hst]
  have fs : sc.heap.FunFrames (PySem.W.hideAll sc.heap (frs X.stack)) (X.env :: X.outer) := by
    rw [← hst]
    exact PySem.W.funFrames_hide I.stack fun env he b hb => List.mem_filterMap.mpr ⟨env, he, hb⟩
  unfold leaving
  refine wpAny_bind (note_made (base := PySem.W.hideAll sc.heap (frs X.stack)) hfr hf (fun b o q => PySem.W.of_hideAll _ q) fs M fun h1 t hd1 up1 => ?_)
  refine landX hd1 fun h2 fl2 up2 => k _ ?_
  have up := up1.trans up2
  replace fl2 : FlyX (PySem.W.hideAll sc.heap (frs X.stack)) X.outer a (.ref C) t h2 := let ⟨k1, k2, ⟨_, _, k3⟩, k4⟩ := fl2; ⟨k1, k2, k3, k4⟩
  obtain ⟨u2, c2⟩ := un_out (H' := Hc) (s' := s') (ch := []) hx hst hf I (fun b z => by cases z) (Un.kept M.keeps) up fl2.1 fun b o q hb _ => ⟨o, PySem.W.hideAll_get _ q hb, fun _ => rfl⟩
  exact ⟨a, t, _, rfl, ho.trans I.os, by rw [show ({ s' with heap := h2 } : Shared).gens = sc.gens from hgn]; exact I.bare, u2, hok_hide I.hok I.stkFree, fl2, c2⟩
end
def PostF (K : PySem.W.Frag) (m : Mp) (H : Hp) (r : Re Wv) (Q : VK) (E : XK) : Prop := match r with
  | .ok w st => okE K m H Q w st
  | .err c st => ∀ (m' : Mp) (H' : Hp) (C : Addr), Ext K m H m' H' → Sim K m' st H' → ClsAt K c C → E (.ref C) none H'
  | .bad => False
def spW (K : PySem.W.Frag) (n : Nat) (F : List Wv → Hs → Re Wv) : Sp := fun vs H Q E => ∃ m st ws, Sim K m st H ∧ RelWs K m H ws vs ∧ ws.length = n ∧ PostF K m H (F ws st) Q E
def gCall (n : Nat) (F : List Wv → Hs → Re Wv) (g : GA) : GE := fun ρ st => (g ρ st).bind fun ws st1 => if ws.length = n then F ws st1 else .bad
section
variable {X : Cx}
theorem je_call {k n : Nat} {f : Addr} {fd : FuncData} {ps : List Str} {F : List Wv → Hs → Re Wv} {x : Str} {p pos : Pos} {e : Expr} {es : List Expr} {g : GA}
    (G : FnOk X.prog X.w X.K X.mg X.base (CXJ X.prog X.w) k f fd ps (spW X.K n F)) (hr : Room k X.A) (hm : X.mg x = some (.ref f)) (hk : PySem.W.keepIn X.K (.ref f) = true) (hb : Binds X.K fd ps []) (ha : JA X (e :: es) g) (hg : Gl X x := by rfl)
    (hdb : (x == ("__debug__" : Str)) = false := by decide) (he : starEach (e :: es) X.env = (false, eval e X.env) :: starEach es X.env := by rfl) (hpl : (backTo pos (starEach es X.env)).any (·.1) = false := by rfl) :
    JE X (.Call (.Name x p) (e :: es) [] pos) (gCall n F g) := by
  intro ρ st σ H m Q S R p pins s I
  have args := ha.go (T := fun vs H1 => ∃ ws st1 m1, PostE X σ m H (if ws.length = n then F ws st1 else .bad) Q ∧ Ext X.K m H m1 H1 ∧ Sim X.K m1 st1 H1 ∧ RelWs X.K m1 H1 ws vs) S R (PostG.bind p)
    fun ws st1 vs m1 H1 p1 e1 S1 rs => ⟨ws, st1, m1, p1, e1, S1, rs⟩
  refine wpAny_Call_Name_kw (ld_glob I hg hm ?_ hdb)
  refine PySem.W.callWith_K (h₀ := X.base) I.ok.mod.kin hk (thn (args pos pins s I) fun us s1 ⟨vs, H1, I1, r, ws, st1, m1, p1, e1, S1, rs⟩ => ⟨I1.kIn, ?_⟩) he hpl
  by_cases c : ws.length = n
  · rw [if_pos c] at p1
    let E : XK := fun cl _ H2 => ∃ c' st2 m2 C, cl = .ref C ∧ ClsAt X.K c' C ∧ F ws st1 = .err c' st2 ∧ Ext X.K m1 H1 m2 H2 ∧ Sim X.K m2 st2 H2
    have sp : spW X.K n F vs H1 Q E := by
      refine ⟨m1, st1, ws, S1, rs, c, ?_⟩
      cases er : F ws st1 with
      | ok w st2 => rw [er] at p1; exact PostE.shift (r := .ok w st2) p1 e1
      | err c' st2 => exact fun m2 H2 C e2 S2 hC => ⟨c', st2, m2, C, rfl, hC, er, e2, S2⟩
      | bad => rw [er] at p1; exact False.elim p1
    have hl : us.length = ps.length := by rw [← r.length]; exact G.len _ _ _ _ sp
    have bd := hb s1 us I1.kIn (by rw [List.append_nil]; exact hl)
    rw [List.append_nil] at bd
    refine wpAny_call (codeAny_mono (G.run X.A X.stack s1 H1 ⟨us, []⟩ us vs Q E hr I1.env0 bd r sp) fun rr s2 hq => ?_)
    cases rr with
    | error x =>
      obtain ⟨H2, C, fl, c', st2, m2, C', ec, hC, er, e2, S2⟩ := hq
      cases ec
      rw [er] at p1
      exact p1 m2 H2 x s2 (e1.trans e2) S2 ⟨C, pins, H1, s1, hC, I1, .inl fl.any⟩
    | ok fw =>
      cases fw with
      | ret u => exact I1.after hq
      | next => exact False.elim hq
      | brk => exact False.elim hq
      | cont => exact False.elim hq
  · rw [if_neg c] at p1; exact False.elim p1
end
def fnF (n : Nat) (g : GS) : List Wv → Hs → Re Wv := fun ws st => match g (ws.map some ++ List.replicate (n - ws.length) none) st with
  | .nx _ st' => .ok .non st'
  | .rt w st' => .ok w st'
  | .err c _ st' => .err c st'
  | _ => .bad
theorem startRel {K : PySem.W.Frag} {m : Mp} {H : Hp} {N : List Str} {ws : List Wv} {vs : List V} (r : RelWs K m H ws vs) (h : ws.length ≤ N.length) : RelEnv K m H (ws.map some ++ List.replicate (N.length - ws.length) none) (L2.start N vs) := by
  have hl := r.length
  refine ⟨by unfold L2.start; simp [hl], fun i w e => ?_⟩
  by_cases hi : i < ws.length
  · rw [List.getElem?_append_left (by simpa using hi), List.getElem?_map] at e
    cases q : ws[i]? with
    | none => rw [q] at e; cases e
    | some w' =>
      rw [q] at e
      cases e
      obtain ⟨x, h1, h2⟩ := r.get q
      refine ⟨x, ?_, h2⟩
      unfold L2.start
      rw [List.getElem?_append_left (by simp; omega), List.getElem?_map, h1]
      rfl
  · rw [List.getElem?_append_right (by simpa using hi), List.getElem?_replicate] at e
    split at e <;> cases e
section
variable {P : Program} {w : World} {K : PySem.W.Frag} {mg : Str → Option Value} {base : Heap}
theorem raised_out {N : List Str} {qual : Str} {scope : Scope} {f : Addr} {cdv : Value} {A : Around} {outer : List Env} {s s' : Shared} {H H' : Hp} {E : XK} {σ : St} {c : PySem.Str} {e : Value}
    (r : Raised (cxOf (CXJ P w) P w K mg base N qual scope f cdv A outer s H E) σ H' c e s') (h : ∀ C, ClsAt K c C → E (.ref C) none H') : (cxOf (CXJ P w) P w K mg base N qual scope f cdv A outer s H E).xe e s' := by
  obtain ⟨C, pins, Hc, sc, hC, I, r⟩ := r
  rcases r with fl | ⟨rfl, a, args, rfl, ho, hg, M⟩
  · exact leave_flown (X := cxOf (CXJ P w) P w K mg base N qual scope f cdv A outer s H E) rfl rfl rfl I fl fun s2 fl2 => ⟨H', C, fl2, h C hC⟩
  · exact leave_made (X := cxOf (CXJ P w) P w K mg base N qual scope f cdv A outer s H E) rfl rfl rfl I ho hg M fun s2 fl2 => ⟨H', C, fl2, h C hC⟩
def CodeOf (K : PySem.W.Frag) (f : Addr) (cdv : Value) : Prop := ∃ o, K.lookup f = some o ∧ ∃ fd, o.data = .func fd ∧ fd.code = cdv
theorem fn_ok {x qual : Str} {st : Stmt} {f : Addr} {fd : FuncData} {N ps : List Str} {k : Nat} {g : GS} (F : Fun K x qual st f fd) (S : FnScope N ps (defScope st))
    (body : ∀ (cdv : Value), CodeOf K f cdv → ∀ (A : Around) (outer : List Env) (s : Shared) (H : Hp) (E : XK), Room k (A.deeper (envOfC qual (defScope st) s.heap.objs.size f cdv)) → JSs (cxOf (CXJ P w) P w K mg base N qual (defScope st) f cdv A outer s H E) (defBody st) g) :
    FnOk P w K mg base (CXJ P w) (k + 1) f fd ps (spW K ps.length (fnF N.length g)) := by
  have hpl : ps.length ≤ N.length := by have := congrArg List.length S.pre; rw [List.length_take] at this; omega
  obtain ⟨oc, od, kV, doc, pm, an, cdv, ct, osl, rfl, lk, hcd⟩ := F.ex
  refine fn_of lk hcd S (fun vs H Q E h => ?_) fun A outer s H vs Q E hr h => ?_
  · obtain ⟨m, st', ws, _, r, hl, _⟩ := h
    rw [← r.length]; exact hl
  · obtain ⟨m, st', ws, S', r, hl, p⟩ := h
    refine ⟨_, pss_SSs, ?_⟩
    refine body cdv ⟨_, lk, _, rfl, rfl⟩ A outer s H E hr _ st' _ H m _ S' (startRel r (by omega)) ?_
    unfold fnF at p
    cases e : g (ws.map some ++ List.replicate (N.length - ws.length) none) st' with
    | nx ρ st2 => rw [e] at p; exact fun σ m' H' e' S2 R2 => p _ m' H' e' S2 (by unfold RelW; rfl)
    | rt w' st2 => rw [e] at p; exact p
    | bk ρ st2 => rw [e] at p; exact False.elim p
    | ct ρ st2 => rw [e] at p; exact False.elim p
    | err c ρ st2 => rw [e] at p; exact fun σ m' H' x s' e' S2 R2 rz => raised_out rz fun C hC => p m' H' C e' S2 hC
    | bad => rw [e] at p; exact False.elim p
end
def OnlyT (H : Hp) : Prop := ∀ b, H b = none ∨ (∃ o xs, H b = some (.frz o (.lst xs))) ∨ H b = some (.tbl #[])
theorem OnlyT.of {H : Hp} (h : Only H) : OnlyT H := fun b => by
  rcases h b with q | q
  · exact .inl q
  · exact .inr (.inl q)
theorem law_sp {K : PySem.W.Frag} {F : List Wv → Hs → Re Wv} (h : ∀ ns : List Int, ns.length ≤ 63 → ∃ st, F [.ref 0] [.scr ns] = .ok (.bl true) st) (H : Hp) (a : Addr) (ns : List Int) (hl : ns.length ≤ 63) (hO : OnlyT H) (hS : SqL K H a (ns.map V.int)) (hT : TbOk K H) :
    spW K 1 F [.ref a] H (fun v _ => v = .bl true) fun _ _ _ => False := by
  obtain ⟨st, e⟩ := h ns hl
  refine ⟨[a], [.scr ns], [.ref 0], ⟨rfl, fun l b o h1 h2 => ?_, fun l l' b ws ws' _ _ h2 _ k _ => ?_, hT⟩, RelWs.cons (by unfold RelW; exact ⟨a, rfl, rfl⟩) RelWs.nil, rfl, ?_⟩
  · cases l with
    | zero =>
      simp at h1 h2
      subst h1 h2
      show ScrOk K H a ns
      rcases hS with (q | ⟨o', q⟩) | q
      · rcases hO a with z | ⟨o', xs, z⟩ | z
        · rw [z] at q; cases q
        · rw [z] at q; cases q
        · rw [z] at q; cases q
      · exact .inl ⟨o', q⟩
      · exact .inr q
    | succ l => simp at h1
  · cases l with
    | zero => simp at h2; subst h2; simp [Ob.mu] at k
    | succ l => simp at h2
  · rw [e]
    intro v m' H' _ _ r
    unfold RelW at r
    exact r
end J
namespace J
open PySem PySem.Spec PyProof.Rows L2
def truW (w : Wv) (st : Hs) : Re Bool := match w with
  | .non => .ok false st
  | .bl b => .ok b st
  | .int i => .ok (i != 0) st
  | .str y => if y.length ≤ lim then .ok ((y.length : Int) != 0) st else .bad
  | .tup ws => .ok (!ws.isEmpty) st
  | .ktp _ => .bad
  | .ref l => match lstOf st l with
    | some ws => .ok (!ws.isEmpty) st
    | none => .bad
  | .ty _ => .bad
  | .cls _ => .bad
  | .exn _ => .bad
  | .fn _ _ => .bad
def gTru (g : GE) : GT := fun ρ st => (g ρ st).bind truW
section
variable {X : Cx}
theorem isE {m : Mp} {H : Hp} {ws : List Wv} {xs : List V} (r : RelWs X.K m H ws xs) : (!ws.isEmpty) = !xs.isEmpty := by
  have h := r.length
  cases ws <;> cases xs <;> simp_all
theorem jt_tru {e : Expr} {g : GE} (h : JE X e g) (he : ∀ whole, isTrue e X.env whole = (do let v ← whole; standAt e.pos; holding [v] (truthy v))) : JT X e (gTru g) :=
  JT.of (pt_truth pe_SE he) fun ρ st σ H m Q S R p => h.go S R (PostG.bind p) fun w st1 v m1 H1 p1 e1 S1 r1 => by
    cases w with
    | non => unfold RelW at r1; subst r1; exact ⟨false, rfl, p1 m1 H1 e1 S1⟩
    | bl b => unfold RelW at r1; subst r1; exact ⟨b, rfl, p1 m1 H1 e1 S1⟩
    | int i => unfold RelW at r1; subst r1; exact ⟨_, rfl, p1 m1 H1 e1 S1⟩
    | str y =>
      obtain ⟨rfl, _⟩ := relStr r1
      have p2 : PostT X σ m H (if y.length ≤ lim then .ok ((y.length : Int) != 0) st1 else .bad) Q := p1
      by_cases c : y.length ≤ lim
      · rw [if_pos c] at p2; exact ⟨_, ⟨lim_le c, rfl⟩, p2 m1 H1 e1 S1⟩
      · rw [if_neg c] at p2; exact False.elim p2
    | ktp ws => exact False.elim p1
    | tup ws =>
      unfold RelW at r1
      obtain ⟨a, xs, rfl, h1, h2⟩ := r1
      refine ⟨!xs.isEmpty, .inr (.inl ⟨xs, SqT.of h1, rfl⟩), ?_⟩
      rw [← isE h2]
      exact p1 m1 H1 e1 S1
    | ref l =>
      unfold RelW at r1
      obtain ⟨a, rfl, h1⟩ := r1
      have p2 : PostT X σ m H (match lstOf st1 l with | some ws => .ok (!ws.isEmpty) st1 | none => .bad) Q := p1
      cases el : lstOf st1 l with
      | none => rw [el] at p2; exact False.elim p2
      | some ws =>
        rw [el] at p2
        obtain ⟨xs, hq, h2⟩ := S1.read h1 el
        refine ⟨!xs.isEmpty, .inl ⟨xs, hq, rfl⟩, ?_⟩
        rw [← isE h2]
        exact p2 m1 H1 e1 S1
    | ty T => exact False.elim p1
    | cls T => exact False.elim p1
    | exn T => exact False.elim p1
    | fn fp T => exact False.elim p1
theorem all_fold {p : Nat → Bool} {x : Array Nat} (hx : x.all p = true) : ∀ (n : Nat) (a : Array Nat), a.all p = true → ((List.replicate n x).foldl (· ++ ·) a).all p = true
  | 0, a, h => h
  | n + 1, a, h => by
    rw [List.replicate_succ, List.foldl_cons]
    refine all_fold hx n _ ?_
    rw [Array.all_append, h, hx]
    rfl
theorem strOk_rep {x : PySem.Str} {n : Nat} (h : PyData.strOk x = true) : PyData.strOk (repS n x) = true := by
  unfold PyData.strOk at h ⊢
  unfold repS
  exact all_fold h n #[] (by simp)
theorem size_fold {x : Array Nat} : ∀ (n : Nat) (a : Array Nat), ((List.replicate n x).foldl (· ++ ·) a).size = a.size + x.size * n
  | 0, a => by simp
  | n + 1, a => by
    rw [List.replicate_succ, List.foldl_cons, size_fold n, Array.size_append, Nat.mul_succ]
    omega
theorem len_repS {x : PySem.Str} {n : Nat} : (repS n x).length = x.length * n := by
  show ((List.replicate n x.cps).foldl (· ++ ·) #[]).size = x.cps.size * n
  rw [size_fold]
  simp
def CMulS (x : PySem.Str) (n : Int) : Prop := 1 < n ∧ n ≤ 100000 ∧ x.length ≠ 0 ∧ x.length * n.toNat ≤ lim
instance {x n} : Decidable (CMulS x n) := by unfold CMulS; infer_instance
theorem op_mulS : OpR X (binaryOp .Mult) (fun x y H Q => ∃ z n, x = .str z ∧ y = .int n ∧ CMulS z n ∧ Q (.str (repS n.toNat z)) H) := by
  intro pins s σ H x y v u Q I rx ry h
  obtain ⟨z, n, rfl, rfl, ⟨h1, h2, h3, h4⟩, q⟩ := h
  obtain ⟨t, rfl⟩ := rx
  obtain ⟨t', rfl⟩ := ry
  have n1 : ¬ n < 1 := by omega
  have hlen : z.length ≤ lim := by
    refine Nat.le_trans ?_ h4
    exact Nat.le_mul_of_pos_right _ (by omega)
  have hne : (n == 1 || z.length == 0) = false := by
    have e1 : (n == 1) = false := by rw [beq_eq_false_iff_ne]; omega
    have e2 : (z.length == 0) = false := by rw [beq_eq_false_iff_ne]; exact h3
    rw [e1, e2]; rfl
  have hl : PySem.Builtin.Str.tooLong (z.length * n.toNat) = false := by
    unfold PySem.Builtin.Str.tooLong
    have q := lim_le h4
    first
      | exact decide_eq_false (by omega)
      | simp only [decide_eq_false_iff_not]; omega
  refine PySem.P.mul_str (by
      have e1 : ¬ n < -(2 ^ 63 : Int) := by omega
      have e2 : ¬ n ≥ 2 ^ 63 := by omega
      rw [decide_eq_false e1, decide_eq_false e2]; rfl) (fun _ _ => ?_) (fun _ _ => hl) ?_
  · have e : ((2 : Int) ^ 63 - 1) / 100000 ≤ (2 ^ 63 - 1) / n := by
      refine Int.le_ediv_of_mul_le (by omega) ?_
      have : ((2 : Int) ^ 63 - 1) / 100000 * n ≤ ((2 : Int) ^ 63 - 1) / 100000 * 100000 := Int.mul_le_mul_of_nonneg_left h2 (by decide)
      exact Int.le_trans this (by decide)
    have e' : (1000000 : Int) ≤ (2 ^ 63 - 1) / 100000 := by decide
    unfold lim at hlen
    omega
  · rw [if_neg n1, if_neg (by rw [hne]; exact Bool.false_ne_true)]
    exact ⟨by show (repS n.toNat z).length ≤ _; rw [len_repS]; exact lim_le h4, .str (repS n.toNat z), H, I.tok _, ⟨_, rfl⟩, q⟩
def oMulS : Op2
  | .int i, .int j, st => if IntMulOk i j then .ok (.int (i * j)) st else .bad
  | .str z, .int n, st => if CMulS z n then .ok (.str (repS n.toNat z)) st else .bad
  | _, _, _ => .bad
theorem ow_mulS : OpW X (binaryOp .Mult) oMulS := ⟨_, OpR.or op_mulG op_mulS, fun x y a b st H m Q S rx ry p => by
  cases x with
  | int i =>
    cases y with
    | int j =>
      cases relInt rx; cases relInt ry
      have p' : PostO X.K m H (if IntMulOk i j then .ok (.int (i * j)) st else .bad) Q := p
      by_cases c : IntMulOk i j
      · rw [if_pos c] at p'; exact .inl ⟨i, j, rfl, rfl, c, p' _ m H Ext.refl S mkInt⟩
      · rw [if_neg c] at p'; exact False.elim p'
    | _ => exact False.elim p
  | str z =>
    cases y with
    | int n =>
      obtain ⟨rfl, hz⟩ := relStr rx
      cases relInt ry
      have p' : PostO X.K m H (if CMulS z n then .ok (.str (repS n.toNat z)) st else .bad) Q := p
      by_cases c : CMulS z n
      · rw [if_pos c] at p'; exact .inr ⟨z, n, rfl, rfl, c, p' _ m H Ext.refl S (mkStr (strOk_rep hz))⟩
      · rw [if_neg c] at p'; exact False.elim p'
    | _ => exact False.elim p
  | _ => exact False.elim p⟩
def gBad : GE := fun _ _ => .bad
def gBadT : GT := fun _ _ => .bad
theorem je_bad {e : Expr} : JE X e gBad := fun ρ st σ H m Q S R p => False.elim p
theorem jt_bad {e : Expr} : JT X e gBadT := fun ρ st σ H m Q S R p => False.elim p
end
def Has (P : Program) (w : World) (K : PySem.W.Frag) (mg : Str → Option Value) (base : Heap) (k : Nat) (x : Str) (n : Nat) (F : List Wv → Hs → Re Wv) : Prop :=
  ∃ f fd ps, FnOk P w K mg base (CXJ P w) k f fd ps (spW K n F) ∧ mg x = some (.ref f) ∧ PySem.W.keepIn K (.ref f) = true ∧ Binds K fd ps []
theorem Has.mono {P : Program} {w : World} {K : PySem.W.Frag} {mg : Str → Option Value} {base : Heap} {j k : Nat} {x : Str} {n : Nat} {F : List Wv → Hs → Re Wv} (h : Has P w K mg base j x n F) (l : j ≤ k) : Has P w K mg base k x n F := by
  obtain ⟨f, fd, ps, G, r⟩ := h
  exact ⟨f, fd, ps, G.mono l, r⟩
def DefAt (K : PySem.W.Frag) (x : Str) (st : Stmt) : Prop := ∃ f fd, PySem.W.nsIn K mainGlobals x = some (some (.ref f)) ∧ Fun K x x st f fd
theorem def_at {K : PySem.W.Frag} {x : Str} {st : Stmt} {f : Addr} {oc : Value} {od an : Option Addr} {osl : Array (Option Value)} {kV doc pm cdv ct : Value} (a : PySem.W.nsIn K mainGlobals x = some (some (.ref f)))
    (l : K.lookup f = some ⟨oc, od, .func (PySem.W.fnOf x x (defArgs st) (defBody st) (defScope st) .none kV doc pm an cdv ct), osl⟩) (c : PySem.W.codeIn K cdv x = true) (k : PySem.W.keepIn K (.ref f) = true) : DefAt K x st := ⟨f, _, a, fun_mk l c k⟩
theorem boot_isI : bootBuiltins "isinstance" = some (.builtin "isinstance") := by decide +kernel
theorem boot_absJ : bootBuiltins "abs" = some (.builtin "abs") := by decide +kernel
theorem boot_lenJ : bootBuiltins "len" = some (.builtin "len") := by decide +kernel
theorem boot_tyI : bootBuiltins "int" = some (.type "int") := by decide +kernel
theorem boot_tyS : bootBuiltins "str" = some (.type "str") := by decide +kernel
theorem boot_tyB : bootBuiltins "bool" = some (.type "bool") := by decide +kernel
theorem boot_tyT : bootBuiltins "tuple" = some (.type "tuple") := by decide +kernel
theorem boot_tyL : bootBuiltins "list" = some (.type "list") := by decide +kernel
end J
namespace J
open PySem PySem.Spec PyProof.Rows L2
def forT (i : Nat) (gb : GS) : List Wv → Rho → Hs → Rs
  | [], ρ, st => .nx ρ st
  | w :: r, ρ, st => match gb (ρ.set i (some w)) st with
    | .nx ρ' st' => forT i gb r ρ' st'
    | .ct ρ' st' => forT i gb r ρ' st'
    | .bk ρ' st' => .nx ρ' st'
    | .rt w st' => .rt w st'
    | .err c ρ' st' => .err c ρ' st'
    | .bad => .bad
section
variable {X : Cx}
theorem for_core (i : Nat) {body : List Stmt} {gb : GS} (hb : JSs X body gb) {J' : It} {ws : List Wv} {m1 : Mp} {H1 : Hp} {st1 : Hs} {ρ : Rho} {σ : St} {D : Ends} (S1 : Sim X.K m1 st1 H1) (R : RelEnv X.K m1 H1 ρ σ) (p1 : PostS X m1 H1 (forT i gb ws ρ st1) D)
    (hgo : ∀ (k : Nat) (H : Hp) (m' : Mp), Ext X.K m1 H1 m' H → k < ws.length → J'.go k H) (hstop : ∀ (k : Nat) (H : Hp) (m' : Mp), Ext X.K m1 H1 m' H → k = ws.length → J'.stop k H)
    (hy : ∀ (k : Nat) (hk : k < ws.length) (H : Hp) (x : V) (H' : Hp) (m' : Mp), Ext X.K m1 H1 m' H → J'.yld k H x H' → H' = H ∧ RelW X.K m' H ws[k] x) :
    ∃ W : Nat → Nat → St → Hp → Prop, (∃ m, W 0 m σ H1) ∧ ∀ k n σ H, W k n σ H →
      (J'.stop k H ∧ D.nx σ H) ∨ (J'.go k H ∧ ∃ N : St → Hp → Prop, (∀ σ' H', N σ' H' → ∃ m', m' < n ∧ W (k + 1) m' σ' H') ∧ ∀ x H', J'.yld k H x H' → gName i x σ H' fun σ2 H2 => SSs X body { D with nx := N, ct := N, bk := D.nx } σ2 H2) := by
  let Pv : Nat → St → Hp → Prop := fun k σ H => ∃ ρ st m', Ext X.K m1 H1 m' H ∧ Sim X.K m' st H ∧ RelEnv X.K m' H ρ σ ∧ PostS X m' H (forT i gb (ws.drop k) ρ st) D
  refine ⟨fun k n σ H => n = ws.length - k ∧ k ≤ ws.length ∧ Pv k σ H, ⟨ws.length, by simp, Nat.zero_le _, ρ, st1, m1, Ext.refl, S1, R, p1⟩, ?_⟩
  rintro k n σ2 H2 ⟨rfl, hk, ρ2, st2, m2, e2, S2, R2, p2⟩
  by_cases hlt : k < ws.length
  · refine .inr ⟨hgo k H2 m2 e2 hlt, Pv (k + 1), fun σ' H' p' => ⟨ws.length - (k + 1), by omega, rfl, hlt, p'⟩, fun x H' y => ?_⟩
    obtain ⟨ee, rx'⟩ := hy k hlt H2 x H' m2 e2 y
    subst ee
    have ed : ws.drop k = ws[k] :: ws.drop (k + 1) := List.drop_eq_getElem_cons hlt
    rw [ed] at p2
    refine hb _ st2 _ _ m2 _ S2 (R2.set i rx') ?_
    unfold forT at p2
    cases eg : gb (ρ2.set i (some ws[k])) st2 with
    | nx ρ3 st3 => rw [eg] at p2; exact fun σ3 m3 H3 e3 S3 R3 => ⟨ρ3, st3, m3, e2.trans e3, S3, R3, PostS.shift p2 e3⟩
    | ct ρ3 st3 => rw [eg] at p2; exact fun σ3 m3 H3 e3 S3 R3 => ⟨ρ3, st3, m3, e2.trans e3, S3, R3, PostS.shift p2 e3⟩
    | bk ρ3 st3 => rw [eg] at p2; exact p2
    | rt w3 st3 => rw [eg] at p2; exact p2
    | err c3 ρ3 st3 => rw [eg] at p2; exact p2
    | bad => rw [eg] at p2; exact p2
  · have e : k = ws.length := by omega
    subst e
    rw [List.drop_length] at p2
    exact .inl ⟨hstop _ H2 m2 e2 rfl, p2 σ2 m2 H2 Ext.refl S2 R2⟩
def iSeq (K : PySem.W.Frag) (tl : TE) : TI := fun σ H R => tl σ H fun x H1 => ∃ a, x = .ref a ∧ (((∃ xs, SqL K H1 a xs) ∧ R (Itl K a) H1) ∨ ((∃ xs, SqT K H1 a xs) ∧ R (Itt K a) H1))
theorem pi_seq {tg l : Expr} {tl : TE} (hl : PE X l tl) : PI X tg l (iSeq X.K tl) := by
  intro pins s σ H R I h
  refine thn (hl pins s σ H _ I h) fun v s1 ⟨x, H1, I1, r1, q1⟩ => ?_
  obtain ⟨a, e, q1⟩ := q1
  subst e
  cases r1
  have frs : ∀ b ∈ [s1.heap.objs.size], FpOk X pins H1 b := fun b hb => by
    have e : b = s1.heap.objs.size := by simpa using hb
    subst e
    exact I1.fpOk (Nat.le_refl _) (I1.hok.fresh (Nat.le_refl _))
  rcases q1 with ⟨⟨xs, hq⟩, q⟩ | ⟨⟨xs, hq⟩, q⟩
  · obtain ⟨its, rv, p, hz⟩ := I1.list hq
    refine wpAny_pyIter_list p.isList ?_
    exact ⟨s1.heap.objs.size, [s1.heap.objs.size], _, _, H1, rfl, I1.kept (t' := s1.toks) fun b o e => Heap.get?_push_of_some _ e, turn_list a _, ⟨_, Heap.get?_push_size _ rfl, rfl, rfl⟩, frs, q⟩
  · obtain ⟨its, rv, p, hz⟩ := I1.tuple hq
    refine wpAny_pyIter_tuple (show s1.heap.IsTuple a its.toArray from p) ?_
    exact ⟨s1.heap.objs.size, [s1.heap.objs.size], _, _, H1, rfl, I1.kept (t' := s1.toks) fun b o e => Heap.get?_push_of_some _ e, turn_tuple a _, ⟨_, Heap.get?_push_size _ rfl, rfl, rfl⟩, frs, q⟩
noncomputable def gFor (i : Nat) (gi : GE) (gb : GS) : GS := fun ρ st => (gi ρ st).thn ρ fun w st1 => match w with
  | .ref l => (match lstOf st1 l with | some ws => forL i gb l ws ws ρ st1 | none => .bad)
  | .tup ws => forT i gb ws ρ st1
  | .ktp ws => forT i gb ws ρ st1
  | _ => .bad
theorem js_for (i : Nat) {x : Str} {iter : Expr} {body : List Stmt} {gi : GE} {gb : GS} {pos pos' : Pos} (hN : X.N.Nodup) (hp : PassesOwn (model X.prog X.w) X.A X.env X.xe) (hc : X.calm = true) (hi : JE X iter gi) (hb : JSs X body gb)
    (hx : X.N[i]? = some x) (hlo : Loc X.env.scope x) (hlf : X.fn x = true ∨ X.env.scope.names.lookup x = some .local)
    (hs : ∀ x, foldedSetIterable iter X.env x = pure x) : JS X (.For (.Name x pos') iter body [] pos) (gFor i gi gb) := by
  refine JS.of (ps_for hp hc (pi_seq pe_SE) (pg_name hN hx hlo hlf) pss_SSs hs) fun ρ st σ H m D S R p => ?_
  refine hi.go S R (PostS.of_thn R p) fun w st1 v m1 H1 p1 e1 S1 rw' => ?_
  cases w with
  | ref l =>
    have p1' : PostS X m H (match lstOf st1 l with | some ws => forL i gb l ws ws ρ st1 | none => .bad) D := p1
    unfold RelW at rw'
    obtain ⟨a, rfl, hla⟩ := rw'
    cases el : lstOf st1 l with
    | none => rw [el] at p1'; exact False.elim p1'
    | some ws =>
      rw [el] at p1'
      obtain ⟨xs0, q0, _⟩ := S1.read hla el
      refine ⟨a, rfl, .inl ⟨⟨xs0, q0⟩, ?_⟩⟩
      let Pv : Nat → St → Hp → Prop := fun k σ H => ∃ ρ st m', Ext X.K m1 H1 m' H ∧ Sim X.K m' st H ∧ RelEnv X.K m' H ρ σ ∧ lstOf st l = some ws ∧ PostS X m' H (forL i gb l ws (ws.drop k) ρ st) D
      refine ⟨fun k n σ H => n = ws.length - k ∧ k ≤ ws.length ∧ Pv k σ H, ⟨ws.length, by simp, Nat.zero_le _, ρ, st1, m1, Ext.refl, S1, R.mono e1, el, PostS.shift p1' e1⟩, ?_⟩
      rintro k n σ2 H2 ⟨rfl, hk, ρ2, st2, m2, e2, S2, R2, l2, p2⟩
      obtain ⟨xs, hq, rws⟩ := S2.read (e2.pre _ _ hla) l2
      have hlen := rws.length
      by_cases hlt : k < ws.length
      · have hx' : k < xs.length := by omega
        refine .inr ⟨⟨xs, xs[k], hq, by simp [hx']⟩, Pv (k + 1), fun σ' H' p' => ⟨ws.length - (k + 1), by omega, rfl, hlt, p'⟩, fun x H' y => ?_⟩
        obtain ⟨ee, y⟩ := y
        subst ee
        have ey := y xs hq
        have ed : ws.drop k = ws[k] :: ws.drop (k + 1) := List.drop_eq_getElem_cons hlt
        obtain ⟨x', ex', rx'⟩ := rws.get (i := k) (w := ws[k]) (List.getElem?_eq_getElem hlt)
        rw [ey] at ex'
        cases ex'
        rw [ed] at p2
        refine hb _ st2 _ _ m2 _ S2 (R2.set i rx') ?_
        unfold forL at p2
        cases eg : gb (ρ2.set i (some ws[k])) st2 with
        | nx ρ3 st3 =>
          rw [eg] at p2
          by_cases c : lstOf st3 l = some ws
          · simp only [if_pos c] at p2
            exact fun σ3 m3 H3 e3 S3 R3 => ⟨ρ3, st3, m3, e2.trans e3, S3, R3, c, PostS.shift p2 e3⟩
          · simp only [if_neg c] at p2; exact False.elim p2
        | ct ρ3 st3 =>
          rw [eg] at p2
          by_cases c : lstOf st3 l = some ws
          · simp only [if_pos c] at p2
            exact fun σ3 m3 H3 e3 S3 R3 => ⟨ρ3, st3, m3, e2.trans e3, S3, R3, c, PostS.shift p2 e3⟩
          · simp only [if_neg c] at p2; exact False.elim p2
        | bk ρ3 st3 => rw [eg] at p2; exact p2
        | rt w3 st3 => rw [eg] at p2; exact p2
        | err c3 ρ3 st3 => rw [eg] at p2; exact p2
        | bad => rw [eg] at p2; exact p2
      · have e : k = ws.length := by omega
        subst e
        rw [List.drop_length] at p2
        exact .inl ⟨⟨xs, hq, by omega⟩, p2 σ2 m2 H2 Ext.refl S2 R2⟩
  | tup ws =>
    unfold RelW at rw'
    obtain ⟨a, xs, rfl, hq, rws⟩ := rw'
    have hlen := rws.length
    refine ⟨a, rfl, .inr ⟨⟨xs, SqT.of hq⟩, ?_⟩⟩
    refine for_core i hb (ws := ws) S1 (R.mono e1) (PostS.shift p1 e1) (fun k H m' e hk => ?_) (fun k H m' e hk => ?_) fun k hk H x H' m' e y => ?_
    · have hx' : k < xs.length := by omega
      exact ⟨xs, xs[k], SqT.of (e.tup _ _ hq), by simp [hx']⟩
    · exact ⟨xs, SqT.of (e.tup _ _ hq), by omega⟩
    · obtain ⟨ee, y⟩ := y
      refine ⟨ee, ?_⟩
      obtain ⟨x', ex', rx'⟩ := (RelWs.mono e _ _ rws).get (i := k) (w := ws[k]) (List.getElem?_eq_getElem hk)
      rw [y xs (SqT.of (e.tup _ _ hq))] at ex'
      cases ex'
      exact rx'
  | ktp ws =>
    unfold RelW at rw'
    obtain ⟨a, xs, rfl, hq, rws⟩ := rw'
    have hlen := rws.length
    refine ⟨a, rfl, .inr ⟨⟨xs, .inr hq⟩, ?_⟩⟩
    refine for_core i hb (ws := ws) S1 (R.mono e1) (PostS.shift p1 e1) (fun k H m' e hk => ?_) (fun k H m' e hk => ?_) fun k hk H x H' m' e y => ?_
    · have hx' : k < xs.length := by omega
      exact ⟨xs, xs[k], .inr hq, by simp [hx']⟩
    · exact ⟨xs, .inr hq, by omega⟩
    · obtain ⟨ee, y⟩ := y
      refine ⟨ee, ?_⟩
      obtain ⟨x', ex', rx'⟩ := (RelWs.mono e _ _ rws).get (i := k) (w := ws[k]) (List.getElem?_eq_getElem hk)
      rw [y xs (.inr hq)] at ex'
      cases ex'
      exact rx'
  | _ => exact False.elim p1
def rngW (lo : Int) (n : Nat) : List Wv := (List.range n).map fun k : Nat => Wv.int (lo + k)
theorem rngW_get? {lo : Int} {n k : Nat} (h : k < n) : (rngW lo n)[k]? = some (.int (lo + k)) := by
  unfold rngW
  rw [List.getElem?_map, List.getElem?_range h]
  rfl
theorem rngW_get {lo : Int} {n k : Nat} (h : k < (rngW lo n).length) : (rngW lo n)[k] = .int (lo + k) := by
  have q := rngW_get? (lo := lo) (n := n) (k := k) (by unfold rngW at h; simpa using h)
  rw [List.getElem?_eq_getElem h] at q
  exact Option.some.inj q
theorem rngW_len {lo : Int} {n : Nat} : (rngW lo n).length = n := by unfold rngW; simp
def CRng (i : Int) : Prop := -(2 ^ 62) ≤ i ∧ i < 2 ^ 62
noncomputable instance {i} : Decidable (CRng i) := Classical.propDecidable _
noncomputable def gForR1 (i : Nat) (ga : GA) (gb : GS) : GS := fun ρ st => (ga ρ st).thn ρ fun ws st1 => match ws with
  | [.int j] => if CRng j then forT i gb (rngW 0 j.toNat) ρ st1 else .bad
  | _ => .bad
theorem for_rng (i : Nat) {body : List Stmt} {gb : GS} (hb : JSs X body gb) {lo : Int} {n : Nat} {m1 : Mp} {H1 : Hp} {st1 : Hs} {ρ : Rho} {σ : St} {D : Ends} (S1 : Sim X.K m1 st1 H1) (R : RelEnv X.K m1 H1 ρ σ) (p1 : PostS X m1 H1 (forT i gb (rngW lo n) ρ st1) D) :
    ∃ W : Nat → Nat → St → Hp → Prop, (∃ m, W 0 m σ H1) ∧ ∀ k n' σ H, W k n' σ H →
      ((Itr lo n).stop k H ∧ D.nx σ H) ∨ ((Itr lo n).go k H ∧ ∃ N : St → Hp → Prop, (∀ σ' H', N σ' H' → ∃ m', m' < n' ∧ W (k + 1) m' σ' H') ∧ ∀ x H', (Itr lo n).yld k H x H' → gName i x σ H' fun σ2 H2 => SSs X body { D with nx := N, ct := N, bk := D.nx } σ2 H2) :=
  for_core i hb S1 R p1 (fun k H m' e hk => by rw [rngW_len] at hk; exact hk) (fun k H m' e hk => by rw [rngW_len] at hk; exact Nat.le_of_eq hk.symm) fun k hk H x H' m' e y => by
    obtain ⟨y1, y2⟩ := y
    refine ⟨y1, ?_⟩
    rw [rngW_get, y2]
    exact mkInt
theorem js_forR1 (i : Nat) {x : Str} {a : Expr} {body : List Stmt} {ga : GA} {gb : GS} {pos pos' p q : Pos} (hN : X.N.Nodup) (hp : PassesOwn (model X.prog X.w) X.A X.env X.xe) (hc : X.calm = true) (hg : Gl X "range") (hm : X.mg "range" = none) (ha : JA X [a] ga) (hb : JSs X body gb)
    (hx : X.N[i]? = some x) (hlo : Loc X.env.scope x) (hlf : X.fn x = true ∨ X.env.scope.names.lookup x = some .local) (hst : starEach [a] X.env = [(false, eval a X.env)]) : JS X (.For (.Name x pos') (.Call (.Name "range" p) [a] [] q) body [] pos) (gForR1 i ga gb) := by
  refine JS.of (ps_for hp hc (pi_range1 hg hm pa_SA hst) (pg_name hN hx hlo hlf) pss_SSs (fun _ => rfl)) fun ρ st σ H m D S R p => ?_
  refine ha.go S R (PostS.of_thn R p) fun ws st1 vs m1 H1 p1 e1 S1 rs => ?_
  match ws, rs, p1 with
  | [], rs, p1 => exact False.elim p1
  | x :: y :: t, rs, p1 => cases x <;> exact False.elim p1
  | [x], rs, p1 =>
    obtain ⟨v, rfl, r1⟩ := rel1 rs
    cases x with
    | int j =>
      cases relInt r1
      have p2 : PostS X m H (if CRng j then forT i gb (rngW 0 j.toNat) ρ st1 else .bad) D := p1
      by_cases c : CRng j
      · rw [if_pos c] at p2
        exact ⟨j, rfl, c.1, c.2, for_rng i hb S1 (R.mono e1) (PostS.shift p2 e1)⟩
      · rw [if_neg c] at p2; exact False.elim p2
    | _ => exact False.elim p1
theorem js_retN {pos : Pos} : JS X (.Return none pos) (gRet (gC .non)) := JS.of ps_retN fun ρ st σ H m D S R p => p .non m H Ext.refl S mkNon
end
end J
namespace J
open PySem PySem.Spec PyProof.Rows L2
abbrev bmV : List Value := [.type "ValueError", .type "Exception", .type "BaseException", .type "object"]
abbrev nwV : String := "ValueError.__new__"
structure ExcC (K : PySem.W.Frag) (c : PySem.Str) (C : Addr) : Prop where
  cls : ClsAt K c C
  exc : PySem.W.excIn K C bmV nwV = true
theorem exc_obj {K : PySem.W.Frag} {h : Heap} {C : Addr} (KX : K.In h) (q : PySem.W.excIn K C bmV nwV = true) :
    ∃ (bm : List Value) (N : Addr) (nm qn : Str) (bs : List Value) (hd : Bool) (sn : List Str) (sub : List Value) (ab : Bool) (col : Option Bool) (dd : Option Addr) (k0 k1 k2 k3 k5 : Option Value) (mN : Str → Option Value),
      h.get? C = some (excClassObj nm qn C N bs bm hd sn sub ab col dd k0 k1 k2 k3 k5 nwV) ∧ h.Ns N mN ∧ mN "__init__" = none ∧ OwnTail h bmV bm ∧ (∀ v r, PySem.W.mroIn K C v = some r → (Value.ref C :: bm).contains v = r) := by
  unfold PySem.W.excIn at q
  split at q
  · rename_i dd cd sl lk
    split at q
    · rename_i C1 bm k0 k1 k2 k3 n1 k5 em es
      simp only [Bool.and_eq_true, beq_iff_eq, Bool.not_eq_true'] at q
      obtain ⟨⟨⟨⟨⟨q1, q2⟩, q3⟩, q4⟩, q5⟩, q6⟩ := q
      subst q1 q2
      obtain ⟨nm, bs, mro, N, qn, hd, sn, sub, ab, col, del⟩ := cd
      dsimp only at em q3 q5 q6
      subst em q3
      have esl : sl = #[k0, k1, k2, k3, some (.builtin nwV), k5] := by
        cases sl with
        | mk l => exact congrArg Array.mk es
      subst esl
      refine ⟨bm, N, nm, qn, bs, hd, sn, sub, ab, col, dd, k0, k1, k2, k3, k5, _, KX _ _ lk, .of_isNs (PySem.W.isNs_of_in KX q5), PySem.W.nsMap_none_of_in KX q5 q6, PySem.W.tail_of_in KX q4, fun v r e => ?_⟩
      unfold PySem.W.mroIn PySem.W.clsIn at e
      rw [lk] at e
      first
        | exact Option.some.inj e
        | (simp at e; exact e)
    · cases q
  · cases q
section
variable {X : Cx}
end
end J
namespace J
open PySem PySem.Spec PyProof.Rows L2
structure ExcK (K : PySem.W.Frag) (C : Addr) : Prop where
  exc : PySem.W.excIn K C bmV nwV = true
  ga : PySem.W.findIn K (.ref C) "__getattribute__" = some (some (.builtin "BaseException.__getattribute__"))
  gx : PySem.W.findIn K (.ref C) "__getattr__" = some none
  cl : PySem.W.findIn K (.ref C) "__class__" = some (some (.builtin "object.__class__"))
section
variable {prog : Program} {w : World} {A : Around} {E : Value → Shared → Prop} {h : Heap} {g : Array GenState} {d : Drawn} {t : Nat} {os : OsState} {a C : Addr} {o : Obj} {K : PySem.W.Frag}
theorem xc_get {R : Result → Shared → Prop} (Y : K.In h) (Z : ExcK K C) (ha : h.get? a = some o) (hc : o.cls = .ref C) (k : R (.ok (.ret (.ref C))) ⟨h, g, d, t, os⟩) :
    codeAny (model prog w) A (.call (.builtin "getset_descriptor.__get__") ⟨[.builtin "object.__class__", .ref a, .ref C], []⟩) R ⟨h, g, d, t, os⟩ := by
  obtain ⟨bm, N, nm, qn, bs, hdd, sn, sub, ab, col, dd, k0, k1, k2, k3, k5, mN, hC, hN, hni, T, _⟩ := exc_obj Y Z.exc
  have ty : (⟨h, g, d, t, os⟩ : Shared).TypeIs (.builtin "object.__class__") "getset_descriptor" := F.typeOf_object_class
  have own : (Value.ref C :: bm).contains (.type (".".intercalate ("object.__class__".cutAt '.').dropLast)) = true := by
    rw [F.owner_object_class, List.contains_cons, T.hasType (X := "object") (b := true) (by decide)]; rfl
  refine codeAny_call_builtin F.slot_gs_get.plain F.entry_gs_get (F.slot_gs_get.check _ _ _ _ _ _ _ _ ty (F.args_gs_get _ _ _) ?_)
  repeat (any_goals (first | assumption | (with_reducible refine wpAny_loadPart_at ha ?_; rw [hc]) | (with_reducible refine wpAny_isSubtype_exc hC ?_; rw [own]) | wp_step))
  refine ⟨Code.quiet_builtin _ (by decide +kernel), codeAny_builtin F.entry_object_class ?_⟩
  repeat (any_goals (first | assumption | (with_reducible refine wpAny_loadPart_at ha ?_; rw [hc]) | wp_step))
theorem xc_entry {tk : Tok} {Q : Fin → Shared → Prop} (Y : K.In h) (Z : ExcK K C) (ha : h.get? a = some o) (hc : o.cls = .ref C) (k : Q (.done (.ret (.ref C))) ⟨h, g, d, t, os⟩) :
    wpAny (model prog w) A (Builtin.«object.__getattribute__» ⟨[.ref a, .str "__class__" tk], []⟩) Q E ⟨h, g, d, t, os⟩ := by
  have ty : (⟨h, g, d, t, os⟩ : Shared).TypeIs (.builtin "object.__class__") "getset_descriptor" := F.typeOf_object_class
  have t1 := F.typeOf_object_class
  have t2 := F.slot_gs_get.lookup
  have t3 := F.slot_gs_set.lookup
  have L := PySem.W.looks_findIn (M := model prog w) Y Z.cl
  repeat (any_goals (first | assumption | (with_reducible refine wpAny_loadPart_at ha ?_; rw [hc]) | with_reducible refine L.at ?_ | wp_step))
  refine xc_get Y Z ha hc ?_
  repeat (any_goals (first | assumption | wp_step))
theorem xc_check {M : Model} {nv : Value} {Q : Unit → Shared → Prop} (Y : K.In h) (Z : ExcK K C) (ha : h.get? a = some o) (hc : o.cls = .ref C) (k : Q () ⟨h, g, d, t, os⟩) :
    wpAny M A (checkBuiltinCall "BaseException.__getattribute__" ⟨[.ref a, nv], []⟩) Q E ⟨h, g, d, t, os⟩ := by
  obtain ⟨bm, N, nm, qn, bs, hdd, sn, sub, ab, col, dd, k0, k1, k2, k3, k5, mN, hC, hN, hni, T, _⟩ := exc_obj Y Z.exc
  have u1 : builtinKind "BaseException.__getattribute__" = some .slot := by decide +kernel
  have u2 : splitId "BaseException.__getattribute__" = some ("BaseException", "__getattribute__") := by decide +kernel
  have u3 : (Value.ref C :: bm).contains (.type "BaseException") = true := by rw [List.contains_cons, T.hasType (X := "BaseException") (b := true) (by decide)]; rfl
  have u4 := F.args_bexc_ga (.ref a) nv
  simp only [checkBuiltinCall, u1, u2]
  refine wpAny_bind ?_
  unfold isInstance
  repeat (first | (with_reducible refine wpAny_loadPart_at ha ?_; rw [hc]) | (with_reducible refine wpAny_isSubtype_exc hC ?_; rw [u3]) | wp_step)
  exact k
theorem xc_by {tk : Tok} {Q : Value → Shared → Prop} (Y : K.In h) (Z : ExcK K C) (ha : h.get? a = some o) (hc : o.cls = .ref C) (k : Q (.ref C) ⟨h, g, d, t, os⟩) :
    wpAny (model prog w) A (getAttrBy (.ref a) (.str "__class__" tk) false) Q E ⟨h, g, d, t, os⟩ := by
  have v1 := F.excAttr_ValueError.ga.bind (.ref a)
  have v2 : (Value.builtin "BaseException.__getattribute__" == Value.builtin "object.__getattribute__") = false := by decide +kernel
  have v3 : (onTheHeap (Value.ref C) && Value.builtin "BaseException.__getattribute__" == Value.builtin "object.__getattribute__") = false := by rw [v2]; rfl
  have v4 : (false && onTheHeap (Value.builtin "BaseException.__getattribute__")) = false := rfl
  have L1 := PySem.W.looks_findIn (M := model prog w) Y Z.ga
  have L2 := PySem.W.looks_findIn (M := model prog w) Y Z.gx
  repeat (any_goals (first | assumption | (with_reducible refine wpAny_loadPart_at ha ?_; rw [hc]) | with_reducible refine L1.at ?_ | with_reducible refine L2.at ?_ | wp_step))
  refine codeAny_call_builtin F.excAttr_ValueError.ga.plain F.entry_bexc_ga (xc_check Y Z ha hc (xc_entry Y Z ha hc ?_))
  repeat (any_goals (first | assumption | wp_step))
theorem xc_attr {Q : Option Value → Shared → Prop} (Y : K.In h) (Z : ExcK K C) (ha : h.get? a = some o) (hc : o.cls = .ref C) (k : Q (some (.ref C)) ⟨h, g, d, t + 1, os⟩) :
    wpAny (model prog w) A (getAttr? (.ref a) "__class__") Q E ⟨h, g, d, t, os⟩ := by
  unfold getAttr? getAttrBy?
  repeat (any_goals (first | assumption | with_reducible apply xc_by Y Z ha hc | wp_step))
end
end J
namespace J
open PySem PySem.Spec PyProof.Rows L2
structure Stk (X : Cx) : Prop where
  st : X.stack = X.env :: X.outer
  fr : X.env.frame = some X.env.locals
  ex : X.ex = []
theorem objOk_get {P : Program} {w : World} {H : Hp} {h : Heap} {a : Addr} {o : HO} (x : ObjOk P w H h a o) : ∃ u, h.get? a = some u := by
  cases o with
  | lst xs => obtain ⟨_, _, _, _, e⟩ := x; exact ⟨_, e⟩
  | tup xs => obtain ⟨_, _, _, ⟨ob, e, _⟩, _⟩ := x; exact ⟨_, e⟩
  | dK kvs => obtain ⟨_, _, _, _, ob, _, _, e, _⟩ := x; exact ⟨_, e⟩
  | dT kvs => obtain ⟨_, _, _, _, ob, _, _, e, _⟩ := x; exact ⟨_, e⟩
  | set S n => obtain ⟨ob, _, _, _, e, _⟩ := x; exact ⟨_, e⟩
  | ins C dx fs => obtain ⟨_, _, _, e, _⟩ := x; exact ⟨_, e⟩
  | own y => exact x
  | xd fs => obtain ⟨_, ⟨_, _, _, e, _⟩, _⟩ := x; exact ⟨_, e⟩
  | rng lo hi => obtain ⟨_, _, _, e⟩ := x; exact ⟨_, e⟩
  | frz ob u => obtain ⟨e, _⟩ := x; exact ⟨_, e⟩
  | tbl ps => exact ⟨_, x⟩
  | met f y => exact ⟨_, x⟩
  | ext φ => exact x.2.1
def NoCx (o : Obj) : Prop := ∃ vs, o.data = .fields vs ∧ vs[2]? = some Value.none
section
variable {X : Cx} {pins : List (Addr × Obj)} {σ : St} {Hc H' : Hp} {sc s' : Shared} {B h2 : Heap} {a C : Addr} {a0 : Value} {ch : List Addr}
end
end J
namespace J
open PySem PySem.Spec PyProof.Rows L2
theorem kitx_exn {K : PySem.W.Frag} {a C : Addr} (Z : ExcK K C) : PySem.W.KitX K (.ref a) (.ref C) (ExnAt a C) where
  ty := fun M h _ p => by
    obtain ⟨o, h1, h2, _⟩ := p
    rw [← h2]
    exact (PySem.W.Looks.ld h1).andThen .now
  it := fun M h Y _ => by
    obtain ⟨bm, N, nm, qn, bs, hdd, sn, sub, ab, col, dd, k0, k1, k2, k3, k5, mN, hC, _⟩ := exc_obj Y Z.exc
    intro A' Q' E' s' k q
    unfold isType loadHead
    exact wpAny_bind (wpAny_loadPart (k _ _ hC) (wpAny_pure q))
  ne := fun h tp dd its n sl Y e => by
    obtain ⟨bm, N, nm, qn, bs, hdd, sn, sub, ab, col, dd', k0, k1, k2, k3, k5, mN, hC, _⟩ := exc_obj Y Z.exc
    refine Bool.eq_false_iff.mpr fun q => ?_
    have z : C = tp := Value.ref.inj (beq_iff_eq.mp q)
    subst z
    rw [hC] at e
    have z2 : Value.type "type" = Value.type "tuple" := congrArg Obj.cls (Option.some.inj e)
    exact absurd z2 (by decide)
  ca := fun {prog w A E Q s} Y p k => by
    obtain ⟨o, h1, h2, _⟩ := p
    obtain ⟨h, g, d, t, os⟩ := s
    exact xc_attr Y Z h1 h2 k
abbrev Tab := List ((PySem.Str × PySem.Str) × Bool)
abbrev TabT := List ((PySem.Str × String) × Bool)
structure TabOk (K : PySem.W.Frag) (tb : Tab) (tt : TabT) (tc : Tab) : Prop where
  own : ∀ c d b C D, tb.lookup (c, d) = some b → ClsAt K c C → ClsAt K d D → ExcK K C ∧ PySem.W.kitOne K (.ref C) (.ref D) = some b
  cat : ∀ c d b C D, tc.lookup (c, d) = some b → ClsAt K c C → ClsAt K d D → PySem.W.excIn K C bmV nwV = true ∧ PySem.W.excIn K D bmV nwV = true ∧ PySem.W.mroIn K C (.ref D) = some b
  typ : ∀ c T b C, tt.lookup (c, T) = some b → ClsAt K c C → ExcK K C ∧ PySem.W.kitOne K (.ref C) (.type T) = some b
def anyTab (tb : Tab) (c : PySem.Str) : List Wv → Option Bool
  | [] => some false
  | .cls d :: r => (match tb.lookup (c, d) with
    | some true => some true
    | some false => anyTab tb c r
    | none => none)
  | _ => none
theorem anyTab_ok {K : PySem.W.Frag} {m : Mp} {H : Hp} {tb : Tab} {tt : TabT} {tc : Tab} (O : TabOk K tb tt tc) {c : PySem.Str} {C : Addr} (hC : ClsAt K c C) : ∀ {ds : List Wv} {vs : List V} {its : List Value} {b : Bool}, RelWs K m H ds vs → Vals vs its → anyTab tb c ds = some b → PySem.W.kitAny K (.ref C) its = some b
  | [], vs, its, b, r, v, e => by
    unfold RelWs at r
    subst r
    cases v
    cases e
    rfl
  | w :: ds, vs, its, b, r, v, e => by
    unfold RelWs at r
    obtain ⟨x, t, rfl, r1, r2⟩ := r
    cases v with
    | cons h1 h2 =>
      cases w with
      | cls d =>
        unfold RelW at r1
        obtain ⟨D, rfl, hD⟩ := r1
        cases h1
        unfold anyTab at e
        unfold PySem.W.kitAny
        cases q : tb.lookup (c, d) with
        | none => rw [q] at e; cases e
        | some k =>
          rw [q] at e
          obtain ⟨_, z3⟩ := O.own c d k C D q hC hD
          rw [z3]
          cases k with
          | true => cases e; rfl
          | false => exact anyTab_ok O hC r2 h2 e
      | _ => cases e
def oIsA (tb : Tab) (tt : TabT) : List Wv → Hs → Re Wv
  | [.exn c, .cls d], st => (match tb.lookup (c, d) with | some b => .ok (.bl b) st | none => .bad)
  | [.exn c, .ty T], st => (match tt.lookup (c, T) with | some b => .ok (.bl b) st | none => .bad)
  | [.exn c, .tup (.cls d :: ds)], st => (match anyTab tb c (.cls d :: ds) with | some b => .ok (.bl b) st | none => .bad)
  | ws, st => oIsI ws st
section
variable {X : Cx}
theorem call_isA : CallR X (.builtin "isinstance") (fun vs H Q => ∃ a C v c b, vs = [.ref a, v] ∧ ExH a C (H a) ∧ ExcK X.K C ∧ RelV v c ∧ PySem.W.kitOne X.K (.ref C) c = some b ∧ Q (.bl b) H) := by
  intro pins s σ H xs us Q I r h
  obtain ⟨a, C, v, c, b, rfl, ha, Z, rc, e, q⟩ := h
  obtain ⟨u, u', rfl, r1, r2⟩ := vals2 r
  cases r1
  have uc : u' = c := by
    cases v with
    | int i => obtain ⟨t, rfl⟩ := rc; cases e
    | str i => obtain ⟨t, rfl⟩ := rc; cases e
    | byt i => obtain ⟨t, rfl⟩ := rc; cases e
    | flt i => obtain ⟨t, rfl⟩ := rc; cases e
    | non => cases rc; cases r2; rfl
    | bl i => cases rc; cases r2; rfl
    | ref i => cases rc; cases r2; rfl
    | ty i => cases rc; cases r2; rfl
  subst uc
  exact PySem.W.kia_one (kitx_exn Z) I.kIn (ex_at I.hok ha) e (by intro z; cases z) fun tk => ⟨.bl b, H, I.tok tk, rfl, q⟩
theorem call_isAT : CallR X (.builtin "isinstance") (fun vs H Q => ∃ a C p xs b, vs = [.ref a, .ref p] ∧ ExH a C (H a) ∧ ExcK X.K C ∧ SqT X.K H p xs ∧ (∀ its, Vals xs its → PySem.W.kitAny X.K (.ref C) its = some b) ∧ Q (.bl b) H) := by
  intro pins s σ H xs us Q I r h
  obtain ⟨a, C, p, ys, b, rfl, ha, Z, hT, e, q⟩ := h
  obtain ⟨u, u', rfl, r1, r2⟩ := vals2 r
  cases r1
  cases r2
  obtain ⟨its, rv, ⟨o, g1, g2, n, g3⟩, z⟩ := I.tuple hT
  obtain ⟨oc, od, oda, osl⟩ := o
  cases g2
  cases g3
  exact PySem.W.kia_tup (kitx_exn Z) I.kIn (ex_at I.hok ha) g1 (e its rv) (by intro z; cases z) fun tk => ⟨.bl b, H, I.tok tk, rfl, q⟩
theorem cw_isA {tb : Tab} {tt : TabT} {tc : Tab} (O : TabOk X.K tb tt tc) : CallW X (.builtin "isinstance") (oIsA tb tt) := by
  obtain ⟨r, h1, h2⟩ := cw_isI (X := X)
  refine ⟨_, call_isA.or (call_isAT.or h1), fun ws vs st H m Q S rs p => ?_⟩
  unfold oIsA at p
  split at p
  · rename_i _ c d
    cases e : tb.lookup (c, d) with
    | none => rw [e] at p; exact False.elim p
    | some b =>
      rw [e] at p
      obtain ⟨v, v', rfl, r1, r2⟩ := rel2 rs
      unfold RelW at r1 r2
      obtain ⟨a, C, rfl, hC, ha⟩ := r1
      obtain ⟨D, rfl, hD⟩ := r2
      obtain ⟨z1, z3⟩ := O.own c d b C D e hC hD
      exact .inl ⟨a, C, .ref D, .ref D, b, rfl, ha, z1, rfl, z3, p _ m H Ext.refl S mkBl⟩
  · rename_i _ c T
    cases e : tt.lookup (c, T) with
    | none => rw [e] at p; exact False.elim p
    | some b =>
      rw [e] at p
      obtain ⟨v, v', rfl, r1, r2⟩ := rel2 rs
      unfold RelW at r1 r2
      obtain ⟨a, C, rfl, hC, ha⟩ := r1
      subst r2
      obtain ⟨z1, z3⟩ := O.typ c T b C e hC
      exact .inl ⟨a, C, .ty T, .type T, b, rfl, ha, z1, rfl, z3, p _ m H Ext.refl S mkBl⟩
  · rename_i _ c d ds
    cases e : anyTab tb c (.cls d :: ds) with
    | none => rw [e] at p; exact False.elim p
    | some b =>
      rw [e] at p
      obtain ⟨v, v', rfl, r1, r2⟩ := rel2 rs
      unfold RelW at r1
      obtain ⟨a, C, rfl, hC, ha⟩ := r1
      have r2' := r2
      unfold RelW at r2'
      obtain ⟨t, xs, rfl, hT, rx⟩ := r2'
      have Z : ExcK X.K C := by
        have rx' := rx
        unfold RelWs at rx'
        obtain ⟨x, r, _, rd, _⟩ := rx'
        unfold RelW at rd
        obtain ⟨D, _, hD⟩ := rd
        unfold anyTab at e
        cases q : tb.lookup (c, d) with
        | none => rw [q] at e; cases e
        | some k => exact (O.own c d k C D q hC hD).1
      exact .inr (.inl ⟨a, C, t, xs, b, rfl, ha, Z, SqT.of hT, fun its hv => anyTab_ok O hC rx hv e, p _ m H Ext.refl S mkBl⟩)
  · exact .inr (.inr (h2 ws vs st H m Q S rs p))
end
section
variable {X : Cx} {pins : List (Addr × Obj)} {σ : St} {H : Hp} {s : Shared}
abbrev reX (X : Cx) (A' : Around) (cm : Bool) (pn : List (Addr × Obj)) (E : Value → Shared → Prop) : Cx := { X with A := A', calm := cm, pn := pn, xe := E }
abbrev suX (X : Cx) (a : Addr) (u : HO) (pn : List (Addr × Obj)) (E : Value → Shared → Prop) : Cx := { X with A := X.A.mark (some (.ref a)), calm := false, pn := pn, xe := E, H₀ := upd X.H₀ a u }
def HdC (X : Cx) : Prop := X.A.handled = none ∨ ∃ a o u, X.A.handled = some (.ref a) ∧ NoCx o ∧ X.H₀ a = some (.frz o u)
def HdA (A : Around) (H : Hp) : Prop := A.handled = none ∨ ∃ a o u, A.handled = some (.ref a) ∧ NoCx o ∧ H a = some (.frz o u)
theorem HdC.at (h : HdC X) (I : Inv X pins σ H s) : HdA X.A H := h.imp id fun ⟨a, o, u, h1, h2, h3⟩ => ⟨a, o, u, h1, h2, I.base.frzs _ _ _ h3⟩
end
end J
namespace J
open PySem PySem.Spec PyProof.Rows L2
section
variable {X : Cx}
theorem FlownA.er {A : Around} {b : Bool} {E : Value → Shared → Prop} {pins pins' : List (Addr × Obj)} {H H' : Hp} {s s' : Shared} {cls e : Value} (f : FlownA (reX X A b (X.pn ++ pins) E) pins' H s H' cls e s') : FlownA X pins H s H' cls e s' :=
  let ⟨a, a0, nt, B, ch, e1, e2, e3, hch, r⟩ := f
  ⟨a, a0, nt, B, ch, e1, e2, e3, fun b hb => let ⟨h1, h2, h3, h4, h5, h6⟩ := hch b hb; ⟨h1, h2, h3, h4, h5, fun p hp => h6 p (List.mem_append_left _ hp)⟩, r⟩
end
end J
namespace J
open PySem PySem.Spec PyProof.Rows L2
section
variable {X : Cx}
def oStr : List Wv → Hs → Re Wv
  | [.int i], st => if i.natAbs.log2 < 1920 then .ok (.str (toString i : String)) st else .bad
  | _, _ => .bad
def mApp (o v : Wv) (st : Hs) : Re Wv := match o with
  | .ref l => (match st[l]? with
    | some (.lst ws) => if ws.length < lim then .ok .non (st.set l (.lst (ws ++ [v]))) else .bad
    | _ => .bad)
  | _ => .bad
def gMeth (mt : Wv → Wv → Hs → Re Wv) (go ga : GE) : GE := fun ρ st => (go ρ st).bind fun o st1 => match o with
  | .ref l => (match lstOf st1 l with
    | some _ => (ga ρ st1).bind fun v st2 => (mt o v st2).nox
    | none => .bad)
  | _ => .bad
def MtW (X : Cx) (id : String) (mt : Wv → Wv → Hs → Re Wv) : Prop := ∃ r, MtR X id r ∧ ∀ (o w : Wv) (x v : V) (st : Hs) (H : Hp) (m : Mp) (Q : VK), Sim X.K m st H → RelW X.K m H o x → RelW X.K m H w v → PostO X.K m H (mt o w st) Q → r x [v] H Q
theorem mw_app : MtW X "list.append" mApp := ⟨_, mt_append, fun o w x v st H m Q S ro rw' p => by
  cases o with
  | ref l =>
    unfold RelW at ro
    obtain ⟨a, rfl, ha⟩ := ro
    have p' : PostO X.K m H (match st[l]? with | some (.lst ws) => if ws.length < lim then .ok .non (st.set l (.lst (ws ++ [w]))) else .bad | _ => .bad) Q := p
    cases e : st[l]? with
    | none => rw [e] at p'; exact False.elim p'
    | some ob =>
      cases ob with
      | dct kvs => rw [e] at p'; exact False.elim p'
      | dcT kvs => rw [e] at p'; exact False.elim p'
      | dcF kvs => rw [e] at p'; exact False.elim p'
      | scr ns => rw [e] at p'; exact False.elim p'
      | lst ws =>
        rw [e] at p'
        dsimp only at p'
        by_cases c : ws.length < lim
        · rw [if_pos c] at p'
          obtain ⟨xs, h1, h2⟩ := S.lstAt ha e
          have e4 : Ext X.K m H m (upd H a (.lst (xs ++ [v]))) := Ext.upd (.inr ⟨xs, h1⟩)
          exact ⟨a, xs, v, rfl, rfl, h1, by rw [← h2.length]; exact lim_lt c, p' _ m _ e4 (S.write ha e (h2.append (RelWs.cons rw' RelWs.nil))) mkNon⟩
        · rw [if_neg c] at p'; exact False.elim p'
  | _ => exact False.elim p⟩
theorem je_meth {x name : Str} {id : String} {e : Expr} {go ga : GE} {p apos cpos : Pos} {mt : Wv → Wv → Hs → Re Wv} (hm : MtW X id mt) (slot : Slot "list" name id) (hty : typeOf (.builtin id) = pure (.type "method_descriptor")) (ho : JE X (.Name x p) go) (ha : JE X e ga)
    (hst : starEach [e] X.env = [(false, eval e X.env)]) (hline : (apos.endLine == cpos.line) = true) : JE X (.Call (.Attribute (.Name x p) name apos) [e] [] cpos) (gMeth mt go ga) := by
  obtain ⟨r, h1, h2⟩ := hm
  have hfew : ((backTo cpos (starEach [e] X.env)).all (fun x => !x.1) && (backToKw cpos (keywordEach [] X.env)).all (fun x => x.1.isSome) && decide ([e].length + ([] : List Keyword).length + (if ([] : List Keyword).isEmpty then 0 else 1) < 30)) = true := by
    rw [hst]; rfl
  refine JE.of (pe_bm PySem.F.plainAttrs_list slot hty h1 pe_SE pa_SA rfl hfew hline hst rfl) fun ρ st σ H m Q S R p => ?_
  refine ho.go S R (PostG.bind p) fun o st1 v m1 H1 p1 e1 S1 ro => ?_
  cases o with
  | ref l =>
    dsimp only at p1
    cases el : lstOf st1 l with
    | none => rw [el] at p1; exact False.elim p1
    | some ws0 =>
      rw [el] at p1
      dsimp only at p1
      have ro' := ro
      unfold RelW at ro'
      obtain ⟨a, rfl, hla⟩ := ro'
      obtain ⟨xs, hq, _⟩ := S1.read hla el
      refine ⟨.inl ⟨rfl, xs, hq⟩, ?_⟩
      refine (ja_cons ha ja_nil hst).go S1 (R.mono e1) (ok := fun ws st2 => PostG X σ m H (match ws with | [w] => (mt (.ref l) w st2).nox | _ => .bad) (okE X.K m H Q)) ?_ fun ws st2 vs m2 H2 p2 e2 S2 rs => ?_
      · have p3 := (PostG.bind p1).imp e1 (fun _ _ q => q)
        show PostG X σ m1 H1 ((ga ρ st1).bind fun x st1 => (gNil ρ st1).bind fun xs st2 => .ok (x :: xs) st2) _
        cases eg : ga ρ st1 with
        | ok w st2 => rw [eg] at p3; exact p3
        | err c st2 => rw [eg] at p3; exact p3
        | bad => rw [eg] at p3; exact p3
      · match ws, rs, p2 with
        | [], rs, p2 => exact False.elim p2
        | [w], rs, p2 =>
          obtain ⟨v2, rfl, rw2⟩ := rel1 rs
          exact h2 (.ref l) w (.ref a) v2 st2 H2 m2 Q S2 (RelW.mono e2 _ _ ro) rw2 (PostO.shift (PostG.nox p2) (e1.trans e2))
        | _ :: _ :: _, rs, p2 => exact False.elim p2
  | _ => exact False.elim p1
end
end J
namespace J
open PySem PySem.Spec PyProof.Rows L2
section
variable {X : Cx}
def oStr2 : List Wv → Hs → Re Wv
  | [.str z], st => .ok (.str z) st
  | ws, st => oStr ws st
def oInt : List Wv → Hs → Re Wv
  | [.int i], st => .ok (.int i) st
  | [.bl b], st => .ok (.int (if b then 1 else 0)) st
  | _, _ => .bad
theorem cw_int : CallW X (.type "int") oInt := ⟨_, call_int1, fun ws vs st H m Q S rs p => by
  match ws, rs, p with
  | [], rs, p => exact False.elim p
  | x :: y :: t, rs, p => cases x <;> exact False.elim p
  | [x], rs, p =>
    obtain ⟨v, rfl, r1⟩ := rel1 rs
    cases x with
    | int i => cases relInt r1; exact .inl ⟨i, rfl, p _ m H Ext.refl S mkInt⟩
    | bl b => cases relBl r1; exact .inr ⟨b, rfl, p _ m H Ext.refl S mkInt⟩
    | _ => exact False.elim p⟩
def oMax : List Wv → Hs → Re Wv
  | [.int i, .int j], st => .ok (.int (if j > i then j else i)) st
  | _, _ => .bad
def oMin : List Wv → Hs → Re Wv
  | [.int i, .int j], st => .ok (.int (if j < i then j else i)) st
  | _, _ => .bad
theorem cw_max (hc : X.calm = true) : CallW X (.builtin "max") oMax := ⟨_, call_max2 hc, fun ws vs st H m Q S rs p => by
  match ws, rs, p with
  | [], rs, p => exact False.elim p
  | [x], rs, p => cases x <;> exact False.elim p
  | x :: y :: z :: t, rs, p => cases x <;> cases y <;> exact False.elim p
  | [x, y], rs, p =>
    obtain ⟨v, v', rfl, r1, r2⟩ := rel2 rs
    cases x with
    | int i =>
      cases y with
      | int j => cases relInt r1; cases relInt r2; exact ⟨i, j, rfl, p _ m H Ext.refl S mkInt⟩
      | _ => exact False.elim p
    | _ => cases y <;> exact False.elim p⟩
theorem cw_min (hc : X.calm = true) : CallW X (.builtin "min") oMin := ⟨_, call_min2 hc, fun ws vs st H m Q S rs p => by
  match ws, rs, p with
  | [], rs, p => exact False.elim p
  | [x], rs, p => cases x <;> exact False.elim p
  | x :: y :: z :: t, rs, p => cases x <;> cases y <;> exact False.elim p
  | [x, y], rs, p =>
    obtain ⟨v, v', rfl, r1, r2⟩ := rel2 rs
    cases x with
    | int i =>
      cases y with
      | int j => cases relInt r1; cases relInt r2; exact ⟨i, j, rfl, p _ m H Ext.refl S mkInt⟩
      | _ => exact False.elim p
    | _ => cases y <;> exact False.elim p⟩
inductive Slots (X : Cx) : List Expr → List Nat → Prop
  | nil : Slots X [] []
  | cons {x : Str} {p : Pos} {i : Nat} {es : List Expr} {is : List Nat} : X.N[i]? = some x → (Loc X.env.scope x ∧ (X.fn x = true ∨ X.env.scope.names.lookup x = some .local)) → Slots X es is → Slots X (.Name x p :: es) (i :: is)
open Classical in
end
end J
namespace J
open PySem PySem.Spec PyProof.Rows L2
def clF (env : Env) : List (Str × NameKind) → List (Str × Addr) → List (Str × Addr)
  | [], acc => acc
  | (n, k) :: r, acc => if k = .free then clF env r ((n, (env.cells.lookup n).getD 0) :: acc) else clF env r acc
theorem clos_run (env : Env) : ∀ (names : List (Str × NameKind)) (acc : List (Str × Addr)), (∀ y ∈ names, y.2 = .free → ∃ c, env.cells.lookup y.1 = some c) →
    (forIn names acc fun x r => match x with
      | (name, kind) => if (kind == NameKind.free) = true then do let c ← cellOf env name; pure (ForInStep.yield ((name, c) :: r)) else (pure (ForInStep.yield r) : Sem _)) = pure (clF env names acc)
  | [], acc, _ => rfl
  | (n, k) :: r, acc, h => by
    have ih := fun acc => clos_run env r acc fun y hy => h y (List.mem_cons_of_mem _ hy)
    rw [List.forIn_cons]
    by_cases hk : k = .free
    · subst hk
      obtain ⟨c, e⟩ := h (n, .free) List.mem_cons_self rfl
      have e' : env.cells.lookup n = some c := e
      have cc : cellOf env n = pure c := by unfold cellOf; rw [e']
      simp only [beq_self_eq_true, if_true, cc]
      have q : clF env ((n, .free) :: r) acc = clF env r ((n, c) :: acc) := by
        show (if NameKind.free = .free then clF env r ((n, (env.cells.lookup n).getD 0) :: acc) else _) = _
        rw [if_pos rfl, e']
        rfl
      rw [q, ← ih]
      rfl
    · have hb : (k == NameKind.free) = false := by simpa using hk
      simp only [hb, Bool.false_eq_true, if_false]
      have q : clF env ((n, k) :: r) acc = clF env r acc := by
        show (if k = .free then _ else clF env r acc) = _
        rw [if_neg hk]
      rw [q, ← ih]
      rfl
theorem clos_is {env : Env} {scope : Scope} (h : ∀ y ∈ scope.names, y.2 = .free → ∃ c, env.cells.lookup y.1 = some c) : closureFor scope env = pure (clF env scope.names []) := by
  have q := clos_run env scope.names [] h
  unfold closureFor
  first
    | (rw [← q]; rfl)
    | (simp only [bind_pure]; exact q)
theorem clF_sub {env : Env} : ∀ {names : List (Str × NameKind)} {acc : List (Str × Addr)} {y : Str} {c : Addr}, (∀ y ∈ names, y.2 = .free → ∃ c, env.cells.lookup y.1 = some c) → (∀ y c, acc.lookup y = some c → env.cells.lookup y = some c) → (clF env names acc).lookup y = some c → env.cells.lookup y = some c
  | [], acc, y, c, _, ha, e => ha y c e
  | (n, k) :: r, acc, y, c, h, ha, e => by
    unfold clF at e
    by_cases hk : k = .free
    · rw [if_pos hk] at e
      subst hk
      obtain ⟨c0, e0⟩ := h (n, .free) List.mem_cons_self rfl
      have e0' : env.cells.lookup n = some c0 := e0
      refine clF_sub (fun y hy => h y (List.mem_cons_of_mem _ hy)) (fun y' c' e' => ?_) e
      rw [List.lookup_cons] at e'
      cases q : y' == n with
      | true =>
        rw [q] at e'
        have q' := eq_of_beq q
        subst q'
        rw [e0'] at e' ⊢
        exact e'
      | false => rw [q] at e'; exact ha y' c' e'
    · rw [if_neg hk] at e
      exact clF_sub (fun y hy => h y (List.mem_cons_of_mem _ hy)) ha e
theorem clF_has {env : Env} {y : Str} : ∀ {names : List (Str × NameKind)} {acc : List (Str × Addr)}, ((∃ c, acc.lookup y = some c) ∨ (y, NameKind.free) ∈ names) → ∃ c, (clF env names acc).lookup y = some c
  | [], acc, h => by
    rcases h with h | h
    · exact h
    · cases h
  | (n, k) :: r, acc, h => by
    unfold clF
    by_cases hk : k = .free
    · rw [if_pos hk]
      refine clF_has ?_
      rw [List.lookup_cons]
      cases q : y == n with
      | true => exact .inl ⟨_, rfl⟩
      | false =>
        rcases h with h | h
        · exact .inl h
        · rcases List.mem_cons.mp h with h | h
          · cases h; simp at q
          · exact .inr h
    · rw [if_neg hk]
      refine clF_has ?_
      rcases h with h | h
      · exact .inl h
      · rcases List.mem_cons.mp h with h | h
        · cases h; exact absurd rfl hk
        · exact .inr h
theorem lookup_mem {α β : Type} [BEq α] [LawfulBEq α] {y : α} {k : β} : ∀ {names : List (α × β)}, names.lookup y = some k → (y, k) ∈ names
  | [], h => by cases h
  | (n, j) :: r, h => by
    rw [List.lookup_cons] at h
    cases q : y == n with
    | true =>
      rw [q] at h
      cases h
      have q' := eq_of_beq q
      subst q'
      exact List.mem_cons_self
    | false => rw [q] at h; exact List.mem_cons_of_mem _ (lookup_mem h)
theorem rel_look {env : Env} : ∀ {names : List (Str × NameKind)} {y : Str}, (names.map fun (n, k) => if (k == NameKind.free && env.scope.kind == .function && env.kindOf n == some .cell) then (n, NameKind.cell) else (n, k)).lookup y =
    (names.lookup y).map fun k => if (k == NameKind.free && env.scope.kind == .function && env.kindOf y == some .cell) = true then NameKind.cell else k
  | [], y => rfl
  | (n, k) :: r, y => by
    have ih := rel_look (env := env) (names := r) (y := y)
    show List.lookup y ((if (k == NameKind.free && env.scope.kind == .function && env.kindOf n == some .cell) = true then (n, NameKind.cell) else (n, k)) :: _) = _
    cases q : y == n with
    | true =>
      have q' := eq_of_beq q
      subst q'
      by_cases hc : (k == NameKind.free && env.scope.kind == .function && env.kindOf y == some .cell) = true
      · rw [if_pos hc]
        simp only [List.lookup_cons, beq_self_eq_true, Option.map_some]
        rw [if_pos hc]
      · rw [if_neg hc]
        simp only [List.lookup_cons, beq_self_eq_true, Option.map_some]
        rw [if_neg hc]
    | false =>
      by_cases hc : (k == NameKind.free && env.scope.kind == .function && env.kindOf n == some .cell) = true
      · rw [if_pos hc]; simp only [List.lookup_cons, q]; exact ih
      · rw [if_neg hc]; simp only [List.lookup_cons, q]; exact ih
open Classical in
noncomputable def compG (ck : Hs → Prop) (gt : Wv → Hs → Re Bool) (ge : Wv → Hs → Re Wv) (l : Nat) : List Wv → Hs → Option Hs
  | [], st => some st
  | w :: r, st => match gt w st with
    | .ok false st1 => if ck st1 then compG ck gt ge l r st1 else none
    | .ok true st1 => (match ge w st1 with
      | .ok v st2 => (match mApp (.ref l) v st2 with
        | .ok _ st3 => if ck st3 then compG ck gt ge l r st3 else none
        | _ => none)
      | _ => none)
    | _ => none
open Classical in
noncomputable def compZ (ck : Hs → Prop) (gt : Wv → Hs → Re Bool) (ge : Wv → Hs → Re Wv) (l : Nat) : List Wv → Hs → Re Unit
  | [], st => .ok () st
  | w :: r, st => match gt w st with
    | .ok false st1 => if ck st1 then compZ ck gt ge l r st1 else .bad
    | .ok true st1 => (match ge w st1 with
      | .ok v st2 => (match mApp (.ref l) v st2 with
        | .ok _ st3 => if ck st3 then compZ ck gt ge l r st3 else .bad
        | _ => .bad)
      | .err c st2 => .err c st2
      | .bad => .bad)
    | .err c st1 => .err c st1
    | .bad => .bad
theorem compZ_of {ck : Hs → Prop} {gt : Wv → Hs → Re Bool} {ge : Wv → Hs → Re Wv} {l : Nat} {stF : Hs} : ∀ (ws : List Wv) (st : Hs), compG ck gt ge l ws st = some stF → compZ ck gt ge l ws st = .ok () stF
  | [], st, h => by cases h; rfl
  | w :: r, st, h => by
    unfold compG at h
    unfold compZ
    cases eg : gt w st with
    | err c st1 => rw [eg] at h; cases h
    | bad => rw [eg] at h; cases h
    | ok b st1 =>
      rw [eg] at h
      cases b with
      | false =>
        dsimp only at h ⊢
        by_cases c : ck st1
        · rw [if_pos c] at h ⊢; exact compZ_of r st1 h
        · rw [if_neg c] at h; cases h
      | true =>
        dsimp only at h ⊢
        cases ee : ge w st1 with
        | err c st2 => rw [ee] at h; cases h
        | bad => rw [ee] at h; cases h
        | ok v st2 =>
          rw [ee] at h
          dsimp only at h ⊢
          cases ea : mApp (.ref l) v st2 with
          | err c st3 => rw [ea] at h; cases h
          | bad => rw [ea] at h; cases h
          | ok u st3 =>
            rw [ea] at h
            dsimp only at h ⊢
            by_cases c : ck st3
            · rw [if_pos c] at h ⊢; exact compZ_of r st3 h
            · rw [if_neg c] at h; cases h
abbrev Caps := List (Str × Nat)
def capR (cs : Caps) (ρ : Rho) : Rho := cs.map fun p => (ρ[p.2]?).getD none
def capS (cs : Caps) (σ : St) : St := cs.map fun p => (σ[p.2]?).getD none
theorem cap_rel {K : PySem.W.Frag} {m : Mp} {H : Hp} {ρ : Rho} {σ : St} (cs : Caps) (R : RelEnv K m H ρ σ) : RelEnv K m H (capR cs ρ) (capS cs σ) := by
  refine ⟨by unfold capR capS; simp, fun i w e => ?_⟩
  unfold capR at e
  rw [List.getElem?_map] at e
  cases q : cs[i]? with
  | none => rw [q] at e; cases e
  | some p =>
    rw [q] at e
    have e' : (ρ[p.2]?).getD none = some w := by simpa using e
    cases q2 : ρ[p.2]? with
    | none => rw [q2] at e'; cases e'
    | some o =>
      rw [q2] at e'
      have e2 : o = some w := e'
      subst e2
      obtain ⟨v, h1, h2⟩ := R.get _ _ q2
      refine ⟨v, ?_, h2⟩
      unfold capS
      rw [List.getElem?_map, q]
      simp [h1]
def compX (X : Cx) (scope : Scope) (x : Str) (cs : Caps) (C : Addr) (s0 : Shared) (H0 : Hp) (fp : List Addr) (pn : List (Addr × Obj)) (E : Value → Shared → Prop) : Cx where
  prog := X.prog
  w := X.w
  K := X.K
  mg := X.mg
  base := X.base
  A := X.A
  N := x :: cs.map (·.1)
  s₀ := s0
  H₀ := H0
  env := compEnvC scope (clF X.env scope.names []) C X.env
  outer := X.stack
  stack := X.stack
  ex := fp
  fn := fun _ => false
  calm := X.calm
  pn := pn
  xe := E
structure CScope (X : Cx) (scope : Scope) (x : Str) (cs : Caps) : Prop where
  kind : scope.kind = .function
  look : ∀ y ∈ scope.names, scope.names.lookup y.1 = some y.2
  cell : ∀ y ∈ scope.names, y.2 ≠ .cell
  var : scope.names.lookup x = some .local
  cap : ∀ y ∈ scope.names, y.2 = .free → X.env.kindOf y.1 = some .cell ∨ X.env.kindOf y.1 = some .free
  at_ : ∀ p ∈ cs, X.N[p.2]? = some p.1 ∧ scope.names.lookup p.1 = some .free
  nd : (x :: cs.map (·.1)).Nodup
section
variable {X : Cx} {pins : List (Addr × Obj)} {σ : St} {H : Hp} {s : Shared} {scope : Scope} {x : Str} {cs : Caps}
theorem fp_stack (I : Inv X pins σ H s) {b : Addr} (f : FpOk X pins H b) : b ∉ frs X.stack := fun z => by
  rcases List.mem_cons.mp (I.stkSub b z) with q | q
  · exact f.2.1 q
  · exact f.2.2.1 q
theorem CScope.has (S : CScope X scope x cs) (ok : X.Ok) : ∀ y ∈ scope.names, y.2 = .free → ∃ c, X.env.cells.lookup y.1 = some c := fun y hy e => ok.has y.1 (S.cap y hy e)
theorem CScope.sub (S : CScope X scope x cs) (ok : X.Ok) {y : Str} {c : Addr} (e : (clF X.env scope.names []).lookup y = some c) : X.env.cells.lookup y = some c :=
  clF_sub (S.has ok) (fun _ _ z => by cases z) e
theorem CScope.kindIn (S : CScope X scope x cs) (ok : X.Ok) {C : Addr} {y : Str} (h : (compEnvC scope (clF X.env scope.names []) C X.env).kindOf y = some .cell ∨ (compEnvC scope (clF X.env scope.names []) C X.env).kindOf y = some .free) : scope.names.lookup y = some .free := by
  have q : (compEnvC scope (clF X.env scope.names []) C X.env).kindOf y = (scope.names.lookup y).map fun k => if (k == NameKind.free && X.env.scope.kind == .function && X.env.kindOf y == some .cell) = true then NameKind.cell else k := rel_look
  rw [q] at h
  cases e : scope.names.lookup y with
  | none => rw [e] at h; simp at h
  | some k =>
    rw [e] at h
    simp only [Option.map_some, Option.some.injEq] at h
    by_cases hk : k = .free
    · rw [hk]
    · have hb : (k == NameKind.free) = false := by simpa using hk
      rw [hb] at h
      simp only [Bool.false_and, Bool.false_eq_true, if_false] at h
      rcases h with h | h
      · exact absurd h (S.cell (y, k) (lookup_mem e))
      · exact absurd h hk
theorem CScope.free_vis (S : CScope X scope x cs) {C : Addr} {y : Str} (e : scope.names.lookup y = some .free) : (compEnvC scope (clF X.env scope.names []) C X.env).kindOf y = some .cell ∨ (compEnvC scope (clF X.env scope.names []) C X.env).kindOf y = some .free := by
  have q : (compEnvC scope (clF X.env scope.names []) C X.env).kindOf y = (scope.names.lookup y).map fun k => if (k == NameKind.free && X.env.scope.kind == .function && X.env.kindOf y == some .cell) = true then NameKind.cell else k := rel_look
  rw [q, e]
  simp only [Option.map_some]
  split
  · exact .inl rfl
  · exact .inr rfl
theorem comp_inv {fp : List Addr} {h2 : Heap} {tk : Nat} {E : Value → Shared → Prop} (S : CScope X scope x cs) (I : Inv X pins σ H s) (hf : ∀ b ∈ fp, FpOk X pins H b) (hl : ∀ b ∈ fp, b < s.heap.objs.size)
    (ns : h2.Ns s.heap.objs.size (fun y => ([] : List (Str × Value)).reverse.lookup y)) (sb : Heap.SameBut s.heap.objs.size (s.heap.push { cls := .type "dict", data := .dict #[] }) h2) :
    Inv (compX X scope x cs s.heap.objs.size s H fp (X.pn ++ pins) E) [] (none :: capS cs σ) H { s with heap := h2, toks := tk } := by
  have keep : ∀ b o, s.heap.get? b = some o → h2.get? b = some o := fun b o e => (sb.2 b (Nat.ne_of_lt (Heap.lt_size e))).trans (Heap.get?_push_of_some _ e)
  have sub : ∀ {y : Str} {c : Addr}, (clF X.env scope.names []).lookup y = some c → X.env.cells.lookup y = some c := fun e => S.sub I.ok e
  have cellK : ∀ y c, X.env.cells.lookup y = some c → ∀ v, s.heap.IsCell c v → h2.IsCell c v := fun y c _ v ⟨o, ho, hd⟩ => ⟨o, keep c o ho, hd⟩
  refine ⟨⟨I.ok.mod, S.kind, I.ok.glob, I.ok.blt, Nat.le_refl _, (fun y z c e1 e2 => I.ok.inj y z c (sub e1) (sub e2)), fun y h => clF_has (.inr (lookup_mem (S.kindIn I.ok h))), (fun y c e => by cases e), I.ok.hd, I.ok.frames, .inl rfl, fun b hb => ⟨Nat.ne_of_lt (hl b hb), fun y c e => (hf b hb).2.2.2.2.1 y c (sub e)⟩, I.bs, Nat.le_trans I.ok.bsz I.sz, fun b o e hb => ?_, fun b hb => fp_stack I (hf b hb), I.stack, I.stkFree⟩, rfl, I.bare, Un.kept keep, ⟨_, ns, fun i y v e1 e2 e3 => ?_⟩, (fun y c e => ?_), I.fresh, (fun y c e => I.freeC y c (sub e)), fun p hp => ?_, I.hok.kept keep, by unfold compX capS; simp⟩
  · rcases (hf b hb).2.2.2.1 with z | z
    · exact I.ok.noex b o e z
    · exact absurd (Nat.lt_of_lt_of_le (Heap.lt_size e) (Nat.le_trans I.ok.bsz z)) (Nat.lt_irrefl _)
  · cases i with
    | zero => cases e2
    | succ i =>
      have e1' : (cs.map (·.1))[i]? = some y := e1
      have e2' : (capS cs σ)[i]? = some (some v) := e2
      unfold capS at e2'
      rw [List.getElem?_map] at e1' e2'
      cases q : cs[i]? with
      | none => rw [q] at e1'; cases e1'
      | some p =>
        rw [q] at e1' e2'
        have y1 : p.1 = y := by simpa using e1'
        have e4 : (σ[p.2]?).getD none = some v := by simpa using e2'
        have e5 : σ[p.2]? = some (some v) := by
          cases q2 : σ[p.2]? with
          | none => rw [q2] at e4; cases e4
          | some o =>
            rw [q2] at e4
            have : o = some v := e4
            rw [this]
        have hp := S.at_ p (List.mem_iff_getElem?.mpr ⟨i, q⟩)
        rw [y1] at hp
        have kd := S.cap (y, .free) (lookup_mem hp.2) rfl
        obtain ⟨m, hn, hl'⟩ := I.loc
        obtain ⟨u, r, l⟩ := hl' p.2 y v hp.1 e5 (.inr kd)
        refine ⟨u, r, .inr ⟨S.free_vis hp.2, ?_⟩⟩
        rcases l with ⟨l, _⟩ | ⟨_, c, e, z⟩
        · rcases kd with kd | kd
          · have kd' : X.env.kindOf y = some .cell := kd
            rw [kd'] at l; cases l
          · have kd' : X.env.kindOf y = some .free := kd
            rw [kd'] at l; cases l
        · obtain ⟨c', e'⟩ := clF_has (env := X.env) (y := y) (names := scope.names) (acc := []) (.inr (lookup_mem hp.2))
          have := sub e'
          rw [e] at this
          cases this
          exact ⟨c, e', cellK y c e _ z⟩
  · obtain ⟨v, z⟩ := I.cell y c (sub e)
    exact ⟨v, cellK y c (sub e) v z⟩
  · rw [List.append_nil] at hp
    obtain ⟨e, n, ne, nf, d⟩ := I.pin p hp
    refine ⟨keep _ _ e, n, Nat.ne_of_lt (Heap.lt_size e), fun z => ?_, d⟩
    rcases List.mem_cons.mp (I.stkSub p.1 z) with q | q
    · exact ne q
    · exact nf q
theorem comp_end {fp : List Addr} {E : Value → Shared → Prop} {Hb He : Hp} {sb se : Shared} {C : Addr} {σ' : St} {pins' : List (Addr × Obj)} (I : Inv X pins σ Hb sb) (hf : ∀ b ∈ fp, FpOk X pins Hb b) (J : Inv (compX X scope x cs C sb Hb fp (X.pn ++ pins) E) pins' σ' He se) : Inv X pins σ He se := by
  have un : Un (frs X.stack) fp Hb He sb.heap se.heap := J.base
  exact I.call' (ch := fp) J.os un J.hok J.bare fun b hb => ⟨(hf b hb).2.2.2.1, (hf b hb).2.1, (hf b hb).2.2.2.2.1, fun p hp => (hf b hb).2.2.2.2.2 p hp⟩
theorem comp_gone {He : Hp} {se : Shared} {C : Addr} {h2 : Heap} (I : Inv X pins σ He se) (f : FpOk X pins He C) (same : Heap.SameBut C se.heap h2) : Inv X pins σ He { se with heap := h2 } :=
  I.turned (t' := se.toks) (it := C) (fun b o hb e => (same.2 b hb).trans e) f.1 f.2.1 f.2.2.2.1 f.2.2.2.2.1 f.2.2.2.2.2
end
def FrOk (X : Cx) : Prop := ∃ (env : Env) (outer : List Env) (L : Addr), X.stack = env :: outer ∧ env.frame = some L ∧ X.env.frame = some L
theorem note_env {e : Value} {env env' : Env} (h : env.frame = env'.frame) : noteFrame e env = noteFrame e env' := by
  unfold noteFrame PySem.frameOf
  rw [h]
theorem funFrames_to {B B' h h' : Heap} (st : B'.StaysIn B) : ∀ {l : List Env}, h.FunFrames B l → (∀ b ∈ frs l, ∀ o, h.get? b = some o → (∀ vs, o.data ≠ .fields vs) → h'.get? b = some o) → h'.FunFrames B' l
  | [], _, _ => trivial
  | env :: r, ⟨hk, ⟨L, o, hf, hn, ho, hd⟩, hr⟩, k => by
    refine ⟨hk, ⟨L, o, hf, ?_, k L (List.mem_filterMap.mpr ⟨env, List.mem_cons_self, hf⟩) o ho hd, hd⟩, funFrames_to st hr fun b hb => k b ?_⟩
    · cases q : B'.get? L with
      | none => rfl
      | some u => rw [st L u q] at hn; cases hn
    · obtain ⟨e, he, hb⟩ := List.mem_filterMap.mp hb
      exact List.mem_filterMap.mpr ⟨e, List.mem_cons_of_mem _ he, hb⟩
section
variable {X : Cx} {pins : List (Addr × Obj)} {σ : St} {scope : Scope} {x : Str} {cs : Caps}
theorem noted_post {Hc H' : Hp} {sc s' : Shared} {C a Cl L : Addr} {a0 acc : Value} {B h4 : Heap} {ch : List Addr} {mm : Str → Option Value} {use : Option (Value → Sem Unit)} {Q : Value → Shared → Prop} {c : Str}
    (hC : ClsAt X.K c Cl) (Io : Inv X pins σ Hc sc) (fC : FpOk X pins Hc C) (ns : sc.heap.Ns C mm) (os : s'.os = sc.os) (bare : AllBare s'.gens) (hch : ∀ b ∈ ch, FpOk X pins Hc b) (nC : C ∉ ch) (un : Un (frs X.stack) ch Hc H' sc.heap s'.heap) (hok : HOk X.prog X.w H' B)
    (hd : HeldX B X.stack a (.ref Cl) a0 L h4) (up : s'.heap.UpToSlots h4) (cov : ∀ b o, sc.heap.get? b = some o → b ∉ frs X.stack → b ∉ ch → ∃ o', B.get? b = some o' ∧ (Hc b = none → o' = o)) (k : ∀ s5, Raised X σ H' c (.ref a) s5 → X.xe (.ref a) s5) :
    compPost (model X.prog X.w) X.A X.xe use Q acc C (.error (.ref a)) { s' with heap := h4 } := by
  have nfC : C ∉ frs X.stack := fp_stack Io fC
  obtain ⟨oC, es, ep, hoC, dC, sk⟩ := ns
  obtain ⟨oC', gC, eC⟩ := cov C oC hoC nfC nC
  rw [eC fC.1] at gC
  obtain ⟨d1, d2, d3, oe, vs, T, oT, ts, t1, t2, t3, t4, t5, t6, t7, t8, t9⟩ := hd
  have aC : a ≠ C := fun z => by rw [z, gC] at d2; cases d2
  have TC : T ≠ C := fun z => by rw [z, gC] at t5; cases t5
  have lt : 3 < ts.size := (Array.getElem?_eq_some_iff.mp t9).1
  have nch : ∀ b ∈ frs X.stack, b ∉ ch := fun b hb z => fp_stack Io (hch b z) hb
  have go : ∃ m, h4.Ns C m ∧ ∀ h', Heap.SameBut C h4 h' → ∀ cenv : Env, cenv.locals = C → wpAny (model X.prog X.w) X.A (PySem.passOn "comprehension.variables-let-go" (.ref a) cenv : Sem Value) (fun _ _ => False) X.xe { s' with heap := h' } := by
    refine ⟨mm, ⟨oC, es, ep, d1 C oC gC, dC, sk⟩, fun h' same cenv _ => ?_⟩
    have ga : h'.get? a = some oe := (same.2 a aC).trans t1
    have gT : h'.get? T = some oT := (same.2 T TC).trans t7
    have fin : ∀ nt : Value, X.xe (.ref a) { s' with heap := h'.update T (Obj.mapFields (·.setIfInBounds 3 nt)) } := fun nt => by
      have other : ∀ b, b ≠ T → (h'.update T (Obj.mapFields (·.setIfInBounds 3 nt))).get? b = h'.get? b := fun b hb => Heap.get?_update_other _ _ (Ne.symm hb)
      have gB : ∀ b o, B.get? b = some o → b ≠ C → (h'.update T (Obj.mapFields (·.setIfInBounds 3 nt))).get? b = some o := fun b o q n => (other b fun z => by rw [z, t5] at q; cases q).trans ((same.2 b n).trans (d1 b o q))
      have gF : ∀ b ∈ frs X.stack, ∀ o, h4.get? b = some o → (∀ vs, o.data ≠ .fields vs) → (h'.update T (Obj.mapFields (·.setIfInBounds 3 nt))).get? b = some o := fun b hb o q n => (other b fun z => by
        rw [z, t7] at q
        cases q
        exact n ts t8).trans ((same.2 b fun z => nfC (z ▸ hb)).trans q)
      have sl : ∀ b o, sc.heap.get? b = some o → Hc b = none → b ∈ frs X.stack → ∃ sl, (h'.update T (Obj.mapFields (·.setIfInBounds 3 nt))).get? b = some { o with slots := sl } := fun b o q n hb => by
        obtain ⟨s1, q1⟩ := un.slot b o q n hb (nch b hb)
        obtain ⟨_, o1, q2, n1⟩ := Io.stack.mem hb
        rw [q] at q2
        cases q2
        obtain ⟨s2, q3⟩ := up b _ q1 n1
        exact ⟨s2, gF b hb _ q3 n1⟩
      have non : ∀ b, B.get? b = none → (PySem.W.hideAll B [C]).get? b = none := fun b q => by
        cases z : (PySem.W.hideAll B [C]).get? b with
        | none => rfl
        | some u => rw [PySem.W.of_hideAll _ z] at q; cases q
      refine k _ ⟨Cl, pins, Hc, sc, hC, Io, .inl ⟨a, a0, nt, PySem.W.hideAll B [C], C :: ch, rfl, os, bare, fun b hb => ?_, ⟨fun b o q n hb hx => ?_, fun b o q n hb _ => sl b o q n hb, fun b o q n hx => un.free b o q n fun z => hx (List.mem_cons_of_mem _ z), fun b o q hx => ?_, un.tups, un.frzs, un.tbls⟩, hok_hide hok fun b hb => ?_, ⟨fun b o q => ?_, non a d2, funFrames_to (fun b o q => PySem.W.of_hideAll _ q) d3 gF, oe, vs, T, _, _, (other a (Ne.symm t6)).trans ga, t2, t3, t4, non T t5, t6, Heap.get?_update_self _ gT (Obj.isFreed_of_fields (Obj.data_mapFields t8 _)), Obj.data_mapFields t8 _, by simp [lt]⟩, fun b o q hb hx => ?_⟩⟩
      · rcases List.mem_cons.mp hb with z | z
        · rw [z]; exact fC
        · exact hch b z
      · obtain ⟨o', q1, q2⟩ := cov b o q hb fun z => hx (List.mem_cons_of_mem _ z)
        rw [q2 n] at q1
        exact gB b o q1 fun z => hx (z ▸ List.mem_cons_self)
      · by_cases hb : b ∈ frs X.stack
        · obtain ⟨s2, q2⟩ := sl b o q (Io.stkFree b hb) hb
          exact ⟨_, q2⟩
        · obtain ⟨o', q1, _⟩ := cov b o q hb fun z => hx (List.mem_cons_of_mem _ z)
          exact ⟨o', gB b o' q1 fun z => hx (z ▸ List.mem_cons_self)⟩
      · rw [List.mem_singleton.mp hb]
        exact un.free C oC hoC fC.1 nC
      · refine gB b o (PySem.W.of_hideAll _ q) fun z => ?_
        rw [z, PySem.W.hideAll_none [C] List.mem_cons_self] at q
        cases q
      · obtain ⟨o', q1, q2⟩ := cov b o q hb fun z => hx (List.mem_cons_of_mem _ z)
        exact ⟨o', PySem.W.hideAll_get _ q1 fun z => hx ((List.mem_singleton.mp z) ▸ List.mem_cons_self), q2⟩
    unfold PySem.passOn
    refine wpAny_bind (wpAny_field ga t3 t4 ?_)
    rw [if_neg (show ¬ ((Value.ref T == Value.none) = true) from by simp)]
    unfold setFlight
    refine wpAny_bind (wpAny_bind (wpAny_field ga t3 t4 ?_))
    rw [if_pos (show (Value.ref T != Value.none) = true from by simp)]
    exact wpAny_setField gT t8 lt (wpAny_throw (fin _))
  cases use <;> exact go
theorem comp_raise {fp : List Addr} {H3 H' : Hp} {s3 s' : Shared} {σ' : St} {c : Str} {e acc : Value} {E0 : Value → Shared → Prop} {use : Option (Value → Sem Unit)} {Q : Value → Shared → Prop} (fr : FrOk X) (I3 : Inv X pins σ H3 s3) (f3 : ∀ b ∈ fp, FpOk X pins H3 b)
    (rz : Raised (compX X scope x cs s3.heap.objs.size s3 H3 fp (X.pn ++ pins) E0) σ' H' c e s') (k : ∀ s5, Raised X σ H' c e s5 → X.xe e s5) :
    notedBy (model X.prog X.w) X.A (compEnvC scope (clF X.env scope.names []) s3.heap.objs.size X.env) (fun e s' => compPost (model X.prog X.w) X.A X.xe use Q acc s3.heap.objs.size (.error e) s') e s' := by
  obtain ⟨env, outer, L, hst, hf, hfe⟩ := fr
  obtain ⟨Cl, pins', Hc, sc, hC, J, r⟩ := rz
  have Io : Inv X pins σ Hc sc := comp_end I3 f3 J
  have fC : FpOk X pins Hc s3.heap.objs.size := I3.fpOk (Nat.le_refl _) J.free
  obtain ⟨mm, ns, _⟩ := id J.loc
  have hfr : X.A.frames = some (env :: outer) := by rw [Io.ok.frames, hst]
  unfold notedBy
  rw [note_env (env' := env) (show (compEnvC scope (clF X.env scope.names []) s3.heap.objs.size X.env).frame = env.frame from hfe.trans hf.symm)]
  rcases r with ⟨a, a0, nt, B, ch, rfl, os, bare, hch, un, hok, fl, cov⟩ | ⟨rfl, a, args, rfl, ho, hg, M⟩
  · have fl' : B.StaysIn s'.heap ∧ B.get? a = none ∧ s'.heap.FunFrames B X.stack ∧ TrX s'.heap B a (.ref Cl) a0 nt := fl
    rw [hst] at fl'
    refine note_any hfr hf fl' fun h4 hd4 up4 => ?_
    rw [← hst] at hd4
    refine noted_post hC Io fC ns os bare (fun b hb => ?_) (fun z => (hch _ z).2.1 rfl) un hok hd4 up4 cov k
    obtain ⟨h1, _, _, h4, _⟩ := hch b hb
    rcases h4 with z | z
    · exact ⟨h1, (f3 b z).2⟩
    · exact I3.fpOk z h1
  · have fs : sc.heap.FunFrames (PySem.W.hideAll sc.heap (frs X.stack)) (env :: outer) := by
      rw [← hst]
      exact PySem.W.funFrames_hide Io.stack fun env he b hb => List.mem_filterMap.mpr ⟨env, he, hb⟩
    refine note_made (base := PySem.W.hideAll sc.heap (frs X.stack)) hfr hf (fun b o q => PySem.W.of_hideAll _ q) fs M fun h4 a0 hd4 up4 => ?_
    rw [← hst] at hd4
    exact noted_post (ch := []) hC Io fC ns ho (by rw [hg]; exact Io.bare) (fun b z => by cases z) (by simp) (Un.kept M.keeps) (hok_hide Io.hok Io.stkFree) hd4 up4 (fun b o q hb _ => ⟨o, PySem.W.hideAll_get _ q hb, fun _ => rfl⟩) k
end
structure TurnY (Y : Cx → Prop) (P : Program) (w : World) (K : PySem.W.Frag) (tg : Expr) (J : It) (fp : List Addr) (it : Addr) (tn : Nat → Heap → Prop) : Prop where
  obj : ∀ i h, tn i h → ∀ b ∈ fp, ∃ o, h.get? b = some o ∧ ∀ v, o.data ≠ .cell v
  keep : ∀ i h h', tn i h → (∀ b ∈ fp, ∀ o, h.get? b = some o → h'.get? b = some o) → tn i h'
  item : ∀ (X : Cx), X.prog = P → X.w = w → X.K = K → Y X → ∀ (i : Nat) (pins : List (Addr × Obj)) (s : Shared) (σ : St) (H : Hp) (E : Value → Shared → Prop), Inv X pins σ H s → (∀ b ∈ fp, FpOk X pins H b) → tn i s.heap → J.go i H → wpAny (model P w) X.A (pyNext (.ref it)) (fun r s1 => ∃ u, r = some u ∧
    wpAny (model P w) X.A (letOwnedTupleGo tg (.ref it) u) (fun _ s2 => ∃ x H', Inv X pins σ H' s2 ∧ RelV x u ∧ J.yld i H x H' ∧ tn (i + 1) s2.heap ∧ ∀ b ∈ fp, H' b = none) E s1) E s
  done : ∀ (X : Cx), X.prog = P → X.w = w → X.K = K → Y X → ∀ (i : Nat) (pins : List (Addr × Obj)) (s : Shared) (σ : St) (H : Hp) (E : Value → Shared → Prop), Inv X pins σ H s → (∀ b ∈ fp, FpOk X pins H b) → tn i s.heap → J.stop i H → wpAny (model P w) X.A (pyNext (.ref it)) (fun r s1 => r = none ∧ Inv X pins σ H s1) E s
  self : ∀ (A : Around) (i : Nat) (s : Shared) (Q : Value → Shared → Prop) (E : Value → Shared → Prop), tn i s.heap → Q (.ref it) s → wpAny (model P w) A (pyIter (.ref it)) Q E s
abbrev Calm (X : Cx) : Prop := X.calm = true
theorem _root_.L2.Turn.y {P : Program} {w : World} {K : PySem.W.Frag} {tg : Expr} {J : It} {fp : List Addr} {it : Addr} {tn : Nat → Heap → Prop} (T : Turn P w K tg J fp it tn) : TurnY Calm P w K tg J fp it tn := ⟨T.obj, T.keep, T.item, T.done, T.self⟩
def YIn (Y : Cx → Prop) (X : Cx) : Prop := ∀ {pins : List (Addr × Obj)} {σ : St} {H : Hp} {s : Shared} (scope : Scope) (x : Str) (cs : Caps) (C : Addr) (s0 : Shared) (fp : List Addr) (pn : List (Addr × Obj)) (E : Value → Shared → Prop), Inv X pins σ H s → Y (compX X scope x cs C s0 H fp pn E)
theorem yin_calm {X : Cx} (hc : X.calm = true) : YIn Calm X := fun _ _ _ _ _ _ _ _ _ => hc
def JTs (X : Cx) (ifs : List Expr) (g : GT) : Prop := ∀ (ρ : Rho) (st : Hs) (σ : St) (H : Hp) (m : Mp) (Q : Bool → Hp → Prop), Sim X.K m st H → RelEnv X.K m H ρ σ → PostT X σ m H (g ρ st) Q → ∀ (pins : List (Addr × Obj)) (s : Shared), Inv X pins σ H s →
  wpAny (model X.prog X.w) X.A (forIn ifs true fun c r => if r = true then do let ok ← isTrue c X.env (eval c X.env); pure (ForInStep.yield ok) else pure (ForInStep.yield r)) (TP X pins σ Q) X.xe s
section
variable {X : Cx}
theorem jts_nil : JTs X [] (fun _ st => .ok true st) := fun ρ st σ H m Q S R p pins s I => wpAny_tests_nil ⟨H, I, p m H Ext.refl S⟩
theorem jts_one {c : Expr} {g : GT} (h : JT X c g) : JTs X [c] g := fun ρ st σ H m Q S R p pins s I => wpAny_tests_one (h ρ st σ H m Q S R p pins s I)
theorem comp_block {pins : List (Addr × Obj)} {σ : St} {ρ : Rho} {scope : Scope} {x : Str} {cs : Caps} {px pos : Pos} {elt iter : Expr} {ifs : List Expr} {gt : GT} {ge : GE} {ck : Hs → Prop} {ws : List Wv} {E : Value → Shared → Prop}
    {use : Option (Value → Sem Unit)} {Q : Value → Shared → Prop} {res : Re Unit}
    {it : Addr} {fp : List Addr} {tn : Nat → Heap → Prop} {J' : It} {H2 : Hp} {s2 : Shared} {m1 : Mp} {st1 : Hs} {Y : Cx → Prop} (fr : FrOk X) (S : CScope X scope x cs) (hY : YIn Y X) (hH : HdC X) (I2 : Inv X pins σ H2 s2) (T : TurnY Y X.prog X.w X.K (.Name x px) J' fp it tn) (t0 : tn 0 s2.heap) (f2 : ∀ b ∈ fp, FpOk X pins H2 b)
    (S1 : Sim X.K m1 st1 H2) (R : RelEnv X.K m1 H2 ρ σ) (hck : ck (st1 ++ [.lst []])) (run : compZ ck (fun w => gt (some w :: capR cs ρ)) (fun w => ge (some w :: capR cs ρ)) st1.length ws (st1 ++ [.lst []]) = res) (nb : res ≠ .bad) (hx : ∀ c stE, res = .err c stE → XOk X σ m1 H2 c stE)
    (hE : ∀ C s0 H0 pn E, HdA X.A H0 → JE (compX X scope x cs C s0 H0 fp pn E) elt ge) (hT : ∀ C s0 H0 pn E, HdA X.A H0 → JTs (compX X scope x cs C s0 H0 fp pn E) ifs gt)
    (hgo : ∀ (k : Nat) (H : Hp) (m' : Mp) (st : Hs), Ext X.K m1 H2 m' H → Sim X.K m' st H → ck st → k < ws.length → J'.go k H) (hstop : ∀ (k : Nat) (H : Hp) (m' : Mp) (st : Hs), Ext X.K m1 H2 m' H → Sim X.K m' st H → ck st → k = ws.length → J'.stop k H)
    (hy : ∀ (k : Nat) (hk : k < ws.length) (H : Hp) (v : V) (H' : Hp) (m' : Mp) (st : Hs), Ext X.K m1 H2 m' H → Sim X.K m' st H → ck st → J'.yld k H v H' → H' = H ∧ RelW X.K m' H ws[k] v)
    (fin : ∀ (stF : Hs), res = .ok () stF → ∀ (D C : Addr) (mm : Str → Option Value) (m' : Mp) (H' : Hp) (s' : Shared), Ext X.K m1 H2 m' H' → Sim X.K m' stF H' → m'[st1.length]? = some D → Inv X pins σ H' s' → FpOk X pins H' C → s'.heap.Ns C mm → (∀ y c, X.env.cells.lookup y = some c → c ≠ C) → compPost (model X.prog X.w) X.A X.xe use Q (.ref D) C (.ok .next) s') :
    wpAny (model X.prog X.w) X.A (newList []) (fun acc s3 => wpAny (model X.prog X.w) X.A (newFunctionEnv scope X.env.globals (clF X.env scope.names []) [] X.env.qual none .none (some X.env)) (fun cenv s4 =>
      codeAny (model X.prog X.w) X.A (.compStart (.ListComp elt [⟨.Name x px, iter, ifs, 0⟩] scope pos) 0 (.ref it) acc { cenv with scope := relabel scope X.env }) (compPost (model X.prog X.w) X.A X.xe use Q acc cenv.locals) s4) E s3) E s2 := by
  refine wpAny_newList ?_
  have I3 : Inv X pins σ (upd H2 s2.heap.objs.size (.lst [])) { s2 with heap := s2.heap.push { cls := .type "list", data := .seq ([] : List Value).toArray } } := I2.lnew (ys := []) (its := []) (t' := s2.toks) .nil (Nat.zero_le _)
  have lt2 : ∀ b ∈ fp, b < s2.heap.objs.size := fun b hb => by
    obtain ⟨o, e, _⟩ := T.obj _ _ t0 b hb
    exact Heap.lt_size e
  have hD : H2 s2.heap.objs.size = none := I2.fresh
  have f3 : ∀ b ∈ fp, FpOk X pins (upd H2 s2.heap.objs.size (.lst [])) b := fun b hb => ⟨by rw [upd_ne (Nat.ne_of_lt (lt2 b hb))]; exact (f2 b hb).1, (f2 b hb).2⟩
  have S3 := S1.alloc (ws := []) (xs := []) hD RelWs.nil
  have e3 : Ext X.K m1 H2 (m1 ++ [s2.heap.objs.size]) (upd H2 s2.heap.objs.size (.lst [])) := Ext.more.trans (Ext.upd (.inl hD))
  have lab : (m1 ++ [s2.heap.objs.size])[st1.length]? = some s2.heap.objs.size := by
    rw [← S1.len, List.getElem?_append_right (Nat.le_refl _), Nat.sub_self]; rfl
  generalize hs3 : ({ s2 with heap := s2.heap.push { cls := .type "list", data := .seq ([] : List Value).toArray } } : Shared) = s3 at I3
  have k23 : ∀ b o, s2.heap.get? b = some o → s3.heap.get? b = some o := fun b o e => by rw [← hs3]; exact Heap.get?_push_of_some _ e
  have lt3 : ∀ b ∈ fp, b < s3.heap.objs.size := fun b hb => by
    obtain ⟨o, e, _⟩ := T.obj _ _ t0 b hb
    exact Heap.lt_size (k23 b o e)
  generalize hDD : s2.heap.objs.size = D at *
  generalize hH3 : upd H2 D (.lst []) = H3 at *
  generalize hm3 : m1 ++ [D] = m3 at *
  have R3 : RelEnv X.K m3 H3 (capR cs ρ) (capS cs σ) := (cap_rel cs R).mono e3
  generalize hrr : capR cs ρ = ρc at *
  generalize hss : capS cs σ = σc at *
  refine wpAny_newFunctionEnv S.cell (fun _ z => nomatch z) (fun h4 ns4 sb4 => ?_) S.kind
  have Ic := fun E => comp_inv (E := E) (tk := s3.toks + ([] : List (Str × Value)).length) S I3 f3 lt3 ns4 sb4
  have k34 : ∀ b o, s3.heap.get? b = some o → h4.get? b = some o := fun b o e => (sb4.2 b (Nat.ne_of_lt (Heap.lt_size e))).trans (Heap.get?_push_of_some _ e)
  have t4 : tn 0 h4 := T.keep _ _ _ t0 fun b _ o e => k34 b o (k23 b o e)
  let EX : Value → Shared → Prop := notedBy (model X.prog X.w) X.A (compEnvC scope (clF X.env scope.names []) s3.heap.objs.size X.env) fun e s' => compPost (model X.prog X.w) X.A X.xe use Q (.ref D) s3.heap.objs.size (.error e) s'
  let Xc := compX X scope x cs s3.heap.objs.size s3 H3 fp (X.pn ++ pins) EX
  have noted : ∀ {σ' : St} {m : Mp} {H : Hp} {c : Str} {st : Hs}, Ext X.K m1 H2 m H → res = .err c st → XOk Xc σ' m H c st := fun {σ' m H c st} e0 er m' H' e s' ex S' rz => comp_raise fr I3 f3 rz fun s5 r5 => hx c st er m' H' e s5 (e0.trans ex) S' r5
  have vis : Xc.env.scope.names.lookup x = some .local := lookup_relabel_local S.var
  have fpc : ∀ (H' : Hp), (∀ b ∈ fp, H' b = none) → ∀ b ∈ fp, FpOk Xc [] H' b := fun H' hn b hb => ⟨hn b hb, Nat.ne_of_lt (lt3 b hb), fp_stack I3 (f3 b hb), .inl hb, fun y c e => (f3 b hb).2.2.2.2.1 y c (S.sub I3.ok e), fun p hp => (f2 b hb).2.2.2.2.2 p (by have hp' : p ∈ (X.pn ++ pins) ++ [] := hp; rw [List.append_nil] at hp'; exact hp')⟩
  let Pv : Nat → Shared → Prop := fun k s' => ∃ z H' st m', Inv Xc [] (z :: σc) H' s' ∧ tn k s'.heap ∧ (∀ b ∈ fp, H' b = none) ∧ Ext X.K m3 H3 m' H' ∧ Sim X.K m' st H' ∧ ck st ∧ compZ ck (fun w => gt (some w :: ρc)) (fun w => ge (some w :: ρc)) st1.length (ws.drop k) st = res
  have loop : ∀ s4 : Shared, Pv 0 s4 → codeAny (model X.prog X.w) X.A (.compLoop (.ListComp elt [⟨.Name x px, iter, ifs, 0⟩] scope pos) 0 (.ref it) (.ref D) (compEnvC scope (clF X.env scope.names []) s3.heap.objs.size X.env)) (compPost (model X.prog X.w) X.A X.xe use Q (.ref D) s3.heap.objs.size) s4 := fun s4 p0 => by
    refine codeAny_compLoop_tests (fun n s' => ∃ k, n = ws.length - k ∧ k ≤ ws.length ∧ Pv k s') ?_ ws.length ⟨0, by simp, Nat.zero_le _, p0⟩
    rintro n s5 ⟨k, rfl, hk, z5, H5, st5, m5, I5, tn5, fr5, e5, S5, c5, run5⟩
    have e15 := e3.trans e5
    by_cases hlt : k < ws.length
    · refine thn (T.item Xc rfl rfl rfl (hY _ _ _ _ _ _ _ _ I3) k [] s5 (z5 :: σc) H5 _ I5 (fpc H5 fr5) tn5 (hgo k H5 m5 st5 e15 S5 c5 hlt)) fun r s6 h6 => ?_
      obtain ⟨u, rfl, h6⟩ := h6
      show wpAny (model X.prog X.w) X.A (pure () >>= fun _ => assign (.Name x px) Xc.env u) _ _ s6
      refine wpAny_bind (thn h6 fun _ s7 h7 => ?_)
      obtain ⟨v, H7, I7, rv, yl, tn7, fr7⟩ := h7
      obtain ⟨rfl, rw7⟩ := hy k hlt H5 v H7 m5 st5 e15 S5 c5 yl
      have I7' := I7.pinned (fpc H7 fr7) (T.obj _ _ tn7)
      refine wpAny_assign_Name (store_ok (i := 0) I7' S.nd rfl (.inl vis) rv (fun s8 I8 => ?_) (.inr vis))
      have I8' : Inv Xc ([] ++ pinsAt fp s7.heap) (some v :: σc) H7 s8 := I8
      have R8 : RelEnv X.K m5 H7 (some ws[k] :: ρc) (some v :: σc) := by
        have R5 := R3.mono e5
        refine ⟨by simp [R5.len], fun i w e => ?_⟩
        cases i with
        | zero =>
          cases e
          exact ⟨v, rfl, rw7⟩
        | succ i => exact R5.get i w e
      have ed : ws.drop k = ws[k] :: ws.drop (k + 1) := List.drop_eq_getElem_cons hlt
      rw [ed] at run5
      unfold compZ at run5
      have back : ∀ {H' : Hp} {s' : Shared} {m' : Mp} {st : Hs}, Inv Xc ([] ++ pinsAt fp s7.heap) (some v :: σc) H' s' → Ext X.K m3 H3 m' H' → Sim X.K m' st H' → ck st → compZ ck (fun w => gt (some w :: ρc)) (fun w => ge (some w :: ρc)) st1.length (ws.drop (k + 1)) st = res → ∃ n', n' < ws.length - k ∧ ∃ k', n' = ws.length - k' ∧ k' ≤ ws.length ∧ Pv k' s' :=
        fun {H' s' m' st} I' e' S' c' r' => ⟨ws.length - (k + 1), by omega, k + 1, rfl, hlt, some v, H', st, m', I'.unpinned, T.keep _ _ _ tn7 fun b hb o e => (I'.pin (b, o) (List.mem_append_right _ (List.mem_append_right _ (mem_pinsAt hb e)))).1, fun b hb => by
          obtain ⟨o, e, _⟩ := T.obj _ _ tn7 b hb
          exact (I'.pin (b, o) (List.mem_append_right _ (List.mem_append_right _ (mem_pinsAt hb e)))).2.1, e', S', c', r'⟩
      cases eg : gt (some ws[k] :: ρc) st5 with
      | err c st6 =>
        rw [eg] at run5
        refine wpAny_mono (hT s3.heap.objs.size s3 H3 (X.pn ++ pins) EX (hH.at I3) (some ws[k] :: ρc) st5 (some v :: σc) H7 m5 (fun _ _ => False) S5 R8 (by rw [eg]; exact noted e15 run5.symm) ([] ++ pinsAt fp s7.heap) s8 I8') (fun _ _ h9 => ?_) fun _ _ z => z
        obtain ⟨_, _, z⟩ := h9
        exact z.elim
      | bad => rw [eg] at run5; exact absurd run5.symm nb
      | ok b st6 =>
        rw [eg] at run5
        have tst := hT s3.heap.objs.size s3 H3 (X.pn ++ pins) EX (hH.at I3) (some ws[k] :: ρc) st5 (some v :: σc) H7 m5 (fun b' H' => b' = b ∧ ∃ m', Ext X.K m5 H7 m' H' ∧ Sim X.K m' st6 H') S5 R8 (by rw [eg]; exact fun m' H' e' S' => ⟨rfl, m', e', S'⟩) ([] ++ pinsAt fp s7.heap) s8 I8'
        refine wpAny_mono tst (fun ok s9 h9 => ?_) fun _ _ z => z
        obtain ⟨H9, I9, rfl, m9, e9, S9⟩ := h9
        cases ok with
        | false =>
          dsimp only at run5
          by_cases c6 : ck st6
          · rw [if_pos c6] at run5
            rw [if_neg Bool.false_ne_true]
            exact back I9 (e5.trans e9) S9 c6 run5
          · rw [if_neg c6] at run5; exact absurd run5.symm nb
        | true =>
          dsimp only at run5
          rw [if_pos rfl]
          cases ee : ge (some ws[k] :: ρc) st6 with
          | err c st7 =>
            rw [ee] at run5
            refine wpAny_mono (hE s3.heap.objs.size s3 H3 (X.pn ++ pins) EX (hH.at I3) (some ws[k] :: ρc) st6 (some v :: σc) H9 m9 (fun _ _ => False) S9 (R8.mono e9) (by rw [ee]; exact noted (e15.trans e9) run5.symm) ([] ++ pinsAt fp s7.heap) s9 I9) (fun _ _ h10 => ?_) fun _ _ z => z
            obtain ⟨_, _, _, _, z⟩ := h10
            exact z.elim
          | bad => rw [ee] at run5; exact absurd run5.symm nb
          | ok w st7 =>
            rw [ee] at run5
            dsimp only at run5
            cases ea : mApp (.ref st1.length) w st7 with
            | err c st8 => rw [ea] at run5; exact absurd run5.symm nb
            | bad => rw [ea] at run5; exact absurd run5.symm nb
            | ok w2 st8 =>
              rw [ea] at run5
              dsimp only at run5
              by_cases c8 : ck st8
              · rw [if_pos c8] at run5
                have el := hE s3.heap.objs.size s3 H3 (X.pn ++ pins) EX (hH.at I3) (some ws[k] :: ρc) st6 (some v :: σc) H9 m9 (fun v' H' => ∃ m', Ext X.K m9 H9 m' H' ∧ Sim X.K m' st7 H' ∧ RelW X.K m' H' w v') S9 (R8.mono e9) (by rw [ee]; exact fun v' m' H' e' S' r' => ⟨m', e', S', r'⟩) ([] ++ pinsAt fp s7.heap) s9 I9
                refine wpAny_mono el (fun u2 s10 h10 => ?_) fun _ _ z => z
                obtain ⟨v2, H10, I10, r2, m10, e10, S10, rw10⟩ := h10
                obtain ⟨r, h1, h2⟩ := mw_app (X := Xc)
                have eA := (e5.trans e9).trans e10
                have ro : RelW X.K m10 H10 (.ref st1.length) (.ref D) := by unfold RelW; exact ⟨D, rfl, eA.pre _ _ lab⟩
                have rd := h2 (.ref st1.length) w (.ref D) v2 st7 H10 m10 (fun _ H' => ∃ m', Ext X.K m10 H10 m' H' ∧ Sim X.K m' st8 H') S10 ro rw10 (by rw [ea]; exact fun v' m' H' e' S' r' => ⟨m', e', S'⟩)
                refine wpAny_mono (h1 ([] ++ pinsAt fp s7.heap) s10 (some v :: σc) H10 (.ref D) [v2] (.ref D) [u2] _ I10 rfl (.cons r2 .nil) rd) (fun _ s11 h11 => ?_) fun _ _ z => z
                obtain ⟨_, H11, I11, _, m11, e11, S11⟩ := h11
                exact back I11 (eA.trans e11) S11 c8 run5
              · rw [if_neg c8] at run5; exact absurd run5.symm nb
    · have ek : k = ws.length := by omega
      subst ek
      refine thn (T.done Xc rfl rfl rfl (hY _ _ _ _ _ _ _ _ I3) _ [] s5 (z5 :: σc) H5 _ I5 (fpc H5 fr5) tn5 (hstop _ H5 m5 st5 e15 S5 c5 rfl)) fun r s6 h6 => ?_
      obtain ⟨rfl, I6⟩ := h6
      rw [List.drop_length] at run5
      obtain ⟨mm, ns6, _⟩ := id I6.loc
      have fC := I3.fpOk (H' := H5) (Nat.le_refl _) I6.free
      exact fin st5 run5.symm D _ mm m5 H5 _ e15 S5 (e5.pre _ _ lab) (comp_end I3 f3 I6) fC ns6 fC.2.2.2.2.1
  have p0 : Pv 0 { s3 with heap := h4, toks := s3.toks + ([] : List (Str × Value)).length } := ⟨none, H3, st1 ++ [Ob.lst []], m3, hss ▸ Ic EX, t4, fun b hb => (f3 b hb).1, Ext.refl, S3, hck, by rw [List.drop_zero]; exact run⟩
  exact codeAny_compStart_list (loop _ p0) (T.self X.A 0 _ _ _ t4 (loop _ p0))
end
end J
namespace J
open PySem PySem.Spec PyProof.Rows L2
abbrev Wk := Option Nat × List Wv
def ckOf (w : Wk) (st : Hs) : Prop := match w.1 with
  | some l => lstOf st l = some w.2
  | none => True
structure ItFor (X : Cx) (w : Wk) (m1 : Mp) (H1 : Hp) (J' : It) : Prop where
  go : ∀ (k : Nat) (H : Hp) (m' : Mp) (st : Hs), Ext X.K m1 H1 m' H → Sim X.K m' st H → ckOf w st → k < w.2.length → J'.go k H
  stop : ∀ (k : Nat) (H : Hp) (m' : Mp) (st : Hs), Ext X.K m1 H1 m' H → Sim X.K m' st H → ckOf w st → k = w.2.length → J'.stop k H
  yld : ∀ (k : Nat) (hk : k < w.2.length) (H : Hp) (v : V) (H' : Hp) (m' : Mp) (st : Hs), Ext X.K m1 H1 m' H → Sim X.K m' st H → ckOf w st → J'.yld k H v H' → H' = H ∧ RelW X.K m' H w.2[k] v
abbrev GI := Rho → Hs → Re Wk
def PIEY (Y : Cx → Prop) (X : Cx) (pins : List (Addr × Obj)) (σ : St) (tg : Expr) (R : It → Hp → Prop) (itv : Value) (s2 : Shared) : Prop :=
  ∃ (it : Addr) (fp : List Addr) (tn : Nat → Heap → Prop) (J : It) (H' : Hp), itv = .ref it ∧ Inv X pins σ H' s2 ∧ TurnY Y X.prog X.w X.K tg J fp it tn ∧ tn 0 s2.heap ∧ (∀ b ∈ fp, FpOk X pins H' b) ∧ R J H'
def PIY (Y : Cx → Prop) (X : Cx) (tg iter : Expr) (wi : TI) : Prop := ∀ (pins : List (Addr × Obj)) (s : Shared) (σ : St) (H : Hp) (R : It → Hp → Prop), Inv X pins σ H s → wi σ H R →
  wpAny (model X.prog X.w) X.A (eval iter X.env) (fun v s1 => wpAny (model X.prog X.w) X.A (pyIter v) (PIEY Y X pins σ tg R) X.xe s1) X.xe s
theorem _root_.L2.PI.y {X : Cx} {tg iter : Expr} {wi : TI} (h : PI X tg iter wi) : PIY Calm X tg iter wi := fun pins s σ H R I q => thn (h pins s σ H R I q) fun _ _ h1 => thn h1 fun _ _ h2 =>
  let ⟨it, fp, tn, J, H', e, I', T, r⟩ := h2; ⟨it, fp, tn, J, H', e, I', T.y, r⟩
def JIY (Y : Cx → Prop) (X : Cx) (tg iter : Expr) (gi : GI) : Prop := ∃ wi, PIY Y X tg iter wi ∧ ∀ (ρ : Rho) (st : Hs) (σ : St) (H : Hp) (m : Mp) (R : It → Hp → Prop), Sim X.K m st H → RelEnv X.K m H ρ σ →
  PostG X σ m H (gi ρ st) (fun w st1 => ∀ (m1 : Mp) (H1 : Hp) (J' : It), Ext X.K m H m1 H1 → Sim X.K m1 st1 H1 → ckOf w st1 → ItFor X w m1 H1 J' → R J' H1) → wi σ H R
def JI (X : Cx) (tg iter : Expr) (gi : GI) : Prop := ∃ wi, PI X tg iter wi ∧ ∀ (ρ : Rho) (st : Hs) (σ : St) (H : Hp) (m : Mp) (R : It → Hp → Prop), Sim X.K m st H → RelEnv X.K m H ρ σ →
  PostG X σ m H (gi ρ st) (fun w st1 => ∀ (m1 : Mp) (H1 : Hp) (J' : It), Ext X.K m H m1 H1 → Sim X.K m1 st1 H1 → ckOf w st1 → ItFor X w m1 H1 J' → R J' H1) → wi σ H R
theorem JI.y {X : Cx} {tg iter : Expr} {gi : GI} (h : JI X tg iter gi) : JIY Calm X tg iter gi := let ⟨wi, h1, h2⟩ := h; ⟨wi, h1.y, h2⟩
def seqW (w : Wv) (st : Hs) : Re Wk := match w with
  | .ref l => (match lstOf st l with | some ws => .ok (some l, ws) st | none => .bad)
  | .tup ws => .ok (none, ws) st
  | .ktp ws => .ok (none, ws) st
  | _ => .bad
def giSeq (g : GE) : GI := fun ρ st => (g ρ st).bind seqW
section
variable {X : Cx}
theorem ji_seq {tg iter : Expr} {g : GE} (h : JE X iter g) : JI X tg iter (giSeq g) := by
  refine ⟨_, pi_seq pe_SE, fun ρ st σ H m Q S R p => ?_⟩
  refine h.go S R (PostG.bind p) fun w st1 v m1 H1 p1 e1 S1 rw' => ?_
  cases w with
  | ref l =>
    unfold RelW at rw'
    obtain ⟨a, rfl, hla⟩ := rw'
    unfold seqW at p1
    cases el : lstOf st1 l with
    | none => simp only [el] at p1; exact False.elim p1
    | some ws =>
      simp only [el] at p1
      obtain ⟨xs0, q0, _⟩ := S1.read hla el
      refine ⟨a, rfl, .inl ⟨⟨xs0, q0⟩, p1 m1 H1 _ e1 S1 el ⟨fun k H' m' st' e S' c hk => ?_, fun k H' m' st' e S' c hk => ?_, fun k hk H' v H'' m' st' e S' c y => ?_⟩⟩⟩
      · obtain ⟨xs, hq, rws⟩ := S'.read (e.pre _ _ hla) c
        have hx' : k < xs.length := by rw [← rws.length]; exact hk
        exact ⟨xs, xs[k], hq, by simp [hx']⟩
      · obtain ⟨xs, hq, rws⟩ := S'.read (e.pre _ _ hla) c
        exact ⟨xs, hq, by rw [← rws.length, hk]; exact Nat.le_refl _⟩
      · obtain ⟨xs, hq, rws⟩ := S'.read (e.pre _ _ hla) c
        obtain ⟨ee, y⟩ := y
        refine ⟨ee, ?_⟩
        obtain ⟨x', ex', rx'⟩ := rws.get (i := k) (w := ws[k]) (List.getElem?_eq_getElem hk)
        rw [y xs hq] at ex'
        cases ex'
        exact rx'
  | tup ws =>
    unfold RelW at rw'
    obtain ⟨a, xs, rfl, hq, rws⟩ := rw'
    refine ⟨a, rfl, .inr ⟨⟨xs, SqT.of hq⟩, p1 m1 H1 _ e1 S1 trivial ⟨fun k H' m' st' e S' c hk => ?_, fun k H' m' st' e S' c hk => ?_, fun k hk H' v H'' m' st' e S' c y => ?_⟩⟩⟩
    · have hx' : k < xs.length := by rw [← rws.length]; exact hk
      exact ⟨xs, xs[k], SqT.of (e.tup _ _ hq), by simp [hx']⟩
    · exact ⟨xs, SqT.of (e.tup _ _ hq), by rw [← rws.length, hk]; exact Nat.le_refl _⟩
    · obtain ⟨ee, y⟩ := y
      refine ⟨ee, ?_⟩
      obtain ⟨x', ex', rx'⟩ := (RelWs.mono e _ _ rws).get (i := k) (w := ws[k]) (List.getElem?_eq_getElem hk)
      rw [y xs (SqT.of (e.tup _ _ hq))] at ex'
      cases ex'
      exact rx'
  | ktp ws =>
    unfold RelW at rw'
    obtain ⟨a, xs, rfl, hq, rws⟩ := rw'
    refine ⟨a, rfl, .inr ⟨⟨xs, .inr hq⟩, p1 m1 H1 _ e1 S1 trivial ⟨fun k H' m' st' e S' c hk => ?_, fun k H' m' st' e S' c hk => ?_, fun k hk H' v H'' m' st' e S' c y => ?_⟩⟩⟩
    · have hx' : k < xs.length := by rw [← rws.length]; exact hk
      exact ⟨xs, xs[k], .inr hq, by simp [hx']⟩
    · exact ⟨xs, .inr hq, by rw [← rws.length, hk]; exact Nat.le_refl _⟩
    · obtain ⟨ee, y⟩ := y
      refine ⟨ee, ?_⟩
      obtain ⟨x', ex', rx'⟩ := (RelWs.mono e _ _ rws).get (i := k) (w := ws[k]) (List.getElem?_eq_getElem hk)
      rw [y xs (.inr hq)] at ex'
      cases ex'
      exact rx'
  | _ => exact False.elim p1
theorem it_rng {lo : Int} {n : Nat} {m1 : Mp} {H1 : Hp} : ItFor X (none, rngW lo n) m1 H1 (Itr lo n) where
  go := fun k H m' st e S c hk => by
    have : (rngW lo n).length = n := rngW_len
    have hk' : k < (rngW lo n).length := hk
    rw [this] at hk'; exact hk'
  stop := fun k H m' st e S c hk => by
    have : (rngW lo n).length = n := rngW_len
    have hk' : k = (rngW lo n).length := hk
    rw [this] at hk'; exact Nat.le_of_eq hk'.symm
  yld := fun k hk H v H' m' st e S c y => by
    obtain ⟨y1, y2⟩ := y
    refine ⟨y1, ?_⟩
    have q : (rngW lo n)[k]'hk = .int (lo + k) := rngW_get hk
    show RelW X.K m' H ((rngW lo n)[k]'hk) v
    rw [q, y2]
    exact mkInt
noncomputable def rng1W (ws : List Wv) (st : Hs) : Re Wk := match ws with
  | [.int j] => if CRng j then .ok (none, rngW 0 j.toNat) st else .bad
  | _ => .bad
noncomputable def rng2W (ws : List Wv) (st : Hs) : Re Wk := match ws with
  | [.int a, .int j] => if CRng a ∧ CRng j then .ok (none, rngW a (j - a).toNat) st else .bad
  | _ => .bad
noncomputable def giR1 (g : GA) : GI := fun ρ st => (g ρ st).bind rng1W
noncomputable def giR2 (g : GA) : GI := fun ρ st => (g ρ st).bind rng2W
theorem ji_r1 {tg a : Expr} {ga : GA} {p q : Pos} (hg : Gl X "range") (hm : X.mg "range" = none) (ha : JA X [a] ga) (hst : starEach [a] X.env = [(false, eval a X.env)]) : JI X tg (.Call (.Name "range" p) [a] [] q) (giR1 ga) := by
  refine ⟨_, pi_range1 hg hm pa_SA hst, fun ρ st σ H m Q S R p => ?_⟩
  refine ha.go S R (PostG.bind p) fun ws st1 vs m1 H1 p1 e1 S1 rs => ?_
  match ws, rs, p1 with
  | [], rs, p1 => exact False.elim p1
  | x :: y :: t, rs, p1 => cases x <;> exact False.elim p1
  | [x], rs, p1 =>
    obtain ⟨v, rfl, r1⟩ := rel1 rs
    cases x with
    | int j =>
      cases relInt r1
      unfold rng1W at p1
      by_cases c : CRng j
      · simp only [if_pos c] at p1
        exact ⟨j, rfl, c.1, c.2, p1 m1 H1 _ e1 S1 trivial it_rng⟩
      · simp only [if_neg c] at p1; exact False.elim p1
    | _ => exact False.elim p1
def gBadI : GI := fun _ _ => .bad
theorem pi_never {tg iter : Expr} : PI X tg iter (fun _ _ _ => False) := fun _ _ _ _ _ _ h => h.elim
theorem ji_bad {tg iter : Expr} : JI X tg iter gBadI := ⟨_, pi_never, fun ρ st σ H m Q S R p => p⟩
noncomputable def compRun (cs : Caps) (gt : GT) (ge : GE) (ρ : Rho) (w : Wk) (st : Hs) : Re Wv := match compG (ckOf w) (fun v => gt (some v :: capR cs ρ)) (fun v => ge (some v :: capR cs ρ)) st.length w.2 (st ++ [.lst []]) with
  | some stF => .ok (.ref st.length) stF
  | none => (match compZ (ckOf w) (fun v => gt (some v :: capR cs ρ)) (fun v => ge (some v :: capR cs ρ)) st.length w.2 (st ++ [.lst []]) with
    | .err c stE => .err c stE
    | _ => .bad)
noncomputable def gComp (cs : Caps) (gi : GI) (gt : GT) (ge : GE) : GE := fun ρ st => (gi ρ st).bind fun w st1 => compRun cs gt ge ρ w st1
theorem lstOf_app {st : Hs} {l : Nat} {ws : List Wv} {more : Hs} (h : lstOf st l = some ws) : lstOf (st ++ more) l = some ws := by
  unfold lstOf at h ⊢
  cases e : st[l]? with
  | none => rw [e] at h; cases h
  | some o =>
    have hl := (List.getElem?_eq_some_iff.mp e).1
    rw [List.getElem?_append_left hl, e]
    rw [e] at h
    exact h
theorem ckOf_app {w : Wk} {st more : Hs} (h : ckOf w st) : ckOf w (st ++ more) := by
  obtain ⟨o, ws⟩ := w
  cases o with
  | none => trivial
  | some l => exact lstOf_app h
theorem comp_go {scope : Scope} {x : Str} {cs : Caps} {px pos : Pos} {elt iter : Expr} {ifs : List Expr} {gi : GI} {gt : GT} {ge : GE} {use : Option (Value → Sem Unit)} {Q : Value → Shared → Prop} {P : Wv → Hs → Prop}
    {ρ : Rho} {st : Hs} {σ : St} {H : Hp} {m : Mp} {pins : List (Addr × Obj)} {s : Shared} {ps : Pos}
    {Y : Cx → Prop} (fr : FrOk X) (CS : CScope X scope x cs) (hc : YIn Y X) (hH : HdC X) (hi : JIY Y X (.Name x px) iter gi) (hE : ∀ C s0 H0 fp pn E, HdA X.A H0 → JE (compX X scope x cs C s0 H0 fp pn E) elt ge) (hT : ∀ C s0 H0 fp pn E, HdA X.A H0 → JTs (compX X scope x cs C s0 H0 fp pn E) ifs gt) (hs : ∀ x, foldedSetIterable iter X.env x = pure x)
    (S : Sim X.K m st H) (R : RelEnv X.K m H ρ σ) (I : Inv X pins σ H s) (p : PostG X σ m H (gComp cs gi gt ge ρ st) P)
    (fin : ∀ (w : Wv) (stF : Hs) (v : V) (D C : Addr) (mm : Str → Option Value) (m' : Mp) (H' : Hp) (s' : Shared), P w stF → Ext X.K m H m' H' → Sim X.K m' stF H' → RelW X.K m' H' w v → v = .ref D → Inv X pins σ H' s' → FpOk X pins H' C → s'.heap.Ns C mm → compPost (model X.prog X.w) X.A X.xe use Q (.ref D) C (.ok .next) s') :
    wpAny (model X.prog X.w) X.A (comprehension (.ListComp elt [⟨.Name x px, iter, ifs, 0⟩] scope pos) scope X.env ps (newList []) false (eval iter X.env) use) Q X.xe s := by
  obtain ⟨wi, hpi, hw⟩ := hi
  let R' : It → Hp → Prop := fun J' H1 => ∃ (w : Wk) (st1 : Hs) (m1 : Mp), PostG X σ m H (compRun cs gt ge ρ w st1) P ∧ Ext X.K m H m1 H1 ∧ Sim X.K m1 st1 H1 ∧ ckOf w st1 ∧ ItFor X w m1 H1 J'
  have hr := hw ρ st σ H m R' S R ((PostG.bind p).imp Ext.refl fun w st1 q m1 H1 J' e1 S1 c1 it1 => ⟨w, st1, m1, q, e1, S1, c1, it1⟩)
  refine wpAny_comprehension_free (g := ⟨.Name x px, iter, ifs, 0⟩) (gs := []) (cl := clF X.env scope.names []) rfl hs (clos_is (CS.has I.ok)) CS.kind (fun y hy e => by rw [CS.look y hy, e]) (thn (hpi pins s σ H R' I hr) fun v s1 h1 => thn h1 fun itv s2 h2 => ?_)
  obtain ⟨it, fp, tn, J', H1, rfl, I2, T, t0, f2, w, st1, m1, q, e1, S1, c1, it1⟩ := h2
  unfold compRun at q
  cases run : compG (ckOf w) (fun v => gt (some v :: capR cs ρ)) (fun v => ge (some v :: capR cs ρ)) st1.length w.2 (st1 ++ [.lst []]) with
  | none =>
    rw [run] at q
    dsimp only at q
    cases rz : compZ (ckOf w) (fun v => gt (some v :: capR cs ρ)) (fun v => ge (some v :: capR cs ρ)) st1.length w.2 (st1 ++ [.lst []]) with
    | ok _ _ => rw [rz] at q; exact False.elim q
    | bad => rw [rz] at q; exact False.elim q
    | err c stE =>
      rw [rz] at q
      refine comp_block (use := use) (Q := Q) fr CS hc hH I2 T t0 f2 S1 (R.mono e1) (ckOf_app c1) rz (by intro z; cases z) (fun c' stE' z => ?_) (fun C s0 H0 pn E => hE C s0 H0 fp pn E) (fun C s0 H0 pn E => hT C s0 H0 fp pn E) it1.go it1.stop it1.yld (fun stF z => by cases z)
      cases z
      exact XOk.mono q e1
  | some stF =>
    rw [run] at q
    refine comp_block (use := use) (Q := Q) fr CS hc hH I2 T t0 f2 S1 (R.mono e1) (ckOf_app c1) (compZ_of _ _ run) (by intro z; cases z) (fun c' stE' z => by cases z) (fun C s0 H0 pn E => hE C s0 H0 fp pn E) (fun C s0 H0 pn E => hT C s0 H0 fp pn E) it1.go it1.stop it1.yld ?_
    intro stF' z D C mm m' H' s' e' S' lab I' fC ns _
    cases z
    exact fin _ stF (.ref D) D C mm m' H' s' q (e1.trans e') S' (by unfold RelW; exact ⟨D, rfl, lab⟩) rfl I' fC ns
theorem je_comp {scope : Scope} {x : Str} {cs : Caps} {px pos : Pos} {elt iter : Expr} {ifs : List Expr} {gi : GI} {gt : GT} {ge : GE}
    {Y : Cx → Prop} (fr : FrOk X) (CS : CScope X scope x cs) (hc : YIn Y X) (hH : HdC X) (hi : JIY Y X (.Name x px) iter gi) (hE : ∀ C s0 H0 fp pn E, HdA X.A H0 → JE (compX X scope x cs C s0 H0 fp pn E) elt ge) (hT : ∀ C s0 H0 fp pn E, HdA X.A H0 → JTs (compX X scope x cs C s0 H0 fp pn E) ifs gt) (hs : ∀ x, foldedSetIterable iter X.env x = pure x) :
    JE X (.ListComp elt [⟨.Name x px, iter, ifs, 0⟩] scope pos) (gComp cs gi gt ge) := fun ρ st σ H m Q S R p pins s I => by
  rw [eval_ListComp]
  refine comp_go (use := none) fr CS hc hH hi hE hT hs S R I p ?_
  intro w stF v D C mm m' H' s' q e' S' rw' ev I' fC ns
  exact ⟨mm, ns, fun h' same => ⟨.ref D, H', comp_gone I' fC same, rfl, ev ▸ q v m' H' e' S' rw'⟩⟩
theorem js_setC (i : Nat) {scope : Scope} {x y : Str} {cs : Caps} {px pos spos py : Pos} {elt iter : Expr} {ifs : List Expr} {gi : GI} {gt : GT} {ge : GE} (hN : X.N.Nodup)
    {Y : Cx → Prop} (fr : FrOk X) (CS : CScope X scope x cs) (hc : YIn Y X) (hH : HdC X) (hi : JIY Y X (.Name x px) iter gi) (hE : ∀ C s0 H0 fp pn E, HdA X.A H0 → JE (compX X scope x cs C s0 H0 fp pn E) elt ge) (hT : ∀ C s0 H0 fp pn E, HdA X.A H0 → JTs (compX X scope x cs C s0 H0 fp pn E) ifs gt) (hs : ∀ x, foldedSetIterable iter X.env x = pure x)
    (hx : X.N[i]? = some y) (hl : Loc X.env.scope y) (hf : X.fn y = true ∨ X.env.scope.names.lookup y = some .local) :
    JS X (.Assign [.Name y py] (.ListComp elt [⟨.Name x px, iter, ifs, 0⟩] scope pos) spos) (gSet i (gComp cs gi gt ge)) := by
  have sw : ∃ b, swapsWith (.ListComp elt [⟨.Name x px, iter, ifs, 0⟩] scope pos) (some (.Name y py)) spos.line X.env = pure b := ⟨_, rfl⟩
  obtain ⟨b, sw⟩ := sw
  cases b with
  | false => exact js_set i hN (je_comp fr CS hc hH hi hE hT hs) hx hl sw hf
  | true =>
    intro ρ st σ H m D S R p pins s I
    rw [exec_Assign_Name_used _ _ _ _ sw]
    refine wpAny_bind (wpAny_standAt (wpAny_bind ?_))
    show wpAny _ X.A (do let _ ← comprehension (.ListComp elt [⟨.Name x px, iter, ifs, 0⟩] scope pos) scope X.env _ (newList []) false (eval iter X.env) (some (assign (.Name y py) X.env))) _ _ s
    refine wpAny_bind (wpAny_mono (comp_go (use := some (assign (.Name y py) X.env)) (Q := fun _ s' => SP X pins D .next s') fr CS hc hH hi hE hT hs S R I (PostS.of_thn R p) ?_) (fun _ s' hq => wpAny_pure (wpAny_pure hq)) fun _ _ e => e)
    intro w stF v D' C mm m' H' s' q e' S' rw' ev I' fC ns
    refine wpAny_assign_Name (store_ok2 (i := i) I' hN hx hl (show RelV v (.ref D') by rw [ev]; rfl) (fun s2 I2 h2 => ?_) hf)
    obtain ⟨a, sb, ha⟩ := h2
    have hca : C ≠ a := by
      rcases ha with z | z
      · rw [z]; exact fC.2.1
      · exact Ne.symm (fC.2.2.2.2.1 y a z)
    exact ⟨mm, ns.sameBut sb hca, fun h' same => ⟨_, _, comp_gone I2 fC same, q _ m' H' e' S' ((R.mono e').set i rw')⟩⟩
end
end J
namespace J
open PySem PySem.Spec PyProof.Rows L2
section
variable {X : Cx}
def CRep (n : Nat) (k : Int) : Prop := -(2 ^ 62) ≤ k ∧ k < 2 ^ 62 ∧ n * k.toNat ≤ lim
noncomputable instance {n k} : Decidable (CRep n k) := Classical.propDecidable _
noncomputable def oMulL0 : Op2
  | .ref l, .int n, st => match st[l]? with
    | some (.lst ws) => if CRep ws.length n then .ok (.ref st.length) (st ++ [.lst (List.replicate n.toNat ws).flatten]) else .bad
    | _ => .bad
  | x, y, st => oMulS x y st
theorem relWs_rep {K : PySem.W.Frag} {m : Mp} {H : Hp} {ws : List Wv} {xs : List V} (r : RelWs K m H ws xs) : ∀ n : Nat, RelWs K m H (List.replicate n ws).flatten (List.replicate n xs).flatten
  | 0 => RelWs.nil
  | n + 1 => by
    rw [List.replicate_succ, List.flatten_cons, List.replicate_succ, List.flatten_cons]
    exact r.append (relWs_rep r n)
theorem ow_mulL : OpW X (binaryOp .Mult) oMulL0 := by
  obtain ⟨r, h1, h2⟩ := ow_mulS (X := X)
  refine ⟨_, OpR.or op_rep h1, fun x y a b st H m Q S rx ry p => ?_⟩
  unfold oMulL0 at p
  split at p
  · rename_i l n
    unfold RelW at rx
    obtain ⟨a1, rfl, hl⟩ := rx
    cases relInt ry
    cases e : st[l]? with
    | none => rw [e] at p; exact False.elim p
    | some o =>
      cases o with
      | dct kvs => rw [e] at p; exact False.elim p
      | dcT kvs => rw [e] at p; exact False.elim p
      | dcF kvs => rw [e] at p; exact False.elim p
      | scr ns => rw [e] at p; exact False.elim p
      | lst ws =>
        rw [e] at p
        dsimp only at p
        by_cases c : CRep ws.length n
        · rw [if_pos c] at p
          obtain ⟨xs, q1, q2⟩ := S.lstAt hl e
          refine .inl ⟨a1, n, xs, rfl, rfl, q1, by have := c.1; omega, by have := c.2.1; omega, by rw [← q2.length]; exact lim_le c.2.2, fun q hq => ?_⟩
          exact new_list p Ext.refl S (relWs_rep q2 n.toNat) q hq
        · rw [if_neg c] at p; exact False.elim p
  · exact .inr (h2 x y a b st H m Q S rx ry p)
def oListC : List Wv → Hs → Re Wv
  | [.ref l], st => match lstOf st l with
    | some ws => .ok (.ref st.length) (st ++ [.lst ws])
    | none => .bad
  | [.tup ws], st => .ok (.ref st.length) (st ++ [.lst ws])
  | _, _ => .bad
theorem cw_list : CallW X (.type "list") oListC := ⟨_, call_list_of, fun ws vs st H m Q S rs p => by
  match ws, rs, p with
  | [], rs, p => exact False.elim p
  | x :: y :: t, rs, p => cases x <;> exact False.elim p
  | [x], rs, p =>
    obtain ⟨v, rfl, r1⟩ := rel1 rs
    cases x with
    | ref l =>
      unfold oListC at p
      unfold RelW at r1
      obtain ⟨a, rfl, hl⟩ := r1
      cases e : lstOf st l with
      | none => simp only [e] at p; exact False.elim p
      | some ws =>
        simp only [e] at p
        obtain ⟨xs, q1, q2⟩ := S.read hl e
        exact ⟨a, xs, rfl, .inl q1, fun q hq => new_list p Ext.refl S q2 q hq⟩
    | tup ws =>
      unfold RelW at r1
      obtain ⟨a, xs, rfl, q1, q2⟩ := r1
      exact ⟨a, xs, rfl, .inr (SqT.of q1), fun q hq => new_list p Ext.refl S q2 q hq⟩
    | _ => exact False.elim p⟩
end
end J
namespace JL
open PySem PyProof.Rows
def gallop' : Bool → Keyed → Array Keyed → Nat → Nat → Nat → StateT SortSt Sem (Option Nat) := sortPriv% PySem.Builtin.gallop
def mergeLo' : Array Keyed → Array Keyed → StateT SortSt Sem (Array Keyed) := sortPriv% PySem.Builtin.mergeLo
def mergeHi' : Array Keyed → Array Keyed → StateT SortSt Sem (Array Keyed) := sortPriv% PySem.Builtin.mergeHi
def Ik (p : Keyed) : Prop := ∃ n t, p.1 = Value.int n t
def kn (p : Keyed) : Int := numOf p.1
section
variable {prog : Program} {w : World} {A : Around} {E : Value → Shared → Prop} {s : Shared}
theorem ws_lt {st : SortSt} {x y : Keyed} {Q : Option Bool → SortSt → Prop} (hk : kindOf st = oneType') (hx : Ik x) (hy : Ik y) (h : Q (some (decide (kn x < kn y))) st) : wpS (model prog w) A E s (lt' x y) Q st := by
  obtain ⟨a, t, ea⟩ := hx
  obtain ⟨b, u, eb⟩ := hy
  unfold kn at h
  rw [ea, eb] at h
  rw [lt'_eq]
  refine wpS_bind (wpS_get ?_)
  rw [hk, keyLt'_oneType, ea, eb]
  refine wpS_bind (wpS_lift (wpAny_attempt (oneLt_int ⟨rfl, ?_⟩)))
  exact wpS_pure h
theorem ws_elem {st : SortSt} {a : Array Keyed} {i : Nat} {p : Keyed} {Q : Keyed → SortSt → Prop} (hp : a[i]? = some p) (h : Q p st) : wpS (model prog w) A E s (elem' a i) Q st := by
  rw [elem'_eq, hp]
  exact wpS_pure h
def gp (left : Bool) (key : Keyed) (arr : Array Keyed) (base i : Nat) : Bool := if left then decide (K arr (base + i) < kn key) else !decide (kn key < K arr (base + i))
theorem gp_beyond {st : SortSt} {left : Bool} {key : Keyed} {arr : Array Keyed} {base n i : Nat} {Q : Option Bool → SortSt → Prop} (hk : kindOf st = oneType') (hkey : Ik key)
    (hb : base + n ≤ arr.size) (ha : ∀ p ∈ arr.toList, Ik p) (hi : i < n) (h : Q (some (gp left key arr base i)) st) :
    wpS (model prog w) A E s (do
      let x ← elem' arr (base + i)
      if left = true then lt' x key else do
        let r ← lt' key x
        pure (r.map (!·))) Q st := by
  have lt : base + i < arr.size := by omega
  have e : arr[base + i]? = some arr[base + i] := Array.getElem?_eq_getElem lt
  have ik : Ik arr[base + i] := ha _ (by simp)
  have ek : K arr (base + i) = kn arr[base + i] := by unfold K kn; rw [e]
  unfold gp at h
  rw [ek] at h
  refine wpS_bind (ws_elem e ?_)
  cases left
  · rw [if_neg (by decide)] at h ⊢
    exact wpS_bind (ws_lt hk hkey ik (wpS_pure h))
  · rw [if_pos rfl] at h ⊢
    exact ws_lt hk ik hkey h
def gTail (left : Bool) (key : Keyed) (arr : Array Keyed) (base n : Nat) (l0 h0 : Nat) : StateT SortSt Sem (Option Nat) := do
  let mut lo := l0
  let mut hi := h0
  for _ in [0:n] do
    if lo ≥ hi then break
    let some b ← (do
      let x ← elem' arr (base + (lo + (hi - lo) / 2))
      if left = true then lt' x key else do
        let r ← lt' key x
        pure (r.map (!·)) : StateT SortSt Sem (Option Bool)) | return none
    if b then lo := lo + (hi - lo) / 2 + 1 else hi := lo + (hi - lo) / 2
  return some hi
theorem gTail_ok {st : SortSt} {left : Bool} {key : Keyed} {arr : Array Keyed} {base n l0 h0 : Nat} {Q : Option Nat → SortSt → Prop} (hk : kindOf st = oneType') (hkey : Ik key)
    (hb : base + n ≤ arr.size) (ha : ∀ p ∈ arr.toList, Ik p) (dn : ∀ i j, i ≤ j → j < n → gp left key arr base j = true → gp left key arr base i = true) (l1 : l0 ≤ h0) (h1 : h0 ≤ n)
    (hl : ∀ i, i < l0 → gp left key arr base i = true) (hh : ∀ i, h0 ≤ i → i < n → gp left key arr base i = false)
    (h : ∀ k, k ≤ n → (∀ i, i < k → gp left key arr base i = true) → (∀ i, k ≤ i → i < n → gp left key arr base i = false) → Q (some k) st) : wpS (model prog w) A E s (gTail left key arr base n l0 h0) Q st := by
  unfold gTail
  refine wpS_bind (wpS_mono (wpS_forRange (I := fun x c st' => st' = st ∧ ∃ l r, c = (none, l, r) ∧ l ≤ r ∧ r ≤ n ∧ r - l ≤ n - x ∧ (∀ i, i < l → gp left key arr base i = true) ∧ (∀ i, r ≤ i → i < n → gp left key arr base i = false))
    (Q := fun c st' => st' = st ∧ ∃ r, c = (none, r, r) ∧ r ≤ n ∧ (∀ i, i < r → gp left key arr base i = true) ∧ (∀ i, r ≤ i → i < n → gp left key arr base i = false)) ?a ?b ?c) ?d)
  case c => exact ⟨rfl, l0, h0, rfl, l1, h1, by omega, hl, hh⟩
  case b =>
    rintro c st' ⟨rfl, l, r, rfl, g1, g2, g3, g4, g5⟩
    have : l = r := by omega
    subst this
    exact ⟨rfl, l, rfl, g2, g4, g5⟩
  case d =>
    rintro c st' ⟨rfl, r, rfl, g2, g4, g5⟩
    exact wpS_pure (h r g2 g4 g5)
  case a =>
    rintro x c st' _ hx ⟨rfl, l, r, rfl, g1, g2, g3, g4, g5⟩
    dsimp only
    by_cases c : l ≥ r
    · rw [if_pos c]
      have : l = r := by omega
      subst this
      exact wpS_pure ⟨rfl, l, rfl, g2, g4, g5⟩
    · rw [if_neg c]
      refine wpS_bind (gp_beyond hk hkey hb ha (by omega) ?_)
      cases q : gp left key arr base (l + (r - l) / 2)
      · refine wpS_pure ⟨rfl, l, l + (r - l) / 2, rfl, by omega, by omega, by omega, g4, fun i i1 i2 => ?_⟩
        cases q' : gp left key arr base i
        · rfl
        · rw [dn _ _ i1 i2 q'] at q; cases q
      · exact wpS_pure ⟨rfl, l + (r - l) / 2 + 1, r, rfl, by omega, by omega, by omega, fun i i1 => dn _ _ (by omega) (by omega) q, g5⟩
theorem ws_gallop {st : SortSt} {left : Bool} {key : Keyed} {arr : Array Keyed} {base n hint : Nat} {Q : Option Nat → SortSt → Prop} (hk : kindOf st = oneType') (hkey : Ik key)
    (hb : base + n ≤ arr.size) (ha : ∀ p ∈ arr.toList, Ik p) (hh : hint < n) (mono : ∀ i j, i ≤ j → j < n → K arr (base + i) ≤ K arr (base + j))
    (h : ∀ k, k ≤ n → (∀ i, i < k → gp left key arr base i = true) → (∀ i, k ≤ i → i < n → gp left key arr base i = false) → Q (some k) st) : wpS (model prog w) A E s (gallop' left key arr base n hint) Q st := by
  have dn : ∀ i j, i ≤ j → j < n → gp left key arr base j = true → gp left key arr base i = true := fun i j h1 h2 h3 => by
    have := mono i j h1 h2
    unfold gp at h3 ⊢
    cases left
    · simp at h3 ⊢; omega
    · simp at h3 ⊢; omega
  have up : ∀ i j, i ≤ j → j < n → gp left key arr base i = false → gp left key arr base j = false := fun i j h1 h2 h3 => by
    cases q : gp left key arr base j
    · rfl
    · rw [dn i j h1 h2 q] at h3; cases h3
  refine wpS_bind (gp_beyond hk hkey hb ha hh ?_)
  cases q : gp left key arr base hint
  · refine wpS_bind (wpS_mono (wpS_forRange (I := fun x c st' => st' = st ∧ ∃ l o, c = (none, l, o) ∧ l < o ∧ l ≤ hint ∧ x + 1 ≤ o ∧ gp left key arr base (hint - l) = false)
      (Q := fun c st' => st' = st ∧ ∃ l o, c = (none, l, o) ∧ l < o ∧ l ≤ hint ∧ gp left key arr base (hint - l) = false ∧ (hint + 1 ≤ o ∨ gp left key arr base (hint - o) = true)) ?a ?b ?c) ?d)
    case c => exact ⟨rfl, 0, 1, rfl, by omega, by omega, by omega, q⟩
    case b =>
      rintro c st' ⟨rfl, l, o, rfl, g1, g2, g3, g4⟩
      exact ⟨rfl, l, o, rfl, g1, g2, g4, .inl (by omega)⟩
    case d =>
      rintro c st' ⟨rfl, l, o, rfl, g1, g2, g4, g5⟩
      refine (gTail_ok (base := base) (l0 := hint + 1 - min o (hint + 1)) (h0 := hint - l) hk hkey hb ha dn (by omega) (by omega) (fun i hi => ?_) (fun i i1 i2 => up _ _ i1 i2 g4) h : wpS _ _ _ _ (gTail left key arr base n _ _) Q _)
      rcases g5 with g5 | g5
      · omega
      · exact dn _ _ (by omega) (by omega) g5
    case a =>
      rintro x c st' _ hx ⟨rfl, l, o, rfl, g1, g2, g3, g4⟩
      dsimp only
      by_cases c : o ≥ hint + 1
      · rw [if_pos c]
        exact wpS_pure ⟨rfl, l, o, rfl, g1, g2, g4, .inl c⟩
      · rw [if_neg c]
        refine wpS_bind (gp_beyond hk hkey hb ha (by omega) ?_)
        cases q' : gp left key arr base (hint - o)
        · exact wpS_pure ⟨rfl, o, 2 * o + 1, rfl, by omega, by omega, by omega, q'⟩
        · exact wpS_pure ⟨rfl, l, o, rfl, g1, g2, g4, .inr q'⟩
  · refine wpS_bind (wpS_mono (wpS_forRange (I := fun x c st' => st' = st ∧ ∃ l o, c = (none, l, o) ∧ l < o ∧ hint + l < n ∧ x + 1 ≤ o ∧ gp left key arr base (hint + l) = true)
      (Q := fun c st' => st' = st ∧ ∃ l o, c = (none, l, o) ∧ l < o ∧ hint + l < n ∧ gp left key arr base (hint + l) = true ∧ (n - hint ≤ o ∨ (hint + o < n ∧ gp left key arr base (hint + o) = false))) ?a ?b ?c) ?d)
    case c => exact ⟨rfl, 0, 1, rfl, by omega, by omega, by omega, q⟩
    case b =>
      rintro c st' ⟨rfl, l, o, rfl, g1, g2, g3, g4⟩
      exact ⟨rfl, l, o, rfl, g1, g2, g4, .inl (by omega)⟩
    case d =>
      rintro c st' ⟨rfl, l, o, rfl, g1, g2, g4, g5⟩
      refine (gTail_ok (base := base) (l0 := hint + l + 1) (h0 := hint + min o (n - hint)) hk hkey hb ha dn (by omega) (by omega) (fun i hi => dn _ _ (by omega) g2 g4) (fun i i1 i2 => ?_) h : wpS _ _ _ _ (gTail left key arr base n _ _) Q _)
      rcases g5 with g5 | g5
      · omega
      · exact up _ _ (by omega) i2 g5.2
    case a =>
      rintro x c st' _ hx ⟨rfl, l, o, rfl, g1, g2, g3, g4⟩
      dsimp only
      by_cases c : o ≥ n - hint
      · rw [if_pos c]
        exact wpS_pure ⟨rfl, l, o, rfl, g1, g2, g4, .inl c⟩
      · rw [if_neg c]
        refine wpS_bind (gp_beyond hk hkey hb ha (by omega) ?_)
        cases q' : gp left key arr base (hint + o)
        · exact wpS_pure ⟨rfl, l, o, rfl, g1, g2, g4, .inr ⟨by omega, q'⟩⟩
        · exact wpS_pure ⟨rfl, o, 2 * o + 1, rfl, by omega, by omega, by omega, q'⟩
end
section
variable {α : Type} {f : α → Int} {A B : List α}
structure Mg (f : α → Int) (A B out : List α) (ia ib : Nat) : Prop where
  pm : out.Perm (A.take ia ++ B.take ib)
  so : out.Pairwise (f · ≤ f ·)
  la : ∀ p ∈ out, ∀ q ∈ A.drop ia, f p ≤ f q
  lb : ∀ p ∈ out, ∀ q ∈ B.drop ib, f p ≤ f q
theorem Mg.swap {out : List α} {ia ib : Nat} (h : Mg f A B out ia ib) : Mg f B A out ib ia := ⟨h.pm.trans List.perm_append_comm, h.so, h.lb, h.la⟩
theorem Mg.runA {out : List α} {ia ib : Nat} (h : Mg f A B out ia ib) (sa : A.Pairwise (f · ≤ f ·)) (k : Nat) (hk : ∀ p ∈ (A.drop ia).take k, ∀ q ∈ B.drop ib, f p ≤ f q) : Mg f A B (out ++ (A.drop ia).take k) (ia + k) ib := by
  have sd : ((A.drop ia).take k ++ (A.drop ia).drop k).Pairwise (f · ≤ f ·) := by rw [List.take_append_drop]; exact sa.sublist (List.drop_sublist _ _)
  rw [List.pairwise_append] at sd
  have e : A.take (ia + k) = A.take ia ++ (A.drop ia).take k := List.take_add
  have mT : ∀ p ∈ (A.drop ia).take k, p ∈ A.drop ia := fun p hp => (List.take_sublist _ _).mem hp
  have mD : ∀ p ∈ (A.drop ia).drop k, p ∈ A.drop ia := fun p hp => (List.drop_sublist _ _).mem hp
  refine ⟨?_, ?_, ?_, ?_⟩
  · rw [e]
    refine (h.pm.append_right _).trans ?_
    rw [List.append_assoc, List.append_assoc]
    exact List.perm_append_comm.append_left _
  · rw [List.pairwise_append]
    exact ⟨h.so, sd.1, fun p hp q hq => h.la p hp q (mT q hq)⟩
  · intro p hp q hq
    rw [← List.drop_drop] at hq
    rcases List.mem_append.mp hp with z | z
    · exact h.la p z q (mD q hq)
    · exact sd.2.2 p z q hq
  · intro p hp q hq
    rcases List.mem_append.mp hp with z | z
    · exact h.lb p z q hq
    · exact hk p z q hq
theorem Mg.runB {out : List α} {ia ib : Nat} (h : Mg f A B out ia ib) (sb : B.Pairwise (f · ≤ f ·)) (k : Nat) (hk : ∀ q ∈ (B.drop ib).take k, ∀ p ∈ A.drop ia, f q ≤ f p) : Mg f A B (out ++ (B.drop ib).take k) ia (ib + k) :=
  (h.swap.runA sb k hk).swap
theorem Mg.pushA {out : List α} {ia ib : Nat} {p : α} (h : Mg f A B out ia ib) (sa : A.Pairwise (f · ≤ f ·)) (e : A[ia]? = some p) (hk : ∀ q ∈ B.drop ib, f p ≤ f q) : Mg f A B (out ++ [p]) (ia + 1) ib := by
  have t1 : (A.drop ia).take 1 = [p] := by
    have := (List.getElem?_eq_some_iff.mp e)
    obtain ⟨lt, rfl⟩ := this
    rw [List.drop_eq_getElem_cons lt]
    rfl
  have := h.runA sa 1 (by rw [t1]; intro q hq; rw [List.mem_singleton.mp hq]; exact hk)
  rw [t1] at this
  exact this
theorem Mg.pushB {out : List α} {ia ib : Nat} {p : α} (h : Mg f A B out ia ib) (sb : B.Pairwise (f · ≤ f ·)) (e : B[ib]? = some p) (hk : ∀ q ∈ A.drop ia, f p ≤ f q) : Mg f A B (out ++ [p]) ia (ib + 1) :=
  (h.swap.pushA sb e hk).swap
theorem Mg.fin {out : List α} {ia ib : Nat} (h : Mg f A B out ia ib) (sa : A.Pairwise (f · ≤ f ·)) (sb : B.Pairwise (f · ≤ f ·)) (hk : ∀ p ∈ A.drop ia, ∀ q ∈ B.drop ib, f p ≤ f q) : (out ++ A.drop ia ++ B.drop ib).Perm (A ++ B) ∧ (out ++ A.drop ia ++ B.drop ib).Pairwise (f · ≤ f ·) := by
  have tA : (A.drop ia).take A.length = A.drop ia := List.take_of_length_le (by rw [List.length_drop]; omega)
  have tB : (B.drop ib).take B.length = B.drop ib := List.take_of_length_le (by rw [List.length_drop]; omega)
  have h1 := h.runA sa A.length (by rw [tA]; exact hk)
  have nA : A.drop (ia + A.length) = [] := List.drop_of_length_le (by omega)
  have h2 := h1.runB sb B.length (by rw [nA]; intro _ _ _ z; cases z)
  rw [tA, tB] at h2
  have k1 : A.take (ia + A.length) = A := List.take_of_length_le (by omega)
  have k2 : B.take (ib + B.length) = B := List.take_of_length_le (by omega)
  have pm := h2.pm
  rw [k1, k2] at pm
  exact ⟨pm, h2.so⟩
theorem Mg.finB {out : List α} {ia ib : Nat} (h : Mg f A B out ia ib) (sa : A.Pairwise (f · ≤ f ·)) (sb : B.Pairwise (f · ≤ f ·)) (hk : ∀ q ∈ B.drop ib, ∀ p ∈ A.drop ia, f q ≤ f p) : (out ++ B.drop ib ++ A.drop ia).Perm (A ++ B) ∧ (out ++ B.drop ib ++ A.drop ia).Pairwise (f · ≤ f ·) := by
  obtain ⟨h1, h2⟩ := h.swap.fin sb sa hk
  exact ⟨h1.trans List.perm_append_comm, h2⟩
end
abbrev gal (st : SortSt) (g : Nat) : SortSt := SortSt.mk' (kindOf st) (arrOf st) (pendingOf st) g (failedOf st)
def Up (l : List Keyed) : Prop := l.Pairwise (kn · ≤ kn ·)
def Fin' (a b : List Keyed) (r : Array Keyed) : Prop := r.toList.Perm (a ++ b) ∧ Up r.toList
theorem K_of {a : Array Keyed} {i : Nat} {p : Keyed} (e : a[i]? = some p) : K a i = kn p := by unfold K; rw [e]; rfl
theorem at_of {a : Array Keyed} {i : Nat} (h : i < a.size) : ∃ p, a[i]? = some p ∧ a.toList[i]? = some p ∧ p ∈ a.toList := ⟨a[i], Array.getElem?_eq_getElem h, by simp [h], by simp⟩
theorem mem_drop {a : Array Keyed} {i : Nat} {p : Keyed} (h : p ∈ a.toList.drop i) : ∃ j, i ≤ j ∧ j < a.size ∧ a[j]? = some p := by
  obtain ⟨j, e⟩ := List.getElem?_of_mem h
  rw [List.getElem?_drop] at e
  have lt := (List.getElem?_eq_some_iff.mp e).1
  exact ⟨i + j, by omega, by simpa using lt, by rw [← Array.getElem?_toList]; exact e⟩
theorem mem_run {a : Array Keyed} {i k : Nat} {p : Keyed} (h : p ∈ (a.toList.drop i).take k) : ∃ j, j < k ∧ i + j < a.size ∧ a[i + j]? = some p := by
  obtain ⟨j, e⟩ := List.getElem?_of_mem h
  have lk : j < k := by
    have := (List.getElem?_eq_some_iff.mp e).1
    rw [List.length_take] at this
    omega
  rw [List.getElem?_take_of_lt lk, List.getElem?_drop] at e
  have lt := (List.getElem?_eq_some_iff.mp e).1
  exact ⟨j, lk, by simpa using lt, by rw [← Array.getElem?_toList]; exact e⟩
theorem up_K {a : Array Keyed} (h : Up a.toList) {i j : Nat} (hij : i ≤ j) (hj : j < a.size) : K a i ≤ K a j := by
  obtain ⟨p, e1, e2, _⟩ := at_of (Nat.lt_of_le_of_lt hij hj)
  obtain ⟨q, e3, e4, _⟩ := at_of hj
  rw [K_of e1, K_of e3]
  by_cases c : i = j
  · subst c
    rw [e1] at e3
    cases e3
    exact Int.le_refl _
  · have l1 := List.getElem?_eq_some_iff.mp e2
    have l2 := List.getElem?_eq_some_iff.mp e4
    obtain ⟨x1, rfl⟩ := l1
    obtain ⟨x2, rfl⟩ := l2
    exact List.pairwise_iff_getElem.mp h i j x1 x2 (by omega)
theorem ext_end {a : Array Keyed} (i : Nat) : (a.extract i a.size).toList = a.toList.drop i := by
  rw [Array.toList_extract, List.extract_eq_take_drop]
  exact List.take_of_length_le (by rw [List.length_drop]; simp)
theorem ext_run {a : Array Keyed} (i k : Nat) : (a.extract i (i + k)).toList = (a.toList.drop i).take k := by
  rw [Array.toList_extract, List.extract_eq_take_drop, Nat.add_sub_cancel_left]
section
variable {prog : Program} {w : World} {A : Around} {E : Value → Shared → Prop} {s : Shared}
structure Lo (a b out : Array Keyed) (ia ib : Nat) : Prop where
  mg : Mg kn a.toList b.toList out.toList ia ib
  ha : ia + 1 < a.size
  hb : ib < b.size
structure LoH (a b : Array Keyed) : Prop where
  ka : ∀ p ∈ a.toList, Ik p
  kb : ∀ p ∈ b.toList, Ik p
  sa : Up a.toList
  sb : Up b.toList
  last : ∀ j, j < b.size → K b j ≤ K a (a.size - 1)
theorem lo_done {a b out : Array Keyed} {ia ib : Nat} (H : LoH a b) (m : Mg kn a.toList b.toList out.toList ia ib) (h : ∀ p ∈ a.toList.drop ia, ∀ q ∈ b.toList.drop ib, kn p ≤ kn q) : Fin' a.toList b.toList (out ++ a.extract ia a.size ++ b.extract ib b.size) := by
  unfold Fin' Up
  rw [Array.toList_append, Array.toList_append, ext_end, ext_end]
  exact m.fin H.sa H.sb h
theorem lo_last {a b out : Array Keyed} {ia ib : Nat} (H : LoH a b) (m : Mg kn a.toList b.toList out.toList ia ib) (h : ia + 1 = a.size) : Fin' a.toList b.toList (out ++ b.extract ib b.size ++ a.extract ia a.size) := by
  unfold Fin' Up
  rw [Array.toList_append, Array.toList_append, ext_end, ext_end]
  refine m.finB H.sa H.sb fun q hq p hp => ?_
  obtain ⟨j, j1, j2, j3⟩ := mem_drop hp
  obtain ⟨l, l1, l2, l3⟩ := mem_drop hq
  have : j = a.size - 1 := by omega
  rw [← K_of j3, ← K_of l3, this]
  exact H.last l l2
theorem lo_none {b : Array Keyed} {ib : Nat} (h : ib = b.size) : ∀ q : Keyed, q ∉ b.toList.drop ib := fun q hq => by
  obtain ⟨l, l1, l2, l3⟩ := mem_drop hq
  omega
abbrev LoC := Option (Array Keyed) × Array Keyed × Nat × Nat × Nat × Nat × Nat
def LoQ (a b : Array Keyed) (st : SortSt) (n : Nat) (r : ForInStep LoC) (st' : SortSt) : Prop :=
  (∃ g, st' = gal st g) ∧ match r with
  | .done c => (∃ r t, c = (some r, t) ∧ Fin' a.toList b.toList r) ∨ ∃ out ia ib mg ac bc, c = (none, out, ia, ib, mg, ac, bc) ∧ n ≤ ia + ib ∧ Lo a b out ia ib
  | .yield c => ∃ out ia ib mg ac bc, c = (none, out, ia, ib, mg, ac, bc) ∧ n ≤ ia + ib ∧ Lo a b out ia ib
theorem LoQ.fin {a b : Array Keyed} {st : SortSt} {n g : Nat} {r : Array Keyed} {t : Array Keyed × Nat × Nat × Nat × Nat × Nat} (h : Fin' a.toList b.toList r) : LoQ a b st n (.done (some r, t)) (gal st g) := ⟨⟨g, rfl⟩, .inl ⟨r, t, rfl, h⟩⟩
theorem ws_mergeLo {st : SortSt} {a b : Array Keyed} {Q : Array Keyed → SortSt → Prop} (H : LoH a b) (na : 1 ≤ a.size) (nb : 1 ≤ b.size) (hk : kindOf st = oneType') (first : ∀ i, i < a.size → K b 0 ≤ K a i)
    (h : ∀ r g, Fin' a.toList b.toList r → Q r (gal st g)) : wpS (model prog w) A E s (mergeLo' a b) Q st := by
  refine wpS_bind (wpS_lift (wpAny_rule ⟨rfl, ?_⟩))
  obtain ⟨b0, eb0, eb0', mb0⟩ := at_of (a := b) (i := 0) (by omega)
  refine wpS_bind (ws_elem eb0 ?_)
  dsimp -zeta only
  extract_lets out ia ib
  have m0 : Mg kn a.toList b.toList out.toList 0 1 := by
    have z : Mg kn a.toList b.toList ([] : List Keyed) 0 0 := ⟨by simp, .nil, (fun _ z => by cases z), (fun _ z => by cases z)⟩
    refine z.pushB H.sb eb0' fun q hq => ?_
    obtain ⟨l, l1, l2, l3⟩ := mem_drop hq
    rw [← K_of eb0, ← K_of l3]
    exact first l l2
  clear_value out
  subst ia ib
  by_cases c1 : 1 = b.size
  · rw [if_pos (by rw [← c1]; rfl)]
    exact wpS_pure (h _ _ (lo_done H m0 fun _ _ q hq => (lo_none c1 q hq).elim))
  rw [if_neg (by simpa using c1)]
  by_cases c2 : 0 + 1 = a.size
  · rw [if_pos (by rw [← c2]; rfl)]
    exact wpS_pure (h _ _ (lo_last H m0 c2))
  rw [if_neg (by simpa using c2)]
  refine wpS_bind (wpS_get ?_)
  refine wpS_bind (wpS_mono (wpS_forRange (I := fun x c st' => (∃ g, st' = gal st g) ∧ ∃ out ia ib mg, c = (none, out, ia, ib, mg) ∧ x + 1 ≤ ia + ib ∧ Lo a b out ia ib)
    (Q := fun c st' => (∃ g, st' = gal st g) ∧ ∃ r t, c = (some r, t) ∧ Fin' a.toList b.toList r) ?a ?b ?c) ?d)
  case c => exact ⟨⟨_, rfl⟩, out, 0, 1, _, rfl, by omega, m0, by omega, by omega⟩
  case d =>
    rintro c st' ⟨⟨g, rfl⟩, r, t, rfl, hf⟩
    exact wpS_pure (h _ _ hf)
  case b =>
    rintro c st' ⟨_, out, ia, ib, mg, _, h1, h2, h3, h4⟩
    omega
  case a =>
    rintro x c st' _ hx ⟨⟨g, rfl⟩, out, ia0, ib0, mg, rfl, h1, L0⟩
    dsimp -zeta only
    refine wpS_bind (wpS_mono (wpS_forRange (I := fun x c st' => st' = gal st g ∧ ∃ out ia ib ac bc, c = (none, out, ia, ib, ac, bc) ∧ ia0 + ib0 + x ≤ ia + ib ∧ Lo a b out ia ib)
      (Q := fun c st' => st' = gal st g ∧ ((∃ r t, c = (some r, t) ∧ Fin' a.toList b.toList r) ∨ ∃ out ia ib ac bc, c = (none, out, ia, ib, ac, bc) ∧ ia0 + ib0 + 1 ≤ ia + ib ∧ Lo a b out ia ib)) ?e ?f ?g) ?i)
    case g => exact ⟨rfl, out, ia0, ib0, 0, 0, rfl, by omega, L0⟩
    case f =>
      rintro c st' ⟨rfl, out, ia, ib, ac, bc, rfl, h1, L⟩
      have := L.ha
      have := L.hb
      exact ⟨rfl, .inr ⟨out, ia, ib, ac, bc, rfl, by omega, L⟩⟩
    case e =>
      rintro x c st' _ hx ⟨rfl, out, ia, ib, ac, bc, rfl, h1, L⟩
      dsimp only
      obtain ⟨p, ep, ep', mp⟩ := at_of (a := a) (i := ia) (by have := L.ha; omega)
      obtain ⟨q, eq, eq', mq⟩ := at_of (a := b) (i := ib) L.hb
      refine wpS_bind (ws_elem eq (wpS_bind (ws_elem ep (wpS_bind (ws_lt (x := q) (y := p) hk (H.kb _ mq) (H.ka _ mp) ?_)))))
      by_cases lt : kn q < kn p
      · rw [decide_eq_true lt]
        dsimp only
        rw [if_pos rfl]
        refine wpS_bind (ws_elem eq ?_)
        have m' : Mg kn a.toList b.toList (out.push q).toList ia (ib + 1) := by
          rw [Array.toList_push]
          refine L.mg.pushB H.sb eq' fun y hy => ?_
          obtain ⟨l, l1, l2, l3⟩ := mem_drop hy
          have := up_K H.sa l1 l2
          rw [K_of ep, K_of l3] at this
          omega
        by_cases c3 : ib + 1 = b.size
        · rw [if_pos (by rw [← c3]; simp)]
          exact wpS_pure ⟨rfl, .inl ⟨_, _, rfl, lo_done H m' fun _ _ y hy => (lo_none c3 y hy).elim⟩⟩
        · rw [if_neg (by simpa using c3)]
          have L' : Lo a b (out.push q) ia (ib + 1) := ⟨m', L.ha, by have := L.hb; omega⟩
          by_cases c4 : bc + 1 ≥ mg
          · rw [if_pos c4]
            exact wpS_pure ⟨rfl, .inr ⟨_, _, _, _, _, rfl, by omega, L'⟩⟩
          · rw [if_neg c4]
            exact wpS_pure ⟨rfl, _, _, _, _, _, rfl, by omega, L'⟩
      · rw [decide_eq_false lt]
        dsimp only
        rw [if_neg (by decide)]
        refine wpS_bind (ws_elem ep ?_)
        have m' : Mg kn a.toList b.toList (out.push p).toList (ia + 1) ib := by
          rw [Array.toList_push]
          refine L.mg.pushA H.sa ep' fun y hy => ?_
          obtain ⟨l, l1, l2, l3⟩ := mem_drop hy
          have := up_K H.sb l1 l2
          rw [K_of eq, K_of l3] at this
          omega
        by_cases c3 : ia + 1 + 1 = a.size
        · rw [if_pos (by rw [← c3]; simp)]
          exact wpS_pure ⟨rfl, .inl ⟨_, _, rfl, lo_last H m' c3⟩⟩
        · rw [if_neg (by simpa using c3)]
          have L' : Lo a b (out.push p) (ia + 1) ib := ⟨m', by have := L.ha; omega, L.hb⟩
          by_cases c4 : ac + 1 ≥ mg
          · rw [if_pos c4]
            exact wpS_pure ⟨rfl, .inr ⟨_, _, _, _, _, rfl, by omega, L'⟩⟩
          · rw [if_neg c4]
            exact wpS_pure ⟨rfl, _, _, _, _, _, rfl, by omega, L'⟩
    case i =>
      rintro c st' ⟨rfl, ⟨r, ⟨o, i1, i2, i3, i4⟩, rfl, hf⟩ | ⟨out, ia0', ib0', ac, bc, rfl, h2, L0⟩⟩
      · exact wpS_pure ⟨⟨g, rfl⟩, r, _, rfl, hf⟩
      dsimp -zeta only
      refine wpS_bind (wpS_lift (wpAny_rule ⟨rfl, ?_⟩))
      refine wpS_bind (wpS_mono (wpS_forRange (I := fun x c st' => (∃ g, st' = gal st g) ∧ ∃ out ia ib mg ac bc, c = (none, out, ia, ib, mg, ac, bc) ∧ ia0' + ib0' ≤ ia + ib ∧ Lo a b out ia ib)
        (Q := fun c st' => (∃ g, st' = gal st g) ∧ ((∃ r t, c = (some r, t) ∧ Fin' a.toList b.toList r) ∨ ∃ out ia ib mg ac bc, c = (none, out, ia, ib, mg, ac, bc) ∧ ia0' + ib0' ≤ ia + ib ∧ Lo a b out ia ib)) ?j ?k ?l) ?m)
      case l => exact ⟨⟨_, rfl⟩, out, ia0', ib0', _, ac, bc, rfl, by omega, L0⟩
      case k =>
        rintro c st' ⟨hg, out, ia, ib, mg, ac, bc, rfl, h1, L⟩
        exact ⟨hg, .inr ⟨out, ia, ib, mg, ac, bc, rfl, by omega, L⟩⟩
      case m =>
        rintro c st' ⟨⟨g, rfl⟩, ⟨r, ⟨o, i1, i2, i3, i4, i5⟩, rfl, hf⟩ | ⟨out, ia, ib, mg, ac, bc, rfl, h3, L⟩⟩
        · exact wpS_pure ⟨⟨g, rfl⟩, r, _, rfl, hf⟩
        · dsimp only
          exact wpS_bind (wpS_modify (wpS_pure ⟨⟨_, rfl⟩, _, _, _, _, rfl, by omega, L⟩))
      case j =>
        rintro x c st' _ hx ⟨⟨g, rfl⟩, out, ia, ib, mg, ac, bc, rfl, h1, L⟩
        refine wpS_mono (Q := LoQ a b st (ia0' + ib0')) ?_ fun r st' h => by cases r <;> exact h
        have hia := L.ha
        have hib := L.hb
        obtain ⟨q, eq, eq', mq⟩ := at_of (a := b) (i := ib) hib
        dsimp -zeta only
        extract_lets z1 z2 z3 z4 z5 z6 z7 z8 z9 z10 z11 z12 jp z13
        subst z13 z12 z11 z10 z9 z8 z7 z6 z5 z4 z3 z2 z1
        have key : ∀ m g, wpS (model prog w) A E s (jp () m) (LoQ a b st (ia0' + ib0')) (gal st g) := by
          intro m g
          dsimp -zeta only [jp]
          refine wpS_bind (wpS_modify ?_)
          refine wpS_bind (ws_elem eq ?_)
          refine wpS_bind (ws_gallop hk (H.kb _ mq) (by omega) H.ka (by omega) (fun i j h1 h2 => up_K H.sa (by omega) (by omega)) fun k k1 k2 k3 => ?_)
          dsimp -zeta only
          clear jp
          extract_lets ac' jp o1 o2
          subst o2 o1 ac'
          have key : ∀ out' ia', ia + ib ≤ ia' + ib → Mg kn a.toList b.toList out'.toList ia' ib → ia' + 1 < a.size → (∀ p ∈ a.toList.drop ia', kn q ≤ kn p) → wpS (model prog w) A E s (jp () out' ia') (LoQ a b st (ia0' + ib0')) (gal st m) := by
            intro out' ia' hs m1 hia' hq
            dsimp -zeta only [jp]
            refine wpS_bind (ws_elem eq ?_)
            have m2 : Mg kn a.toList b.toList (out'.push q).toList ia' (ib + 1) := by
              rw [Array.toList_push]
              exact m1.pushB H.sb eq' hq
            by_cases c3 : ib + 1 = b.size
            · rw [if_pos (by rw [← c3]; simp)]
              exact wpS_pure (LoQ.fin (lo_done H m2 fun _ _ y hy => (lo_none c3 y hy).elim))
            rw [if_neg (by simpa using c3)]
            obtain ⟨p, ep, ep', mp⟩ := at_of (a := a) (i := ia') (by omega)
            refine wpS_bind (ws_elem ep ?_)
            refine wpS_bind (ws_gallop hk (H.ka _ mp) (by omega) H.kb (by omega) (fun i j h1 h2 => up_K H.sb (by omega) (by omega)) fun k k1 k2 k3 => ?_)
            dsimp -zeta only
            clear jp
            extract_lets bc' ia1 jp o1 o2
            subst o2 o1 ia1 bc'
            have key : ∀ out2 ib', ib + 1 ≤ ib' → Mg kn a.toList b.toList out2.toList ia' ib' → ib' < b.size → (∀ y ∈ b.toList.drop ib', kn p ≤ kn y) → wpS (model prog w) A E s (jp () out2 ib') (LoQ a b st (ia0' + ib0')) (gal st m) := by
              intro out2 ib' hs' m3 hib' hp
              dsimp -zeta only [jp]
              refine wpS_bind (ws_elem ep ?_)
              have m4 : Mg kn a.toList b.toList (out2.push p).toList (ia' + 1) ib' := by
                rw [Array.toList_push]
                exact m3.pushA H.sa ep' hp
              by_cases c4 : ia' + 1 + 1 = a.size
              · rw [if_pos (by rw [← c4]; simp)]
                exact wpS_pure (LoQ.fin (lo_last H m4 c4))
              rw [if_neg (by simpa using c4)]
              have L' : Lo a b (out2.push p) (ia' + 1) ib' := ⟨m4, by omega, hib'⟩
              split
              · exact wpS_pure ⟨⟨m, rfl⟩, .inr ⟨_, _, _, _, _, _, rfl, by omega, L'⟩⟩
              · exact wpS_pure ⟨⟨m, rfl⟩, _, _, _, _, _, _, rfl, by omega, L'⟩
            by_cases c5 : k > 0
            · rw [if_pos c5]
              have m3 : Mg kn a.toList b.toList (out'.push q ++ b.extract (ib + 1) (ib + 1 + k)).toList ia' (ib + 1 + k) := by
                rw [Array.toList_append, ext_run]
                refine m2.runB H.sb k fun y hy x hx => ?_
                obtain ⟨j, j1, j2, j3⟩ := mem_run hy
                obtain ⟨l, l1, l2, l3⟩ := mem_drop hx
                have g1 := k2 j j1
                have g2 := up_K H.sa l1 l2
                rw [K_of ep, K_of l3] at g2
                unfold gp at g1
                rw [if_pos rfl, K_of j3] at g1
                have := of_decide_eq_true g1
                omega
              by_cases c6 : ib + 1 + k = b.size
              · rw [if_pos (by rw [← c6]; simp)]
                exact wpS_pure (LoQ.fin (lo_done H m3 fun _ _ y hy => (lo_none c6 y hy).elim))
              · rw [if_neg (by simpa using c6)]
                refine key _ _ (by omega) m3 (by omega) fun y hy => ?_
                obtain ⟨l, l1, l2, l3⟩ := mem_drop hy
                have g1 := k3 (l - (ib + 1)) (by omega) (by omega)
                unfold gp at g1
                rw [if_pos rfl, show ib + 1 + (l - (ib + 1)) = l by omega, K_of l3] at g1
                have := of_decide_eq_false g1
                omega
            · rw [if_neg c5]
              refine key _ _ (by omega) m2 (by omega) fun y hy => ?_
              obtain ⟨l, l1, l2, l3⟩ := mem_drop hy
              have g1 := k3 (l - (ib + 1)) (by omega) (by omega)
              unfold gp at g1
              rw [if_pos rfl, show ib + 1 + (l - (ib + 1)) = l by omega, K_of l3] at g1
              have := of_decide_eq_false g1
              omega
          have after : ∀ p ∈ a.toList.drop (ia + k), kn q ≤ kn p := fun p hp => by
            obtain ⟨l, l1, l2, l3⟩ := mem_drop hp
            have g1 := k3 (l - ia) (by omega) (by omega)
            unfold gp at g1
            rw [if_neg (by decide), show ia + (l - ia) = l by omega, K_of l3] at g1
            have : kn q < kn p := by simpa using g1
            omega
          by_cases c5 : k > 0
          · rw [if_pos c5]
            have m3 : Mg kn a.toList b.toList (out ++ a.extract ia (ia + k)).toList (ia + k) ib := by
              rw [Array.toList_append, ext_run]
              refine L.mg.runA H.sa k fun y hy x hx => ?_
              obtain ⟨j, j1, j2, j3⟩ := mem_run hy
              obtain ⟨l, l1, l2, l3⟩ := mem_drop hx
              have g1 := k2 j j1
              have g2 := up_K H.sb l1 l2
              rw [K_of eq, K_of l3] at g2
              unfold gp at g1
              rw [if_neg (by decide), K_of j3] at g1
              have : ¬ kn q < kn y := by simpa using g1
              omega
            by_cases c6 : ia + k + 1 = a.size
            · rw [if_pos (by rw [← c6]; simp)]
              exact wpS_pure (LoQ.fin (lo_last H m3 c6))
            rw [if_neg (by simpa using c6)]
            by_cases c7 : ia + k = a.size
            · rw [if_pos (by rw [← c7]; simp)]
              exact wpS_pure (LoQ.fin (lo_done H m3 fun y hy => (lo_none c7 y hy).elim))
            · rw [if_neg (by simpa using c7)]
              exact key _ _ (by omega) m3 (by omega) after
          · rw [if_neg c5]
            have : k = 0 := by omega
            subst this
            exact key _ _ (by omega) L.mg (by omega) after
        split <;> exact key _ _
end
section
variable {α : Type} {f : α → Int} {A B : List α}
structure Mh (f : α → Int) (A B R : List α) (na nb : Nat) : Prop where
  pm : R.Perm (A.drop na ++ B.drop nb)
  so : R.Pairwise (f · ≤ f ·)
  la : ∀ q ∈ A.take na, ∀ p ∈ R, f q ≤ f p
  lb : ∀ q ∈ B.take nb, ∀ p ∈ R, f q ≤ f p
theorem Mh.swap {R : List α} {na nb : Nat} (h : Mh f A B R na nb) : Mh f B A R nb na := ⟨h.pm.trans List.perm_append_comm, h.so, h.lb, h.la⟩
theorem take_take {i n : Nat} (h : i ≤ n) : A.take n = A.take i ++ (A.take n).drop i := by
  have := List.take_append_drop i (A.take n)
  rw [List.take_take, Nat.min_eq_left h] at this
  exact this.symm
theorem drop_take {i n : Nat} (h : i ≤ n) : A.drop i = (A.take n).drop i ++ A.drop n := by
  have h1 := List.take_append_drop n A
  have h2 := congrArg (List.drop i) h1
  rw [List.drop_append] at h2
  rw [← h2]
  by_cases c : n ≤ A.length
  · rw [List.length_take, Nat.min_eq_left c, Nat.sub_eq_zero_of_le h, List.drop_zero]
  · rw [List.drop_of_length_le (show A.length ≤ n by omega), List.drop_nil]
theorem Mh.runA {R : List α} {na nb : Nat} (h : Mh f A B R na nb) (sa : A.Pairwise (f · ≤ f ·)) (k : Nat) (k1 : k ≤ na) (hk : ∀ p ∈ (A.take na).drop k, ∀ q ∈ B.take nb, f q ≤ f p) : Mh f A B ((A.take na).drop k ++ R) k nb := by
  have e := take_take (A := A) k1
  have st : (A.take na).Pairwise (f · ≤ f ·) := sa.sublist (List.take_sublist _ _)
  rw [e, List.pairwise_append] at st
  have mT : ∀ p ∈ (A.take na).drop k, p ∈ A.take na := fun p hp => (List.drop_sublist _ _).mem hp
  have mD : ∀ p ∈ A.take k, p ∈ A.take na := fun p hp => by rw [e]; exact List.mem_append_left _ hp
  refine ⟨?_, ?_, ?_, ?_⟩
  · rw [drop_take (A := A) k1, List.append_assoc]
    exact h.pm.append_left _
  · rw [List.pairwise_append]
    exact ⟨st.2.1, h.so, fun p hp q hq => h.la p (mT p hp) q hq⟩
  · intro q hq p hp
    rcases List.mem_append.mp hp with z | z
    · exact st.2.2 q hq p z
    · exact h.la q (mD q hq) p z
  · intro q hq p hp
    rcases List.mem_append.mp hp with z | z
    · exact hk p z q hq
    · exact h.lb q hq p z
theorem Mh.runB {R : List α} {na nb : Nat} (h : Mh f A B R na nb) (sb : B.Pairwise (f · ≤ f ·)) (k : Nat) (k1 : k ≤ nb) (hk : ∀ p ∈ (B.take nb).drop k, ∀ q ∈ A.take na, f q ≤ f p) : Mh f A B ((B.take nb).drop k ++ R) na k :=
  (h.swap.runA sb k k1 hk).swap
theorem last_one {n : Nat} {p : α} (e : A[n]? = some p) : (A.take (n + 1)).drop n = [p] := by
  obtain ⟨lt, rfl⟩ := List.getElem?_eq_some_iff.mp e
  rw [List.take_succ_eq_append_getElem lt, List.drop_append, List.drop_of_length_le (by rw [List.length_take]; omega), List.length_take, Nat.min_eq_left (by omega), Nat.sub_self]
  rfl
theorem Mh.pushA {R : List α} {na nb : Nat} {p : α} (h : Mh f A B R (na + 1) nb) (sa : A.Pairwise (f · ≤ f ·)) (e : A[na]? = some p) (hk : ∀ q ∈ B.take nb, f q ≤ f p) : Mh f A B (p :: R) na nb := by
  have t1 := last_one e
  have := h.runA sa na (by omega) (by rw [t1]; intro q hq; rw [List.mem_singleton.mp hq]; exact hk)
  rw [t1] at this
  exact this
theorem Mh.pushB {R : List α} {na nb : Nat} {p : α} (h : Mh f A B R na (nb + 1)) (sb : B.Pairwise (f · ≤ f ·)) (e : B[nb]? = some p) (hk : ∀ q ∈ A.take na, f q ≤ f p) : Mh f A B (p :: R) na nb :=
  (h.swap.pushA sb e hk).swap
theorem Mh.fin {R : List α} {na nb : Nat} (h : Mh f A B R na nb) (sa : A.Pairwise (f · ≤ f ·)) (sb : B.Pairwise (f · ≤ f ·)) (hk : ∀ p ∈ B.take nb, ∀ q ∈ A.take na, f q ≤ f p) : (A.take na ++ B.take nb ++ R).Perm (A ++ B) ∧ (A.take na ++ B.take nb ++ R).Pairwise (f · ≤ f ·) := by
  have h1 := h.runB sb 0 (Nat.zero_le _) (by rw [List.drop_zero]; exact hk)
  have h2 := h1.runA sa 0 (Nat.zero_le _) (by intro _ _ _ z; cases z)
  have pm := h2.pm
  have so := h2.so
  rw [List.drop_zero, List.drop_zero, ← List.append_assoc] at so
  rw [List.drop_zero, List.drop_zero, List.drop_zero, List.drop_zero, ← List.append_assoc] at pm
  exact ⟨pm, so⟩
theorem Mh.finB {R : List α} {na nb : Nat} (h : Mh f A B R na nb) (sa : A.Pairwise (f · ≤ f ·)) (sb : B.Pairwise (f · ≤ f ·)) (hk : ∀ p ∈ A.take na, ∀ q ∈ B.take nb, f q ≤ f p) : (B.take nb ++ A.take na ++ R).Perm (A ++ B) ∧ (B.take nb ++ A.take na ++ R).Pairwise (f · ≤ f ·) := by
  obtain ⟨h1, h2⟩ := h.swap.fin sb sa hk
  exact ⟨h1.trans List.perm_append_comm, h2⟩
end
theorem mem_take {a : Array Keyed} {n : Nat} {p : Keyed} (h : p ∈ a.toList.take n) : ∃ j, j < n ∧ j < a.size ∧ a[j]? = some p := by
  have := mem_run (a := a) (i := 0) (k := n) (p := p) h
  obtain ⟨j, h1, h2, h3⟩ := this
  rw [Nat.zero_add] at h2 h3
  exact ⟨j, h1, h2, h3⟩
theorem mem_mid {a : Array Keyed} {i n : Nat} {p : Keyed} (h : p ∈ (a.toList.take n).drop i) : ∃ j, i ≤ j ∧ j < n ∧ j < a.size ∧ a[j]? = some p := by
  obtain ⟨j, e⟩ := List.getElem?_of_mem h
  rw [List.getElem?_drop] at e
  have lt := (List.getElem?_eq_some_iff.mp e).1
  rw [List.length_take] at lt
  rw [List.getElem?_take_of_lt (by omega)] at e
  have : a.toList.length = a.size := rfl
  exact ⟨i + j, by omega, by omega, by omega, by rw [← Array.getElem?_toList]; exact e⟩
theorem ext_ahead {a : Array Keyed} (n : Nat) : (a.extract 0 n).toList = a.toList.take n := by
  rw [Array.toList_extract, List.extract_eq_take_drop]
  rfl
theorem ext_mid {a : Array Keyed} (i n : Nat) : (a.extract i n).toList = (a.toList.take n).drop i := by
  rw [Array.toList_extract, List.extract_eq_take_drop, List.drop_take]
structure HiH (a b : Array Keyed) : Prop where
  ka : ∀ p ∈ a.toList, Ik p
  kb : ∀ p ∈ b.toList, Ik p
  sa : Up a.toList
  sb : Up b.toList
  first : ∀ i, i < a.size → K b 0 ≤ K a i
abbrev MhO (a b out : Array Keyed) (na nb : Nat) : Prop := Mh kn a.toList b.toList out.toList.reverse na nb
theorem hi_done {a b out : Array Keyed} {na nb : Nat} (H : HiH a b) (m : MhO a b out na nb) (h : ∀ p ∈ b.toList.take nb, ∀ q ∈ a.toList.take na, kn q ≤ kn p) : Fin' a.toList b.toList (a.extract 0 na ++ b.extract 0 nb ++ out.reverse) := by
  unfold Fin' Up
  rw [Array.toList_append, Array.toList_append, ext_ahead, ext_ahead, Array.toList_reverse]
  exact m.fin H.sa H.sb h
theorem hi_first {a b out : Array Keyed} {na : Nat} (H : HiH a b) (m : MhO a b out na 1) : Fin' a.toList b.toList (b.extract 0 1 ++ a.extract 0 na ++ out.reverse) := by
  unfold Fin' Up
  rw [Array.toList_append, Array.toList_append, ext_ahead, ext_ahead, Array.toList_reverse]
  refine m.finB H.sa H.sb fun p hp q hq => ?_
  obtain ⟨j, j1, j2, j3⟩ := mem_take hp
  obtain ⟨l, l1, l2, l3⟩ := mem_take hq
  have : l = 0 := by omega
  rw [← K_of j3, ← K_of l3, this]
  exact H.first j j2
theorem hi_pushA {a b out : Array Keyed} {na nb : Nat} {p : Keyed} (H : HiH a b) (m : MhO a b out (na + 1) nb) (e : a.toList[na]? = some p) (hk : ∀ q ∈ b.toList.take nb, kn q ≤ kn p) : MhO a b (out.push p) na nb := by
  unfold MhO
  rw [Array.toList_push, List.reverse_append]
  exact m.pushA H.sa e hk
theorem hi_pushB {a b out : Array Keyed} {na nb : Nat} {p : Keyed} (H : HiH a b) (m : MhO a b out na (nb + 1)) (e : b.toList[nb]? = some p) (hk : ∀ q ∈ a.toList.take na, kn q ≤ kn p) : MhO a b (out.push p) na nb := by
  unfold MhO
  rw [Array.toList_push, List.reverse_append]
  exact m.pushB H.sb e hk
theorem hi_runA {a b out : Array Keyed} {na nb : Nat} (H : HiH a b) (m : MhO a b out na nb) (k : Nat) (k1 : k ≤ na) (hk : ∀ p ∈ (a.toList.take na).drop k, ∀ q ∈ b.toList.take nb, kn q ≤ kn p) : MhO a b (out ++ (a.extract k na).reverse) k nb := by
  unfold MhO
  rw [Array.toList_append, Array.toList_reverse, List.reverse_append, List.reverse_reverse, ext_mid]
  exact m.runA H.sa k k1 hk
theorem hi_runB {a b out : Array Keyed} {na nb : Nat} (H : HiH a b) (m : MhO a b out na nb) (k : Nat) (k1 : k ≤ nb) (hk : ∀ p ∈ (b.toList.take nb).drop k, ∀ q ∈ a.toList.take na, kn q ≤ kn p) : MhO a b (out ++ (b.extract k nb).reverse) na k := by
  unfold MhO
  rw [Array.toList_append, Array.toList_reverse, List.reverse_append, List.reverse_reverse, ext_mid]
  exact m.runB H.sb k k1 hk
structure Hi (a b out : Array Keyed) (na nb : Nat) : Prop where
  mg : MhO a b out na nb
  a0 : 1 ≤ na
  a1 : na ≤ a.size
  b0 : 2 ≤ nb
  b1 : nb ≤ b.size
section
variable {prog : Program} {w : World} {A : Around} {E : Value → Shared → Prop} {s : Shared}
abbrev HiC := Option (Array Keyed) × Nat × Nat × Array Keyed × Nat × Nat × Nat
def HiQ (a b : Array Keyed) (st : SortSt) (n : Nat) (r : ForInStep HiC) (st' : SortSt) : Prop :=
  (∃ g, st' = gal st g) ∧ match r with
  | .done c => (∃ r t, c = (some r, t) ∧ Fin' a.toList b.toList r) ∨ ∃ na nb out mg ac bc, c = (none, na, nb, out, mg, ac, bc) ∧ na + nb ≤ n ∧ Hi a b out na nb
  | .yield c => ∃ na nb out mg ac bc, c = (none, na, nb, out, mg, ac, bc) ∧ na + nb ≤ n ∧ Hi a b out na nb
theorem HiQ.fin {a b : Array Keyed} {st : SortSt} {n g : Nat} {r : Array Keyed} {t : Nat × Nat × Array Keyed × Nat × Nat × Nat} (h : Fin' a.toList b.toList r) : HiQ a b st n (.done (some r, t)) (gal st g) := ⟨⟨g, rfl⟩, .inl ⟨r, t, rfl, h⟩⟩
theorem take_no {b : Array Keyed} : ∀ q : Keyed, q ∉ b.toList.take 0 := fun q hq => by cases hq
theorem ws_mergeHi {st : SortSt} {a b : Array Keyed} {Q : Array Keyed → SortSt → Prop} (H : HiH a b) (na1 : 1 ≤ a.size) (nb1 : 1 ≤ b.size) (hk : kindOf st = oneType') (last : ∀ j, j < b.size → K b j ≤ K a (a.size - 1))
    (h : ∀ r g, Fin' a.toList b.toList r → Q r (gal st g)) : wpS (model prog w) A E s (mergeHi' a b) Q st := by
  refine wpS_bind (wpS_lift (wpAny_rule ⟨rfl, ?_⟩))
  obtain ⟨a0, ea0, ea0', ma0⟩ := at_of (a := a) (i := a.size - 1) (by omega)
  refine wpS_bind (ws_elem ea0 ?_)
  have m0 : MhO a b #[a0] (a.size - 1) b.size := by
    have z : MhO a b #[] (a.size - 1 + 1) b.size := ⟨by
      have l1 : a.toList.length = a.size := rfl
      have l2 : b.toList.length = b.size := rfl
      rw [List.drop_of_length_le (by omega), List.drop_of_length_le (by omega)]
      exact .nil, .nil, (fun _ _ _ z => by cases z), (fun _ _ _ z => by cases z)⟩
    refine hi_pushA H z ea0' fun q hq => ?_
    obtain ⟨l, l1, l2, l3⟩ := mem_take hq
    rw [← K_of ea0, ← K_of l3]
    exact last l l2
  dsimp -zeta only
  extract_lets out
  subst out
  by_cases c1 : a.size - 1 = 0
  · rw [if_pos (by rw [c1]; rfl)]
    rw [c1] at m0 ⊢
    exact wpS_pure (h _ _ (hi_done H m0 fun _ _ q hq => (take_no q hq).elim))
  rw [if_neg (by simpa using c1)]
  by_cases c2 : b.size = 1
  · rw [if_pos (by rw [c2]; rfl)]
    rw [c2] at m0 ⊢
    exact wpS_pure (h _ _ (hi_first H m0))
  rw [if_neg (by simpa using c2)]
  refine wpS_bind (wpS_get ?_)
  refine wpS_bind (wpS_mono (wpS_forRange (I := fun x c st' => (∃ g, st' = gal st g) ∧ ∃ na nb out mg, c = (none, na, nb, out, mg) ∧ na + nb + x + 1 ≤ a.size + b.size ∧ Hi a b out na nb)
    (Q := fun c st' => (∃ g, st' = gal st g) ∧ ∃ r t, c = (some r, t) ∧ Fin' a.toList b.toList r) ?a ?b ?c) ?d)
  case c => exact ⟨⟨_, rfl⟩, _, _, _, _, rfl, by omega, m0, by omega, by omega, by omega, by omega⟩
  case d =>
    rintro c st' ⟨⟨g, rfl⟩, r, t, rfl, hf⟩
    exact wpS_pure (h _ _ hf)
  case b =>
    rintro c st' ⟨_, na, nb, out, mg, _, h1, h2, h3, h4⟩
    omega
  case a =>
    rintro x c st' _ hx ⟨⟨g, rfl⟩, na0, nb0, out, mg, rfl, h1, L0⟩
    dsimp -zeta only
    refine wpS_bind (wpS_mono (wpS_forRange (I := fun x c st' => st' = gal st g ∧ ∃ na nb out ac bc, c = (none, na, nb, out, ac, bc) ∧ na + nb + x ≤ na0 + nb0 ∧ Hi a b out na nb)
      (Q := fun c st' => st' = gal st g ∧ ((∃ r t, c = (some r, t) ∧ Fin' a.toList b.toList r) ∨ ∃ na nb out ac bc, c = (none, na, nb, out, ac, bc) ∧ na + nb + 1 ≤ na0 + nb0 ∧ Hi a b out na nb)) ?e ?f ?g) ?i)
    case g => exact ⟨rfl, na0, nb0, out, 0, 0, rfl, by omega, L0⟩
    case f =>
      rintro c st' ⟨rfl, na, nb, out, ac, bc, rfl, h1, L⟩
      have := L.a0
      have := L.b0
      exact ⟨rfl, .inr ⟨na, nb, out, ac, bc, rfl, by omega, L⟩⟩
    case e =>
      rintro x c st' _ hx ⟨rfl, na, nb, out, ac, bc, rfl, h1, L⟩
      dsimp only
      have l1 := L.a0
      have l2 := L.a1
      have l3 := L.b0
      have l4 := L.b1
      obtain ⟨n, rfl⟩ : ∃ n, na = n + 1 := ⟨na - 1, by omega⟩
      obtain ⟨m, rfl⟩ : ∃ m, nb = m + 1 := ⟨nb - 1, by omega⟩
      rw [Nat.add_sub_cancel, Nat.add_sub_cancel]
      obtain ⟨p, ep, ep', mp⟩ := at_of (a := a) (i := n) (by omega)
      obtain ⟨q, eq, eq', mq⟩ := at_of (a := b) (i := m) (by omega)
      refine wpS_bind (ws_elem eq (wpS_bind (ws_elem ep (wpS_bind (ws_lt (x := q) (y := p) hk (H.kb _ mq) (H.ka _ mp) ?_)))))
      by_cases lt : kn q < kn p
      · rw [decide_eq_true lt]
        dsimp only
        rw [if_pos rfl]
        refine wpS_bind (ws_elem ep ?_)
        have m' : MhO a b (out.push p) n (m + 1) := hi_pushA H L.mg ep' fun y hy => by
          obtain ⟨l, l1, l2, l3⟩ := mem_take hy
          have := up_K H.sb (show l ≤ m by omega) (by omega)
          rw [K_of eq, K_of l3] at this
          omega
        by_cases c3 : n = 0
        · rw [if_pos (by rw [c3]; rfl)]
          rw [c3] at m' ⊢
          exact wpS_pure ⟨rfl, .inl ⟨_, _, rfl, hi_done H m' fun _ _ y hy => (take_no y hy).elim⟩⟩
        · rw [if_neg (by simpa using c3)]
          have L' : Hi a b (out.push p) n (m + 1) := ⟨m', by omega, by omega, by omega, by omega⟩
          by_cases c4 : ac + 1 ≥ mg
          · rw [if_pos c4]
            exact wpS_pure ⟨rfl, .inr ⟨_, _, _, _, _, rfl, by omega, L'⟩⟩
          · rw [if_neg c4]
            exact wpS_pure ⟨rfl, _, _, _, _, _, rfl, by omega, L'⟩
      · rw [decide_eq_false lt]
        dsimp only
        rw [if_neg (by decide)]
        refine wpS_bind (ws_elem eq ?_)
        have m' : MhO a b (out.push q) (n + 1) m := hi_pushB H L.mg eq' fun y hy => by
          obtain ⟨l, l1, l2, l3⟩ := mem_take hy
          have := up_K H.sa (show l ≤ n by omega) (by omega)
          rw [K_of ep, K_of l3] at this
          omega
        by_cases c3 : m = 1
        · rw [if_pos (by rw [c3]; rfl)]
          rw [c3] at m' ⊢
          exact wpS_pure ⟨rfl, .inl ⟨_, _, rfl, hi_first H m'⟩⟩
        · rw [if_neg (by simpa using c3)]
          have L' : Hi a b (out.push q) (n + 1) m := ⟨m', by omega, by omega, by omega, by omega⟩
          by_cases c4 : bc + 1 ≥ mg
          · rw [if_pos c4]
            exact wpS_pure ⟨rfl, .inr ⟨_, _, _, _, _, rfl, by omega, L'⟩⟩
          · rw [if_neg c4]
            exact wpS_pure ⟨rfl, _, _, _, _, _, rfl, by omega, L'⟩
    case i =>
      rintro c st' ⟨rfl, ⟨r, ⟨o, i1, i2, i3, i4⟩, rfl, hf⟩ | ⟨na1, nb1, out, ac, bc, rfl, h2, L0⟩⟩
      · exact wpS_pure ⟨⟨g, rfl⟩, r, _, rfl, hf⟩
      dsimp -zeta only
      refine wpS_bind (wpS_lift (wpAny_rule ⟨rfl, ?_⟩))
      refine wpS_bind (wpS_mono (wpS_forRange (I := fun x c st' => (∃ g, st' = gal st g) ∧ ∃ na nb out mg ac bc, c = (none, na, nb, out, mg, ac, bc) ∧ na + nb ≤ na1 + nb1 ∧ Hi a b out na nb)
        (Q := fun c st' => (∃ g, st' = gal st g) ∧ ((∃ r t, c = (some r, t) ∧ Fin' a.toList b.toList r) ∨ ∃ na nb out mg ac bc, c = (none, na, nb, out, mg, ac, bc) ∧ na + nb ≤ na1 + nb1 ∧ Hi a b out na nb)) ?j ?k ?l) ?mm)
      case l => exact ⟨⟨_, rfl⟩, na1, nb1, out, _, ac, bc, rfl, by omega, L0⟩
      case k =>
        rintro c st' ⟨hg, na, nb, out, mg, ac, bc, rfl, h1, L⟩
        exact ⟨hg, .inr ⟨na, nb, out, mg, ac, bc, rfl, by omega, L⟩⟩
      case mm =>
        rintro c st' ⟨⟨g, rfl⟩, ⟨r, ⟨o, i1, i2, i3, i4, i5⟩, rfl, hf⟩ | ⟨na, nb, out, mg, ac, bc, rfl, h3, L⟩⟩
        · exact wpS_pure ⟨⟨g, rfl⟩, r, _, rfl, hf⟩
        · dsimp only
          exact wpS_bind (wpS_modify (wpS_pure ⟨⟨_, rfl⟩, _, _, _, _, rfl, by omega, L⟩))
      case j =>
        rintro x c st' _ hx ⟨⟨g, rfl⟩, na, nb, out, mg, ac, bc, rfl, h1, L⟩
        refine wpS_mono (Q := HiQ a b st (na1 + nb1)) ?_ fun r st' h => by cases r <;> exact h
        have l1 := L.a0
        have l2 := L.a1
        have l3 := L.b0
        have l4 := L.b1
        obtain ⟨m, rfl⟩ : ∃ m, nb = m + 1 := ⟨nb - 1, by omega⟩
        obtain ⟨q, eq, eq', mq⟩ := at_of (a := b) (i := m) (by omega)
        dsimp -zeta only
        extract_lets z1 z2 z3 z4 z5 z6 z7 z8 z9 z10 z11 z12 jp z13
        subst z13 z12 z11 z10 z9 z8 z7 z6 z5 z4 z3 z2 z1
        have key : ∀ mg g, wpS (model prog w) A E s (jp () mg) (HiQ a b st (na1 + nb1)) (gal st g) := by
          intro mg g
          dsimp -zeta only [jp]
          rw [Nat.add_sub_cancel]
          refine wpS_bind (wpS_modify ?_)
          refine wpS_bind (ws_elem eq ?_)
          refine wpS_bind (ws_gallop hk (H.kb _ mq) (by omega) H.ka (by omega) (fun i j h1 h2 => up_K H.sa (by omega) (by omega)) fun k k1 k2 k3 => ?_)
          have upto : ∀ p ∈ a.toList.take k, kn p ≤ kn q := fun p hp => by
            obtain ⟨l, l1, l2, l3⟩ := mem_take hp
            have g1 := k2 l l1
            unfold gp at g1
            rw [if_neg (by decide), Nat.zero_add, K_of l3] at g1
            have : ¬ kn q < kn p := by simpa using g1
            omega
          dsimp -zeta only
          clear jp
          extract_lets o0 ac' jp o1 o2
          subst o2 o1 ac' o0
          have key : ∀ out' na', 1 ≤ na' → na' ≤ na → MhO a b out' na' (m + 1) → (∀ p ∈ a.toList.take na', kn p ≤ kn q) → wpS (model prog w) A E s (jp () na' out') (HiQ a b st (na1 + nb1)) (gal st mg) := by
            intro out' na' n1 n2 m1 hq
            dsimp -zeta only [jp]
            refine wpS_bind (ws_elem eq ?_)
            have m2 : MhO a b (out'.push q) na' m := hi_pushB H m1 eq' hq
            by_cases c3 : m = 1
            · rw [if_pos (by rw [c3]; rfl)]
              rw [c3] at m2 ⊢
              exact wpS_pure (HiQ.fin (hi_first H m2))
            rw [if_neg (by simpa using c3)]
            obtain ⟨n, rfl⟩ : ∃ n, na' = n + 1 := ⟨na' - 1, by omega⟩
            obtain ⟨p, ep, ep', mp⟩ := at_of (a := a) (i := n) (by omega)
            rw [Nat.add_sub_cancel]
            refine wpS_bind (ws_elem ep ?_)
            refine wpS_bind (ws_gallop hk (H.ka _ mp) (by omega) H.kb (by omega) (fun i j h1 h2 => up_K H.sb (by omega) (by omega)) fun k k1 k2 k3 => ?_)
            have upto : ∀ y ∈ b.toList.take k, kn y ≤ kn p := fun y hy => by
              obtain ⟨l, l1, l2, l3⟩ := mem_take hy
              have g1 := k2 l l1
              unfold gp at g1
              rw [if_pos rfl, Nat.zero_add, K_of l3] at g1
              have := of_decide_eq_true g1
              omega
            dsimp -zeta only
            clear jp
            extract_lets o0 bc' n' jp o1 o2
            subst o2 o1 n' bc' o0
            have key : ∀ out2 nb', 2 ≤ nb' → nb' ≤ m → MhO a b out2 (n + 1) nb' → (∀ y ∈ b.toList.take nb', kn y ≤ kn p) → wpS (model prog w) A E s (jp () nb' out2) (HiQ a b st (na1 + nb1)) (gal st mg) := by
              intro out2 nb' b1 b2 m3 hp
              dsimp -zeta only [jp]
              refine wpS_bind (ws_elem ep ?_)
              have m4 : MhO a b (out2.push p) n nb' := hi_pushA H m3 ep' hp
              by_cases c4 : n = 0
              · rw [if_pos (by rw [c4]; rfl)]
                rw [c4] at m4 ⊢
                exact wpS_pure (HiQ.fin (hi_done H m4 fun _ _ y hy => (take_no y hy).elim))
              rw [if_neg (by simpa using c4)]
              have L' : Hi a b (out2.push p) n nb' := ⟨m4, by omega, by omega, by omega, by omega⟩
              split
              · exact wpS_pure ⟨⟨mg, rfl⟩, .inr ⟨_, _, _, _, _, _, rfl, by omega, L'⟩⟩
              · exact wpS_pure ⟨⟨mg, rfl⟩, _, _, _, _, _, _, rfl, by omega, L'⟩
            by_cases c5 : m - k > 0
            · rw [if_pos c5]
              have m3 : MhO a b (out'.push q ++ (b.extract k m).reverse) (n + 1) k := by
                refine hi_runB H m2 k (by omega) fun y hy x hx => ?_
                obtain ⟨j, j0, j1, j2, j3⟩ := mem_mid hy
                obtain ⟨l, l1, l2, l3⟩ := mem_take hx
                have g1 := k3 j j0 j1
                have g2 := up_K H.sa (show l ≤ n by omega) (by omega)
                rw [K_of ep, K_of l3] at g2
                unfold gp at g1
                rw [if_pos rfl, Nat.zero_add, K_of j3] at g1
                have := of_decide_eq_false g1
                omega
              by_cases c6 : k = 1
              · rw [if_pos (by rw [c6]; rfl)]
                rw [c6] at m3 ⊢
                exact wpS_pure (HiQ.fin (hi_first H m3))
              rw [if_neg (by simpa using c6)]
              by_cases c7 : k = 0
              · rw [if_pos (by rw [c7]; rfl)]
                rw [c7] at m3 ⊢
                exact wpS_pure (HiQ.fin (hi_done H m3 fun y hy => (take_no y hy).elim))
              · rw [if_neg (by simpa using c7)]
                exact key _ _ (by omega) (by omega) m3 upto
            · rw [if_neg c5]
              have : k = m := by omega
              subst this
              exact key _ _ (by omega) (by omega) m2 upto
          by_cases c5 : na - k > 0
          · rw [if_pos c5]
            have m3 : MhO a b (out ++ (a.extract k na).reverse) k (m + 1) := by
              refine hi_runA H L.mg k (by omega) fun y hy x hx => ?_
              obtain ⟨j, j0, j1, j2, j3⟩ := mem_mid hy
              obtain ⟨l, l1, l2, l3⟩ := mem_take hx
              have g1 := k3 j j0 j1
              have g2 := up_K H.sb (show l ≤ m by omega) (by omega)
              rw [K_of eq, K_of l3] at g2
              unfold gp at g1
              rw [if_neg (by decide), Nat.zero_add, K_of j3] at g1
              have : kn q < kn y := by simpa using g1
              omega
            by_cases c6 : k = 0
            · rw [if_pos (by rw [c6]; rfl)]
              rw [c6] at m3 ⊢
              exact wpS_pure (HiQ.fin (hi_done H m3 fun _ _ y hy => (take_no y hy).elim))
            · rw [if_neg (by simpa using c6)]
              exact key _ _ (by omega) (by omega) m3 upto
          · rw [if_neg c5]
            have : k = na := by omega
            subst this
            exact key _ _ (by omega) (by omega) L.mg upto
        split <;> exact key _ _
end
theorem wr_list (b : Nat) : ∀ (l : List Keyed) (k : Nat) (xs : Array Keyed), b + k + l.length ≤ xs.size → ((l.zipIdx k).foldl (fun (a : Array Keyed) (q : Keyed × Nat) => a.setIfInBounds (b + q.2) q.1) xs).toList = xs.toList.take (b + k) ++ l ++ xs.toList.drop (b + k + l.length)
  | [], k, xs, h => by simp
  | p :: l, k, xs, h => by
    rw [List.zipIdx_cons, List.foldl_cons]
    rw [List.length_cons] at h
    have ih := wr_list b l (k + 1) (xs.setIfInBounds (b + k) p) (by rw [Array.size_setIfInBounds]; omega)
    refine ih.trans ?_
    have lt : b + k < xs.toList.length := by show b + k < xs.size; omega
    have e1 : (xs.toList.set (b + k) p).take (b + (k + 1)) = xs.toList.take (b + k) ++ [p] := by
      rw [← Nat.add_assoc, List.take_succ_eq_append_getElem (by rw [List.length_set]; exact lt), List.take_set_of_le (Nat.le_refl _), List.getElem_set_self]
    have e2 : (xs.toList.set (b + k) p).drop (b + (k + 1) + l.length) = xs.toList.drop (b + (k + 1) + l.length) := List.drop_set_of_lt (by omega)
    rw [Array.toList_setIfInBounds, e1, e2, List.length_cons, show b + (k + 1) + l.length = b + k + (l.length + 1) by omega]
    simp
theorem seg_at {xs : Array Keyed} {L A R : List Keyed} (e : xs.toList = L ++ A ++ R) {i : Nat} (h : i < A.length) : xs[L.length + i]? = A[i]? := by
  rw [← Array.getElem?_toList, e, List.append_assoc, List.getElem?_append_right (by omega), List.getElem?_append_left (by omega)]
  congr 1
  omega
theorem seg_K {xs : Array Keyed} {L A R : List Keyed} (e : xs.toList = L ++ A ++ R) (u : Up A) {i j : Nat} (h1 : i ≤ j) (h2 : j < A.length) : K xs (L.length + i) ≤ K xs (L.length + j) := by
  have q1 := seg_at e (i := i) (by omega)
  have q2 := seg_at e h2
  rw [List.getElem?_eq_getElem (by omega)] at q1 q2
  rw [K_of q1, K_of q2]
  by_cases c : i = j
  · subst c
    exact Int.le_refl _
  · exact List.pairwise_iff_getElem.mp u i j (by omega) (by omega) (by omega)
theorem seg_ext {xs : Array Keyed} {L A R : List Keyed} (e : xs.toList = L ++ A ++ R) {i j : Nat} (h1 : i ≤ j) (h2 : j ≤ A.length) : (xs.extract (L.length + i) (L.length + j)).toList = (A.take j).drop i := by
  rw [Array.toList_extract, List.extract_eq_take_drop, e, List.append_assoc, List.drop_append, List.drop_of_length_le (by omega), List.nil_append, Nat.add_sub_cancel_left, show L.length + j - (L.length + i) = j - i by omega, List.drop_take, List.drop_append_of_le_length (by omega), List.take_append_of_le_length (by rw [List.length_drop]; omega)]
section
variable {prog : Program} {w : World} {A₀ : Around} {E : Value → Shared → Prop} {s : Shared}
theorem wpS_set {σ : Type} {M : Model} {Q : PUnit → σ → Prop} {st x : σ} (h : Q ⟨⟩ x) : wpS M A₀ E s (set x : StateT σ Sem PUnit) Q st := by
  unfold wpS
  rw [StateT.run_set]
  exact wpAny_pure ⟨rfl, h⟩
theorem ws_mergeAt {xs : Array Keyed} {g0 sa na pw sb nb p2 : Nat} {pre post : List (Nat × Nat × Nat)} {L A B S : List Keyed} {Q : Bool → SortSt → Prop}
    (e : xs.toList = L ++ A ++ (B ++ S)) (hI : ∀ p ∈ xs.toList, Ik p) (e1 : L.length = sa) (e2 : A.length = na) (e3 : B.length = nb) (e4 : sb = sa + na) (n1 : 1 ≤ na) (n2 : 1 ≤ nb) (uA : Up A) (uB : Up B)
    (h : ∀ C ys g, C.Perm (A ++ B) → Up C → ys.toList = L ++ C ++ S → Q true (SortSt.mk' oneType' ys (pre ++ (sa, na + nb, pw) :: post).toArray g none)) :
    wpS (model prog w) A₀ E s (mergeAt' pre.length) Q (SortSt.mk' oneType' xs (pre ++ (sa, na, pw) :: (sb, nb, p2) :: post).toArray g0 none) := by
  refine wpS_bind (wpS_get ?_)
  have g1 : (pre ++ (sa, na, pw) :: (sb, nb, p2) :: post).toArray[pre.length]? = some (sa, na, pw) := by simp
  have g2 : (pre ++ (sa, na, pw) :: (sb, nb, p2) :: post).toArray[pre.length + 1]? = some (sb, nb, p2) := by simp
  have g3 : ((pre ++ (sa, na, pw) :: (sb, nb, p2) :: post).toArray.setIfInBounds pre.length (sa, na + nb, pw)).eraseIdxIfInBounds (pre.length + 1) = (pre ++ (sa, na + nb, pw) :: post).toArray := by
    apply Array.toList_inj.mp
    rw [Array.toList_eraseIdxIfInBounds, Array.toList_setIfInBounds]
    simp [List.eraseIdx_append_of_length_le]
  dsimp -zeta only
  rw [g1, g2]
  dsimp -zeta only
  refine wpS_bind (wpS_set ?_)
  rw [g3]
  clear g1 g2 g3
  subst e1 e2 e3 e4
  obtain ⟨b0, rB, eb⟩ : ∃ b0 rB, B = b0 :: rB := by cases B with | nil => simp at n2 | cons x y => exact ⟨x, y, rfl⟩
  have eB : xs.toList = (L ++ A) ++ B ++ S := by rw [e]; simp
  have lLA : (L ++ A).length = L.length + A.length := List.length_append
  have sz : xs.size = L.length + A.length + (B.length + S.length) := by
    have := congrArg List.length e
    simpa [Nat.add_assoc, Nat.add_comm, Nat.add_left_comm] using this
  have eb0 : xs[L.length + A.length]? = some b0 := by
    have := seg_at eB (i := 0) (by omega)
    rw [lLA, eb] at this
    exact this
  have kb0 : Ik b0 := hI b0 (by rw [e, eb]; simp)
  refine wpS_bind (ws_elem eb0 ?_)
  refine wpS_bind (ws_gallop rfl kb0 (by omega) hI (by omega) (fun i j h1 h2 => seg_K e uA h1 h2) fun k k1 k2 k3 => ?_)
  have lo1 : ∀ p ∈ A.take k, kn p ≤ kn b0 := fun p hp => by
    obtain ⟨i, ei⟩ := List.getElem?_of_mem hp
    have li := (List.getElem?_eq_some_iff.mp ei).1
    rw [List.length_take] at li
    rw [List.getElem?_take_of_lt (by omega)] at ei
    have g1 := k2 i (by omega)
    unfold gp at g1
    rw [if_neg (by decide), K_of ((seg_at e (by omega)).trans ei)] at g1
    have : ¬ kn b0 < kn p := by simpa using g1
    omega
  have hi1 : ∀ p ∈ A.drop k, kn b0 ≤ kn p := fun p hp => by
    obtain ⟨i, ei⟩ := List.getElem?_of_mem hp
    rw [List.getElem?_drop] at ei
    have li := (List.getElem?_eq_some_iff.mp ei).1
    have g1 := k3 (k + i) (by omega) li
    unfold gp at g1
    rw [if_neg (by decide), K_of ((seg_at e li).trans ei)] at g1
    have : kn b0 < kn p := by simpa using g1
    omega
  have b0le : ∀ q ∈ B, kn b0 ≤ kn q := fun q hq => by
    rw [eb] at hq uB
    rcases List.mem_cons.mp hq with z | z
    · rw [z]; exact Int.le_refl _
    · exact (List.pairwise_cons.mp uB).1 q z
  dsimp -zeta only
  by_cases c1 : A.length - k = 0
  · rw [if_pos (by rw [c1]; rfl)]
    have ek : A.take k = A := List.take_of_length_le (by omega)
    rw [ek] at lo1
    refine wpS_pure (h (A ++ B) xs g0 (.refl _) ?_ (by rw [e]; simp))
    unfold Up
    rw [List.pairwise_append]
    exact ⟨uA, uB, fun p hp q hq => Int.le_trans (lo1 p hp) (b0le q hq)⟩
  rw [if_neg (by simpa using c1), show L.length + k + (A.length - k) - 1 = L.length + (A.length - 1) by omega]
  obtain ⟨a1, ea1⟩ : ∃ a1, A[A.length - 1]? = some a1 := ⟨_, List.getElem?_eq_getElem (by omega)⟩
  have ea1' := (seg_at e (i := A.length - 1) (by omega)).trans ea1
  have ma1 : a1 ∈ A.drop k := by
    refine List.mem_of_getElem? (i := A.length - 1 - k) ?_
    rw [List.getElem?_drop, show k + (A.length - 1 - k) = A.length - 1 by omega]
    exact ea1
  have ka1 : Ik a1 := hI a1 (by rw [e]; exact List.mem_append_left _ (List.mem_append_right _ ((List.drop_sublist _ _).mem ma1)))
  refine wpS_bind (ws_elem ea1' ?_)
  refine wpS_bind (ws_gallop (base := L.length + A.length) rfl ka1 (by omega) hI (by omega) (fun i j h1 h2 => by rw [← lLA]; exact seg_K eB uB h1 h2) fun m m1 m2 m3 => ?_)
  have a1ge : ∀ p ∈ A, kn p ≤ kn a1 := fun p hp => by
    obtain ⟨i, ei⟩ := List.getElem?_of_mem hp
    have li := (List.getElem?_eq_some_iff.mp ei).1
    have := seg_K e uA (i := i) (j := A.length - 1) (by omega) (by omega)
    rw [K_of ((seg_at e li).trans ei), K_of ea1'] at this
    exact this
  have lo2 : ∀ q ∈ B.take m, kn q ≤ kn a1 := fun p hp => by
    obtain ⟨i, ei⟩ := List.getElem?_of_mem hp
    have li := (List.getElem?_eq_some_iff.mp ei).1
    rw [List.length_take] at li
    rw [List.getElem?_take_of_lt (by omega)] at ei
    have g1 := m2 i (by omega)
    unfold gp at g1
    rw [if_pos rfl, ← lLA, K_of ((seg_at eB (by omega)).trans ei)] at g1
    have := of_decide_eq_true g1
    omega
  have hi2 : ∀ q ∈ B.drop m, kn a1 ≤ kn q := fun p hp => by
    obtain ⟨i, ei⟩ := List.getElem?_of_mem hp
    rw [List.getElem?_drop] at ei
    have li := (List.getElem?_eq_some_iff.mp ei).1
    have g1 := m3 (m + i) (by omega) li
    unfold gp at g1
    rw [if_pos rfl, ← lLA, K_of ((seg_at eB li).trans ei)] at g1
    have := of_decide_eq_false g1
    omega
  dsimp -zeta only
  by_cases c2 : m = 0
  · rw [if_pos (by rw [c2]; rfl)]
    rw [c2, List.drop_zero] at hi2
    refine wpS_pure (h (A ++ B) xs g0 (.refl _) ?_ (by rw [e]; simp))
    unfold Up
    rw [List.pairwise_append]
    exact ⟨uA, uB, fun p hp q hq => Int.le_trans (a1ge p hp) (hi2 q hq)⟩
  rw [if_neg (by simpa using c2)]
  have ex : (xs.extract (L.length + k) (L.length + A.length)).toList = A.drop k := by
    rw [seg_ext e (by omega) (Nat.le_refl _), List.take_of_length_le (Nat.le_refl _)]
  have ey : (xs.extract (L.length + A.length) (L.length + A.length + m)).toList = B.take m := by
    have := seg_ext eB (i := 0) (j := m) (by omega) (by omega)
    rw [lLA] at this
    exact this
  generalize xs.extract (L.length + k) (L.length + A.length) = X at ex
  generalize xs.extract (L.length + A.length) (L.length + A.length + m) = Y at ey
  extract_lets x y jp
  subst x y
  have key : ∀ r g, Fin' X.toList Y.toList r → wpS (model prog w) A₀ E s (jp r) Q (SortSt.mk' oneType' xs (pre ++ (L.length, A.length + B.length, pw) :: post).toArray g none) := by
    intro r g hr
    dsimp -zeta only [jp]
    refine wpS_bind (wpS_modify (wpS_bind (wpS_get (wpS_pure ?_))))
    obtain ⟨pm, up⟩ := hr
    rw [ex, ey] at pm
    have lr := pm.length_eq
    rw [List.length_append, List.length_drop, List.length_take, Nat.min_eq_left m1] at lr
    refine h (A.take k ++ r.toList ++ B.drop m) _ g ?_ ?_ ?_
    · refine ((pm.append_left (A.take k)).append_right (B.drop m)).trans ?_
      rw [← List.append_assoc, List.take_append_drop, List.append_assoc, List.take_append_drop]
    · unfold Up
      rw [List.pairwise_append, List.pairwise_append]
      have uA' := uA
      have uB' := uB
      unfold Up at uA' uB'
      rw [← List.take_append_drop k A, List.pairwise_append] at uA'
      rw [← List.take_append_drop m B, List.pairwise_append] at uB'
      refine ⟨⟨uA'.1, up, fun p hp q hq => ?_⟩, uB'.2.1, fun p hp q hq => ?_⟩
      · rcases List.mem_append.mp (pm.mem_iff.mp hq) with z | z
        · exact uA'.2.2 p hp q z
        · exact Int.le_trans (lo1 p hp) (b0le q ((List.take_sublist _ _).mem z))
      · rcases List.mem_append.mp hp with z | z
        · exact Int.le_trans (a1ge p ((List.take_sublist _ _).mem z)) (hi2 q hq)
        · rcases List.mem_append.mp (pm.mem_iff.mp z) with z | z
          · exact Int.le_trans (a1ge p ((List.drop_sublist _ _).mem z)) (hi2 q hq)
          · exact uB'.2.2 p z q hq
    · have := wr_list (L.length + k) r.toList 0 xs (by omega)
      refine this.trans ?_
      rw [lr, e, Nat.add_zero, show L.length + k + (A.length - k + m) = (L ++ A).length + m by omega, List.drop_append, List.drop_of_length_le (by omega), List.nil_append, Nat.add_sub_cancel_left, List.drop_append_of_le_length m1,
        List.append_assoc L A, List.take_append, List.take_of_length_le (by omega), Nat.add_sub_cancel_left, List.take_append_of_le_length k1]
      simp
  have sX : X.size = A.length - k := by rw [← Array.length_toList, ex, List.length_drop]
  have sY : Y.size = m := by rw [← Array.length_toList, ey, List.length_take]; omega
  have inA : ∀ p ∈ X.toList, p ∈ A := fun p hp => by rw [ex] at hp; exact (List.drop_sublist _ _).mem hp
  have inB : ∀ p ∈ Y.toList, p ∈ B := fun p hp => by rw [ey] at hp; exact (List.take_sublist _ _).mem hp
  have kX : ∀ p ∈ X.toList, Ik p := fun p hp => hI p (by rw [e]; exact List.mem_append_left _ (List.mem_append_right _ (inA p hp)))
  have kY : ∀ p ∈ Y.toList, Ik p := fun p hp => hI p (by rw [e]; exact List.mem_append_right _ (List.mem_append_left _ (inB p hp)))
  have uX : Up X.toList := by rw [ex]; exact uA.sublist (List.drop_sublist _ _)
  have uY : Up Y.toList := by rw [ey]; exact uB.sublist (List.take_sublist _ _)
  have last : ∀ j, j < Y.size → K Y j ≤ K X (X.size - 1) := fun j hj => by
    obtain ⟨q, q1, q2, q3⟩ := at_of hj
    have e1 : X[X.size - 1]? = some a1 := by
      rw [← Array.getElem?_toList, ex, List.getElem?_drop, sX, show k + (A.length - k - 1) = A.length - 1 by omega]
      exact ea1
    rw [K_of q1, K_of e1]
    exact lo2 q (by rw [← ey]; exact q3)
  have first : ∀ i, i < X.size → K Y 0 ≤ K X i := fun i hi => by
    obtain ⟨q, q1, q2, q3⟩ := at_of hi
    have e1 : Y[0]? = some b0 := by
      rw [← Array.getElem?_toList, ey, List.getElem?_take_of_lt (by omega), eb]
      rfl
    rw [K_of q1, K_of e1]
    exact hi1 q (by rw [← ex]; exact q3)
  split
  · exact wpS_bind (ws_mergeLo ⟨kX, kY, uX, uY, last⟩ (by omega) (by omega) rfl first fun r g hr => key r g hr)
  · exact wpS_bind (ws_mergeHi ⟨kX, kY, uX, uY, first⟩ (by omega) (by omega) rfl last fun r g hr => key r g hr)
end
def Sm (lo : Nat) (xs ys : Array Keyed) : Prop := ys.Perm xs ∧ ∀ i, i < lo → ys[i]? = xs[i]?
theorem Sm.refl {lo : Nat} {xs : Array Keyed} : Sm lo xs xs := ⟨.refl _, fun _ _ => rfl⟩
theorem Sm.trans {lo : Nat} {xs ys zs : Array Keyed} (h1 : Sm lo xs ys) (h2 : Sm lo ys zs) : Sm lo xs zs := ⟨h2.1.trans h1.1, fun i hi => (h2.2 i hi).trans (h1.2 i hi)⟩
theorem Sm.size {lo : Nat} {xs ys : Array Keyed} (h : Sm lo xs ys) : ys.size = xs.size := h.1.size_eq
theorem Sm.ik {lo : Nat} {xs ys : Array Keyed} (h : Sm lo xs ys) (hI : ∀ p ∈ xs.toList, Ik p) : ∀ p ∈ ys.toList, Ik p := fun p hp => hI p ((Array.perm_iff_toList_perm.mp h.1).mem_iff.mp hp)
theorem Sm.mirror {lo i j : Nat} {xs : Array Keyed} (h : lo ≤ i) (hj : j ≤ xs.size) : Sm lo xs (mirror xs i j ((j - i) / 2)) :=
  ⟨mirror_perm _ _ _ _, fun k hk => by rw [getElem?_mirror_all hj, if_neg (by omega)]⟩
def Asc (xs : Array Keyed) (lo n : Nat) : Prop := ∀ i j, i ≤ j → j < n → K xs (lo + i) ≤ K xs (lo + j)
def Dsc (xs : Array Keyed) (lo n : Nat) : Prop := ∀ i j, i ≤ j → j < n → K xs (lo + j) ≤ K xs (lo + i)
theorem Asc.step {xs : Array Keyed} {lo n : Nat} (h : Asc xs lo n) (h1 : 1 ≤ n) (c : ¬ K xs (lo + n) < K xs (lo + n - 1)) : Asc xs lo (n + 1) := fun i j hij hj => by
  by_cases z : j < n
  · exact h i j hij z
  · have : j = n := by omega
    subst this
    by_cases y : i = j
    · subst y; exact Int.le_refl _
    · have := h i (j - 1) (by omega) (by omega)
      rw [show lo + (j - 1) = lo + j - 1 by omega] at this
      omega
theorem Dsc.step {xs : Array Keyed} {lo n : Nat} (h : Dsc xs lo n) (h1 : 1 ≤ n) (c : K xs (lo + n) ≤ K xs (lo + n - 1)) : Dsc xs lo (n + 1) := fun i j hij hj => by
  by_cases z : j < n
  · exact h i j hij z
  · have : j = n := by omega
    subst this
    by_cases y : i = j
    · subst y; exact Int.le_refl _
    · have := h i (j - 1) (by omega) (by omega)
      rw [show lo + (j - 1) = lo + j - 1 by omega] at this
      omega
theorem Asc.one {xs : Array Keyed} {lo : Nat} : Asc xs lo 1 := fun i j h1 h2 => by
  have : i = j := by omega
  subst this; exact Int.le_refl _
theorem Asc.turn {xs : Array Keyed} {lo n : Nat} (h : Dsc xs lo n) (hn : lo + n ≤ xs.size) : Asc (mirror xs lo (lo + n) ((lo + n - lo) / 2)) lo n := fun i j h1 h2 => by
  rw [K_mirror hn, K_mirror hn, if_pos (by omega), if_pos (by omega)]
  have := h (n - 1 - j) (n - 1 - i) (by omega) (by omega)
  rw [show lo + (lo + n) - 1 - (lo + i) = lo + (n - 1 - i) by omega, show lo + (lo + n) - 1 - (lo + j) = lo + (n - 1 - j) by omega]
  exact this
section
variable {prog : Program} {w : World} {A : Around} {E : Value → Shared → Prop} {s : Shared} {P : Array (Nat × Nat × Nat)} {g : Nat}
theorem ws_at {xs : Array Keyed} {i j : Nat} {Q : Option Bool → SortSt → Prop} (hI : ∀ p ∈ xs.toList, Ik p) (hi : i < xs.size) (hj : j < xs.size) (h : Q (some (decide (K xs i < K xs j))) (SortSt.mk' oneType' xs P g none)) :
    wpS (model prog w) A E s (ltAt' i j) Q (SortSt.mk' oneType' xs P g none) := by
  obtain ⟨p, p1, _, p2⟩ := at_of hi
  obtain ⟨q, q1, _, q2⟩ := at_of hj
  rw [K_of p1, K_of q1] at h
  refine wpS_bind (wpS_get ?_)
  refine wpS_bind (ws_elem p1 (wpS_bind (ws_elem q1 ?_)))
  exact ws_lt rfl (hI p p2) (hI q q2) h
theorem ws_rev {xs : Array Keyed} {i j : Nat} {Q : Unit → SortSt → Prop} (h : Q () (SortSt.mk' oneType' (mirror xs i j ((j - i) / 2)) P g none)) : wpS (model prog w) A E s (reverseSlice' i j) Q (SortSt.mk' oneType' xs P g none) := by
  rw [reverseSlice'_eq]
  exact wpS_modify h
def aRow (lo a m : Nat) : StateT SortSt Sem AscSt :=
  forIn [a:m] ((none, a) : AscSt) fun _ c => do
    match (← ltAt' (lo + c.2) (lo + c.2 - 1)) with
    | some b => if b = true then pure (.done (none, c.2)) else pure (.yield (none, c.2 + 1))
    | _ => pure (.done (some none, c.2))
theorem ws_aRow {xs : Array Keyed} {lo a m : Nat} {Q : AscSt → SortSt → Prop} (hI : ∀ p ∈ xs.toList, Ik p) (hm : lo + m ≤ xs.size) (h1 : 1 ≤ a) (h2 : a ≤ m) (hs : Asc xs lo a)
    (h : ∀ n, a ≤ n → n ≤ m → Asc xs lo n → (n = m ∨ K xs (lo + n) < K xs (lo + n - 1)) → Q (none, n) (SortSt.mk' oneType' xs P g none)) : wpS (model prog w) A E s (aRow lo a m) Q (SortSt.mk' oneType' xs P g none) := by
  unfold aRow
  refine wpS_forRange (I := fun x c st => st = SortSt.mk' oneType' xs P g none ∧ c = (none, x) ∧ Asc xs lo x) ?_ ?_ ⟨rfl, rfl, hs⟩
  · rintro x c st k1 k2 ⟨rfl, rfl, k3⟩
    dsimp only
    refine wpS_bind (ws_at hI (by omega) (by omega) ?_)
    by_cases c : K xs (lo + x) < K xs (lo + x - 1)
    · rw [decide_eq_true c]
      exact wpS_pure (h x k1 (by omega) k3 (.inr c))
    · rw [decide_eq_false c]
      exact wpS_pure ⟨rfl, rfl, k3.step (by omega) c⟩
  · rintro c st ⟨rfl, rfl, k3⟩
    rw [show max a m = m by omega] at k3 ⊢
    exact h m h2 (Nat.le_refl _) k3 (.inl rfl)
theorem ws_countRun {xs : Array Keyed} {lo m : Nat} {Q : Option Nat → SortSt → Prop} (hI : ∀ p ∈ xs.toList, Ik p) (hm : lo + m ≤ xs.size) (h1 : 1 ≤ m)
    (h : ∀ n ys, 1 ≤ n → n ≤ m → Sm lo xs ys → Asc ys lo n → Q (some n) (SortSt.mk' oneType' ys P g none)) : wpS (model prog w) A E s (countRun' lo m) Q (SortSt.mk' oneType' xs P g none) := by
  refine wpS_bind (ws_aRow hI hm (Nat.le_refl _) h1 Asc.one fun n n1 n2 as nd => ?_)
  dsimp -zeta only
  extract_lets +onlyGivenNames r' n'
  subst n' r'
  dsimp -zeta only
  by_cases c1 : n = m
  · rw [if_pos (by rw [c1]; simp)]
    exact wpS_pure (h n xs n1 n2 .refl as)
  rw [if_neg (by simpa using c1)]
  have lt := nd.resolve_left c1
  extract_lets +onlyGivenNames n' q' jp
  subst q' n'
  have key : ∀ ys, Sm lo xs ys → (∀ i, K ys i = K xs i) → Dsc xs lo n → wpS (model prog w) A E s (jp ()) Q (SortSt.mk' oneType' ys P g none) := by
    intro ys sm ke dn
    have dn' : Dsc ys lo (n + 1) := (show Dsc ys lo n from fun i j a b => by rw [ke, ke]; exact dn i j a b).step n1 (by rw [ke, ke]; omega)
    have ly := sm.size
    have hI' := sm.ik hI
    dsimp -zeta only [jp]
    refine wpS_bind (wpS_lift (wpAny_rule ⟨rfl, ?_⟩))
    refine wpS_bind (wpS_mono (wpS_forRange (I := fun x c st => ∃ ys q, st = SortSt.mk' oneType' ys P g none ∧ c = (none, x, q) ∧ Sm lo xs ys ∧ Dsc ys lo x ∧ q + 1 ≤ x ∧ (∀ i, lo + x - (q + 1) ≤ i → i < lo + x → K ys i = K ys (lo + x - 1)))
      (Q := fun c st => ∃ ys x q, st = SortSt.mk' oneType' ys P g none ∧ c = (none, x, q) ∧ n + 1 ≤ x ∧ x ≤ m ∧ Sm lo xs ys ∧ Dsc ys lo x ∧ q + 1 ≤ x ∧ (∀ i, lo + x - (q + 1) ≤ i → i < lo + x → K ys i = K ys (lo + x - 1))) ?a ?b ?c) ?d)
    case c => exact ⟨ys, 0, rfl, rfl, sm, dn', by omega, fun i a b => by congr 1; omega⟩
    case b =>
      rintro c st ⟨ys, q, rfl, rfl, k1, k2, k3, k4⟩
      rw [show max (n + 1) m = m by omega] at k2 k3 k4 ⊢
      exact ⟨ys, m, q, rfl, rfl, by omega, by omega, k1, k2, k3, k4⟩
    case a =>
      rintro x c st x1 x2 ⟨ys, q, rfl, rfl, k1, k2, k3, k4⟩
      have ly := k1.size
      dsimp only
      refine wpS_bind (ws_at (k1.ik hI) (by omega) (by omega) ?_)
      by_cases c : K ys (lo + x) < K ys (lo + x - 1)
      · rw [decide_eq_true c]
        dsimp only
        rw [if_pos rfl]
        by_cases c2 : q > 0
        · rw [if_pos c2]
          have ke2 := K_mirror_equal (xs := ys) (i := lo + x - (q + 1)) (j := lo + x) (by omega) k4
          refine wpS_bind (ws_rev (wpS_pure ⟨_, 0, rfl, rfl, k1.trans (Sm.mirror (by omega) (by omega)), ?_, by omega, fun i a b => by congr 1; omega⟩))
          refine (show Dsc _ lo x from fun i j a b => by rw [ke2, ke2]; exact k2 i j a b).step (by omega) (by rw [ke2, ke2]; omega)
        · rw [if_neg c2]
          exact wpS_pure ⟨ys, 0, rfl, rfl, k1, k2.step (by omega) (by omega), by omega, fun i a b => by congr 1; omega⟩
      · rw [decide_eq_false c]
        dsimp only
        rw [if_neg (by decide)]
        refine wpS_bind (ws_at (k1.ik hI) (by omega) (by omega) ?_)
        by_cases c2 : K ys (lo + x - 1) < K ys (lo + x)
        · rw [decide_eq_true c2]
          exact wpS_pure ⟨ys, x, q, rfl, rfl, x1, by omega, k1, k2, k3, k4⟩
        · rw [decide_eq_false c2]
          have ex : K ys (lo + x) = K ys (lo + x - 1) := by omega
          refine wpS_pure ⟨ys, q + 1, rfl, rfl, k1, k2.step (by omega) (by omega), by omega, fun i a b => ?_⟩
          rw [show lo + (x + 1) - 1 = lo + x by omega]
          by_cases z : i = lo + x
          · rw [z]
          · rw [ex]; exact k4 i (by omega) (by omega)
    case d =>
      rintro c st ⟨ys, x, q, rfl, rfl, x1, x2, k1, k2, k3, k4⟩
      have ly := k1.size
      dsimp -zeta only
      clear jp
      extract_lets +onlyGivenNames r' c' n' q'
      subst q' n' c' r'
      dsimp -zeta only
      extract_lets +onlyGivenNames jp
      have key : ∀ zs, Sm lo xs zs → Dsc zs lo x → wpS (model prog w) A E s (jp ()) Q (SortSt.mk' oneType' zs P g none) := by
        intro zs sm dz
        have lz := sm.size
        dsimp -zeta only [jp]
        have sm2 := sm.trans (Sm.mirror (xs := zs) (lo := lo) (i := lo) (j := lo + x) (Nat.le_refl _) (by omega))
        have l2 := sm2.size
        refine wpS_bind (ws_rev (wpS_bind (ws_aRow (sm2.ik hI) (by omega) (by omega) x2 (Asc.turn dz (by omega)) fun n n1 n2 as _ => ?_)))
        exact wpS_pure (h n _ (by omega) n2 sm2 as)
      by_cases c2 : q > 0
      · rw [if_pos c2]
        have ke2 := K_mirror_equal (xs := ys) (i := lo + x - (q + 1)) (j := lo + x) (by omega) k4
        exact wpS_bind (ws_rev (key _ (k1.trans (Sm.mirror (by omega) (by omega))) fun i j a b => by rw [ke2, ke2]; exact k2 i j a b))
      · rw [if_neg c2]
        exact key _ k1 k2
  by_cases c2 : n > 1
  · rw [if_pos c2]
    refine wpS_bind (ws_at hI (by omega) (by omega) ?_)
    by_cases c3 : K xs lo < K xs (lo + n - 1)
    · rw [decide_eq_true c3]
      exact wpS_pure (h n xs n1 n2 .refl as)
    · rw [decide_eq_false c3]
      have all : ∀ k, lo ≤ k → k < lo + n → K xs k = K xs (lo + n - 1) := fun k q1 q2 => by
        have a1 := as 0 (k - lo) (by omega) (by omega)
        have a2 := as (k - lo) (n - 1) (by omega) (by omega)
        rw [Nat.add_zero, show lo + (k - lo) = k by omega] at a1
        rw [show lo + (k - lo) = k by omega, show lo + (n - 1) = lo + n - 1 by omega] at a2
        omega
      exact wpS_bind (ws_rev (key _ (Sm.mirror (Nat.le_refl _) (by omega)) (K_mirror_equal (by omega) all) fun i j a b => by rw [all _ (by omega) (by omega), all (lo + i) (by omega) (by omega)]; exact Int.le_refl _))
  · rw [if_neg c2]
    have : n = 1 := by omega
    subst this
    exact key xs .refl (fun _ => rfl) fun i j a b => by
      have : i = j := by omega
      subst this
      exact Int.le_refl _
end
section
variable {prog : Program} {w : World} {A : Around} {E : Value → Shared → Prop} {s : Shared} {P : Array (Nat × Nat × Nat)} {g : Nat}
theorem ws_bin {xs : Array Keyed} {lo n ok : Nat} {Q : Bool → SortSt → Prop} (hI : ∀ p ∈ xs.toList, Ik p) (hn : lo + n ≤ xs.size) (hok : ok ≤ n) (as : Asc xs lo ok)
    (h : ∀ ys, Sm lo xs ys → Asc ys lo n → Q true (SortSt.mk' oneType' ys P g none)) : wpS (model prog w) A E s (binarySort' lo n ok) Q (SortSt.mk' oneType' xs P g none) := by
  refine wpS_bind (wpS_mono (wpS_forRange (I := fun k c st => ∃ ys, st = SortSt.mk' oneType' ys P g none ∧ c = (none, ()) ∧ Sm lo xs ys ∧ Asc ys lo (min k n))
    (Q := fun c st => ∃ ys, st = SortSt.mk' oneType' ys P g none ∧ c = (none, ()) ∧ Sm lo xs ys ∧ Asc ys lo n) ?a ?b ?c) ?d)
  case d =>
    rintro c st ⟨ys, rfl, rfl, k1, k2⟩
    exact wpS_pure (h ys k1 k2)
  case c =>
    refine ⟨xs, rfl, rfl, .refl, fun i j hij hj => ?_⟩
    by_cases z : ok = 0
    · have : i = j := by omega
      subst this; exact Int.le_refl _
    · exact as i j hij (by omega)
  case b =>
    rintro c st ⟨ys, rfl, rfl, k1, k2⟩
    rw [show min (max (max ok 1) n) n = n by omega] at k2
    exact ⟨ys, rfl, rfl, k1, k2⟩
  case a =>
    rintro k c st kk kn' ⟨ys, rfl, rfl, k1, k2⟩
    rw [show min k n = k by omega] at k2
    have ly := k1.size
    refine wpS_bind (wpS_mono (wpS_forRange (I := fun x c st => st = SortSt.mk' oneType' ys P g none ∧ ∃ l r, c = (none, l, r) ∧ l ≤ r ∧ r ≤ k ∧ r - l ≤ k - x ∧ (∀ i, i < l → K ys (lo + i) ≤ K ys (lo + k)) ∧ (∀ i, r ≤ i → i < k → K ys (lo + k) < K ys (lo + i)))
      (Q := fun c st => st = SortSt.mk' oneType' ys P g none ∧ ∃ l, c = (none, l, l) ∧ l ≤ k ∧ (∀ i, i < l → K ys (lo + i) ≤ K ys (lo + k)) ∧ (∀ i, l ≤ i → i < k → K ys (lo + k) < K ys (lo + i))) ?e ?f ?g) ?h)
    case g => exact ⟨rfl, 0, k, rfl, by omega, by omega, by omega, fun i hi => by omega, fun i a b => by omega⟩
    case f =>
      rintro c st ⟨rfl, l, r, rfl, q1, q2, q3, q4, q5⟩
      have : l = r := by omega
      subst this
      exact ⟨rfl, l, rfl, q2, q4, q5⟩
    case e =>
      rintro x c st _ xk ⟨rfl, l, r, rfl, q1, q2, q3, q4, q5⟩
      dsimp only
      by_cases c : l ≥ r
      · rw [if_pos c]
        have : l = r := by omega
        subst this
        exact wpS_pure ⟨rfl, l, rfl, q2, q4, q5⟩
      · rw [if_neg c]
        refine wpS_bind (ws_at (k1.ik hI) (by omega) (by omega) ?_)
        by_cases c2 : K ys (lo + k) < K ys (lo + (l + r) / 2)
        · rw [decide_eq_true c2]
          refine wpS_pure ⟨rfl, l, (l + r) / 2, rfl, by omega, by omega, by omega, q4, fun i a b => ?_⟩
          exact Int.lt_of_lt_of_le c2 (k2 _ _ a b)
        · rw [decide_eq_false c2]
          refine wpS_pure ⟨rfl, (l + r) / 2 + 1, r, rfl, by omega, by omega, by omega, fun i a => ?_, q5⟩
          exact Int.le_trans (k2 i ((l + r) / 2) (by omega) (by omega)) (Int.not_lt.mp c2)
    case h =>
      rintro c st ⟨rfl, l, rfl, q2, q4, q5⟩
      show wpS _ _ _ _ (do moveDown' (lo + k) (lo + l); pure (ForInStep.yield (none, ()))) _ _
      rw [moveDown'_eq]
      have bs : lo + k < ys.size := by omega
      have bd : lo + k - (lo + l) ≤ lo + k := by omega
      refine wpS_bind (wpS_modify (wpS_pure ⟨_, rfl, rfl, k1.trans ⟨bubble_perm _ _ _, fun i hi => ?_⟩, ?_⟩))
      · rw [getElem?_bubble bs _ bd, if_neg (by omega), if_neg (by omega)]
      · rw [show min (k + 1) n = k + 1 by omega]
        intro i j hij hj
        have val : ∀ i, i ≤ k → K (bubble ys (lo + k) (lo + k - (lo + l))) (lo + i) = if i = l then K ys (lo + k) else if l < i then K ys (lo + (i - 1)) else K ys (lo + i) := fun i hi => by
          rw [K_bubble bs bd, show lo + k - (lo + k - (lo + l)) = lo + l by omega]
          by_cases c1 : i = l
          · rw [if_pos (by omega), if_pos c1]
          · rw [if_neg (by omega), if_neg c1]
            by_cases c2 : l < i
            · rw [if_pos (by omega), if_pos c2, show lo + i - 1 = lo + (i - 1) by omega]
            · rw [if_neg (by omega), if_neg c2]
        show K (bubble ys (lo + k) (lo + k - (lo + l))) (lo + i) ≤ K (bubble ys (lo + k) (lo + k - (lo + l))) (lo + j)
        rw [val i (by omega), val j (by omega)]
        repeat' split
        all_goals first | (exfalso; omega) | exact Int.le_refl _ | exact q4 _ (by omega) | exact Int.le_of_lt (q5 _ (by omega) (by omega)) | exact k2 _ _ (by omega) (by omega)
end
inductive Rn : Nat → List (Nat × Nat × Nat) → List Keyed → Prop
  | nil {s : Nat} : Rn s [] []
  | cons {s n p : Nat} {P : List (Nat × Nat × Nat)} {A X : List Keyed} : A.length = n → 1 ≤ n → Up A → Rn (s + n) P X → Rn s ((s, n, p) :: P) (A ++ X)
theorem Rn.split : ∀ {pre r : List (Nat × Nat × Nat)} {s : Nat} {X : List Keyed}, Rn s (pre ++ r) X → ∃ X1 X2, X = X1 ++ X2 ∧ Rn s pre X1 ∧ Rn (s + X1.length) r X2
  | [], r, s, X, h => ⟨[], X, rfl, .nil, h⟩
  | a :: pre, r, s, X, h => by
    cases h with
    | cons h1 h2 h3 h4 =>
      obtain ⟨X1, X2, rfl, k1, k2⟩ := h4.split
      refine ⟨_ ++ X1, X2, (List.append_assoc _ _ _).symm, .cons h1 h2 h3 k1, ?_⟩
      rw [List.length_append, h1, ← Nat.add_assoc]
      exact k2
theorem Rn.join : ∀ {pre r : List (Nat × Nat × Nat)} {s : Nat} {X1 X2 : List Keyed}, Rn s pre X1 → Rn (s + X1.length) r X2 → Rn s (pre ++ r) (X1 ++ X2)
  | [], r, s, X1, X2, h, k => by cases h; exact k
  | a :: pre, r, s, X1, X2, h, k => by
    cases h with
    | cons h1 h2 h3 h4 =>
      rw [List.append_assoc]
      refine .cons h1 h2 h3 (h4.join ?_)
      rw [List.length_append, h1, ← Nat.add_assoc] at k
      exact k
theorem Rn.len : ∀ {P : List (Nat × Nat × Nat)} {s : Nat} {X : List Keyed}, Rn s P X → P.length ≤ X.length
  | [], s, X, h => Nat.zero_le _
  | a :: P, s, X, h => by
    cases h with
    | cons h1 h2 h3 h4 =>
      have := h4.len
      rw [List.length_append, List.length_cons]
      omega
theorem Rn.few {P : List (Nat × Nat × Nat)} {s : Nat} {X : List Keyed} (h : Rn s P X) (l : P.length ≤ 1) : Up X := by
  cases h with
  | nil => exact .nil
  | cons h1 h2 h3 h4 =>
    cases h4 with
    | nil => rw [List.append_nil]; exact h3
    | cons _ _ _ _ => simp at l
section
variable {prog : Program} {w : World} {A₀ : Around} {E : Value → Shared → Prop} {s : Shared}
theorem ws_mergeR {xs : Array Keyed} {g0 i : Nat} {P : List (Nat × Nat × Nat)} {X Y : List Keyed} {Q : Bool → SortSt → Prop} (hi : i + 1 < P.length) (hR : Rn 0 P X) (e : xs.toList = X ++ Y) (hI : ∀ p ∈ xs.toList, Ik p)
    (h : ∀ P' X' ys g, P'.length + 1 = P.length → Rn 0 P' X' → X'.Perm X → ys.toList = X' ++ Y → Q true (SortSt.mk' oneType' ys P'.toArray g none)) :
    wpS (model prog w) A₀ E s (mergeAt' i) Q (SortSt.mk' oneType' xs P.toArray g0 none) := by
  obtain ⟨⟨sa, na, pw⟩, ⟨sb, nb, p2⟩, post, eP⟩ : ∃ a b post, P = P.take i ++ a :: b :: post := by
    refine ⟨P[i], P[i + 1], P.drop (i + 2), ?_⟩
    rw [← List.drop_eq_getElem_cons hi, ← List.drop_eq_getElem_cons (by omega), List.take_append_drop]
  have li : (P.take i).length = i := by rw [List.length_take]; omega
  generalize P.take i = pre at eP li
  subst eP li
  obtain ⟨X1, X2, rfl, k1, k2⟩ := hR.split
  rw [Nat.zero_add] at k2
  cases k2 with
  | cons a1 a2 a3 a4 =>
    cases a4 with
    | cons b1 b2 b3 b4 =>
      rename_i A B' X2
      refine ws_mergeAt (L := X1) (A := A) (B := B') (S := X2 ++ Y) (by rw [e]; simp) hI rfl a1 b1 rfl a2 b2 a3 b3 fun C ys g c1 c2 c3 => ?_
      refine h _ (X1 ++ (C ++ X2)) ys g (by simp; omega) (k1.join ?_) ((c1.append_right X2).trans (by rw [List.append_assoc]) |>.append_left X1) (by rw [c3]; simp)
      rw [Nat.zero_add]
      refine .cons (by rw [c1.length_eq, List.length_append, a1, b1]) (by omega) c2 ?_
      rw [← Nat.add_assoc]
      exact b4
end
section
variable {prog : Program} {w : World} {A₀ : Around} {E : Value → Shared → Prop} {s : Shared}
theorem Rn.power {pw : Nat} : ∀ {P : List (Nat × Nat × Nat)} {i s : Nat} {X : List Keyed}, Rn s P X → Rn s (P.modify i fun x => (x.1, x.2.1, pw)) X
  | [], i, s, X, h => by rw [List.modify_nil]; exact h
  | a :: P, 0, s, X, h => by
    cases h with
    | cons h1 h2 h3 h4 => exact .cons h1 h2 h3 h4
  | a :: P, i + 1, s, X, h => by
    cases h with
    | cons h1 h2 h3 h4 => exact .cons h1 h2 h3 h4.power
def Wt (xs : Array Keyed) (lo : Nat) (Z : List Keyed) (st : SortSt) : Prop := ∃ ys P X g, st = SortSt.mk' oneType' ys (List.toArray P) g none ∧ ys.Perm xs ∧ ys.toList = X ++ Z ∧ X.length = lo ∧ Rn 0 P X
def WtQ (xs : Array Keyed) (x : Nat) (r : ForInStep (Option Unit × Nat)) (st : SortSt) : Prop := match r with
  | .done c => c = (none, xs.size) ∧ ∃ Z, Wt xs xs.size Z st
  | .yield c => ∃ lo, c = (none, lo) ∧ x + 1 ≤ lo ∧ lo ≤ xs.size ∧ ∃ Z, Wt xs lo Z st
def WtF (xs : Array Keyed) (x : Nat) (r : ForInStep (Option Unit × Unit)) (st : SortSt) : Prop := match r with
  | .done c => c = (none, ()) ∧ ∃ ys P X g, st = SortSt.mk' oneType' ys (List.toArray P) g none ∧ ys.Perm xs ∧ ys.toList = X ++ [] ∧ Rn 0 P X ∧ P.length ≤ 1
  | .yield c => c = (none, ()) ∧ ∃ ys P X g, st = SortSt.mk' oneType' ys (List.toArray P) g none ∧ ys.Perm xs ∧ ys.toList = X ++ [] ∧ Rn 0 P X ∧ (P.length ≤ 1 ∨ P.length + (x + 1) ≤ xs.size)
theorem Sm.lists {lo : Nat} {ys zs : Array Keyed} {X Y : List Keyed} (sm : Sm lo ys zs) (e : ys.toList = X ++ Y) (l : X.length = lo) : zs.toList = X ++ zs.toList.drop lo := by
  have : zs.toList.take lo = X := by
    have e1 : ys.toList.take lo = X := by rw [e, ← l, List.take_left']; rfl
    rw [← e1]
    apply List.ext_getElem?
    intro i
    by_cases c : i < lo
    · rw [List.getElem?_take_of_lt c, List.getElem?_take_of_lt c, Array.getElem?_toList, Array.getElem?_toList]
      exact sm.2 i c
    · rw [List.getElem?_eq_none (by rw [List.length_take]; omega), List.getElem?_eq_none (by rw [List.length_take]; omega)]
  exact (List.take_append_drop lo zs.toList).symm.trans (by rw [this])
theorem Asc.up {zs : Array Keyed} {lo n : Nat} (as : Asc zs lo n) (h : lo + n ≤ zs.size) : Up ((zs.toList.drop lo).take n) := by
  unfold Up
  rw [List.pairwise_iff_getElem]
  intro i j hi hj hij
  rw [List.length_take, List.length_drop] at hi hj
  have hz : zs.toList.length = zs.size := rfl
  have := as i j (by omega) (by omega)
  rw [K_of (Array.getElem?_eq_getElem (by omega)), K_of (Array.getElem?_eq_getElem (by omega))] at this
  simpa using this
theorem ws_sortRuns {xs : Array Keyed} {Q : Unit → SortSt → Prop} (hI : ∀ p ∈ xs.toList, Ik p)
    (h : ∀ ys P g, ys.Perm xs → Up ys.toList → Q () (SortSt.mk' oneType' ys P g none)) : wpS (model prog w) A₀ E s sortRuns' Q (SortSt.mk' oneType' xs #[] 7 none) := by
  have hIp : ∀ {ys : Array Keyed}, ys.Perm xs → ∀ p ∈ ys.toList, Ik p := fun k p hp => hI p ((Array.perm_iff_toList_perm.mp k).mem_iff.mp hp)
  refine wpS_bind (wpS_get ?_)
  dsimp -zeta only
  extract_lets +onlyGivenNames size minrun lo
  have hsize : size = xs.size := rfl
  clear_value size minrun
  subst hsize lo
  refine wpS_bind (wpS_mono (wpS_forRange (I := fun x c st => ∃ lo, c = (none, lo) ∧ x ≤ lo ∧ lo ≤ xs.size ∧ ∃ Z, Wt xs lo Z st)
    (Q := fun c st => c = (none, xs.size) ∧ ∃ Z, Wt xs xs.size Z st) ?a ?b ?c) ?d)
  case c => exact ⟨0, rfl, Nat.le_refl _, Nat.zero_le _, xs.toList, xs, [], [], 7, rfl, .refl _, rfl, rfl, .nil⟩
  case b =>
    rintro c st ⟨lo, rfl, k1, k2, k3⟩
    have : lo = xs.size := by omega
    subst this
    exact ⟨rfl, k3⟩
  case d =>
    rintro c st ⟨rfl, Y, ys, P, X, g, rfl, k1, k2, k3, k4⟩
    have : Y = [] := by
      have := congrArg List.length k2
      rw [List.length_append, Array.length_toList, k1.size_eq] at this
      exact List.length_eq_zero_iff.mp (by omega)
    subst this
    have pl := k4.len
    dsimp only
    refine wpS_bind (wpS_mono (wpS_forRange (I := fun x c st => c = (none, ()) ∧ ∃ ys P X g, st = SortSt.mk' oneType' ys (List.toArray P) g none ∧ ys.Perm xs ∧ ys.toList = X ++ [] ∧ Rn 0 P X ∧ (P.length ≤ 1 ∨ P.length + x ≤ xs.size))
      (Q := fun c st => c = (none, ()) ∧ ∃ ys P X g, st = SortSt.mk' oneType' ys (List.toArray P) g none ∧ ys.Perm xs ∧ ys.toList = X ++ [] ∧ Rn 0 P X ∧ P.length ≤ 1) ?e ?f ?g) ?h)
    case g => exact ⟨rfl, ys, P, X, g, rfl, k1, k2, k4, .inr (by omega)⟩
    case f =>
      rintro c st ⟨rfl, ys, P, X, g, rfl, k1, k2, k3, k4⟩
      exact ⟨rfl, ys, P, X, g, rfl, k1, k2, k3, by omega⟩
    case h =>
      rintro c st ⟨rfl, ys, P, X, g, rfl, k1, k2, k3, k4⟩
      refine wpS_pure (h ys _ g k1 ?_)
      rw [k2, List.append_nil]
      exact k3.few k4
    case e =>
      rintro x c st _ hx ⟨rfl, ys, P, X, g, rfl, k1, k2, k3, k4⟩
      refine wpS_bind (wpS_get ?_)
      dsimp only
      by_cases c1 : P.toArray.size ≤ 1
      · rw [if_pos c1]
        exact wpS_pure ⟨rfl, ys, P, X, g, rfl, k1, k2, k3, c1⟩
      rw [if_neg c1]
      have c1' : ¬ P.length ≤ 1 := c1
      refine wpS_mono (Q := WtF xs x) ?_ fun r st' h => by cases r <;> exact h
      have sz : P.toArray.size = P.length := rfl
      refine wpS_bind (ws_mergeR ?_ k3 k2 (hIp k1) fun P' X' zs g' l1 l2 l3 l4 => ?_)
      · repeat' split
        all_goals omega
      · rw [if_neg (by decide)]
        refine wpS_pure ⟨rfl, zs, P', X', g', rfl, ?_, l4, l2, .inr (by omega)⟩
        refine Array.Perm.trans (Array.perm_iff_toList_perm.mpr ?_) k1
        rw [l4, k2]
        exact l3.append_right _
  case a =>
    rintro x c st _ hx ⟨lo, rfl, k1, k2, Y, ys, P, X, g, rfl, k3, k4, k5, k6⟩
    have hI' := hIp k3
    dsimp -zeta only
    by_cases c1 : lo ≥ xs.size
    · rw [if_pos c1]
      have : lo = xs.size := by omega
      subst this
      exact wpS_pure ⟨rfl, Y, ys, P, X, g, rfl, k3, k4, k5, k6⟩
    rw [if_neg c1]
    refine wpS_mono (Q := WtQ xs x) ?_ fun r st' h => by cases r <;> exact h
    have sy := k3.size_eq
    refine wpS_bind (ws_countRun hI' (by omega) (by omega) fun n zs n1 n2 sm as => ?_)
    dsimp -zeta only
    extract_lets +onlyGivenNames n' jp
    subst n'
    have key : ∀ n zs, 1 ≤ n → lo + n ≤ xs.size → Sm lo ys zs → Asc zs lo n → wpS (model prog w) A₀ E s (jp () n) (WtQ xs x) (SortSt.mk' oneType' zs P.toArray g none) := by
      intro n zs n1 n2 sm as
      dsimp -zeta only [jp]
      clear jp
      refine wpS_bind (wpS_get ?_)
      have sz := sm.size
      have up := as.up (by omega)
      have ez := sm.lists k4 k5
      have lA : ((zs.toList.drop lo).take n).length = n := by
        rw [List.length_take, List.length_drop, Array.length_toList]
        omega
      rw [← List.take_append_drop n (zs.toList.drop lo)] at ez
      generalize (zs.toList.drop lo).take n = A at ez up lA
      generalize (zs.toList.drop lo).drop n = Z at ez
      extract_lets +onlyGivenNames lo' jp
      subst lo'
      have key : ∀ us P X g, Array.Perm us xs → us.toList = X ++ (A ++ Z) → X.length = lo → Rn 0 P X → wpS (model prog w) A₀ E s (jp ()) (WtQ xs x) (SortSt.mk' oneType' us (List.toArray P) g none) := by
        intro us P X g l1 l2 l3 l4
        dsimp -zeta only [jp]
        refine wpS_bind (wpS_modify (wpS_pure ⟨lo + n, rfl, by omega, by omega, Z, us, P ++ [(lo, n, 0)], X ++ A, g, ?_, l1, by rw [l2]; simp, by rw [List.length_append]; omega, ?_⟩))
        · show SortSt.mk' _ _ (P.toArray.push (lo, n, 0)) _ _ = _
          rw [List.push_toArray]
        · refine l4.join ?_
          rw [Nat.zero_add, l3]
          have := Rn.cons (p := 0) lA n1 up (Rn.nil (s := lo + n))
          rw [List.append_nil] at this
          exact this
      have z1 : Array.Perm zs xs := sm.1.trans k3
      clear_value jp
      dsimp -zeta only
      split
      · rename_i s1 n1' _ _
        extract_lets +onlyGivenNames pw
        clear_value pw
        refine wpS_bind (wpS_mono (wpS_forRange (I := fun x c st => c = (none, ()) ∧ Wt xs lo (A ++ Z) st) (Q := fun c st => c = (none, ()) ∧ Wt xs lo (A ++ Z) st) ?e ?f ?g) ?h)
        case g => exact ⟨rfl, zs, P, X, g, rfl, z1, ez, k5, k6⟩
        case f => exact fun _ _ z => z
        case h =>
          rintro c st ⟨rfl, us, P, X, g, rfl, l1, l2, l3, l4⟩
          dsimp only
          refine wpS_bind (wpS_modify ?_)
          have := key us (P.modify (P.length - 1) fun x => (x.1, x.2.1, pw)) X g l1 l2 l3 l4.power
          rw [← List.modify_toArray] at this
          exact this
        case e =>
          rintro y c st _ hy ⟨rfl, us, P, X, g, rfl, l1, l2, l3, l4⟩
          refine wpS_bind (wpS_get ?_)
          dsimp only
          split
          · rename_i o1 o2 older oe
            by_cases c2 : older ≤ pw
            · rw [if_pos c2]
              exact wpS_pure ⟨rfl, us, P, X, g, rfl, l1, l2, l3, l4⟩
            · rw [if_neg c2]
              have hi : P.toArray.size - 2 + 1 < P.length := by
                have sz : P.toArray.size = P.length := rfl
                by_cases c3 : P.toArray.size > 1
                · omega
                · rw [if_neg c3] at oe
                  cases oe
              refine wpS_bind (ws_mergeR hi l4 l2 (hIp l1) fun P' X' zs g' q1 q2 q3 q4 => ?_)
              rw [if_neg (by decide)]
              refine wpS_pure ⟨rfl, zs, P', X', g', rfl, Array.Perm.trans (Array.perm_iff_toList_perm.mpr ?_) l1, q4, by rw [q3.length_eq]; exact l3, q2⟩
              rw [q4, l2]
              exact q3.append_right _
          · exact wpS_pure ⟨rfl, us, P, X, g, rfl, l1, l2, l3, l4⟩
      · exact key zs P X g z1 ez k5 k6
    by_cases c2 : n < minrun
    · rw [if_pos c2]
      have sz := sm.size
      refine wpS_bind (wpS_lift (wpAny_rule ⟨rfl, ?_⟩))
      refine wpS_bind (ws_bin (sm.ik hI') (by omega) (by omega) as fun us sm2 as2 => ?_)
      rw [if_neg (by decide)]
      exact key _ us (by omega) (by omega) (sm.trans sm2) as2
    · rw [if_neg c2]
      exact key n zs n1 (by omega) sm as
end
section
variable {prog : Program} {w : World} {A : Around} {E : Value → Shared → Prop} {s : Shared}
theorem up_to {xs : Array Keyed} (h : Up xs.toList) : SortedTo xs xs.size := fun _ _ h1 h2 => up_K h h1 h2
theorem lsort_long {a : Addr} {vs : List Value} {ns : List Int} {n : Nat} {P : PySem.Fin → Shared → Prop} (ho : s.heap.get? a = some (seqObj "list" vs.toArray n)) (hI : IntsAre vs ns) (h2 : 2 ≤ vs.length) (hz : vs.length ≤ sizeLine)
    (k : ∀ (out : Array Value) (ms : List Int), IntsAre out.toList ms → ms.Perm ns → ms.Pairwise (· ≤ ·) → P (.done (.ret .none)) { s with heap := sortedHeap s.heap a vs out }) : wpAny (model prog w) A (Builtin.«list.sort» ⟨[.ref a], []⟩) P E s := by
  rw [list_sort_plain]
  have lt : a < s.heap.objs.size := Heap.lt_size ho
  have z : vs.toArray.size = vs.length := List.size_toArray
  refine wpAny_bind (listItems_at ho rfl (wpAny_bind (listUpdate_at ho rfl ?_ (by rw [z]; exact hz) (Nat.zero_le _))))
  obtain ⟨e, o1⟩ : ∃ e, (s.heap.update a (Obj.mapSeq fun _ => #[])).get? a = some (seqObj "list" #[] e) := ⟨_, get?_update_seq ho (fun _ => #[])⟩
  refine wpAny_bind (seqEpoch_at o1 rfl (wpAny_bind (wpAny_newTuple ?_ hz)))
  refine wpAny_bind (wpAny_newList ?_ (Nat.zero_le _))
  refine wpAny_holding ?_
  have o6 : (((s.heap.update a (Obj.mapSeq fun _ => #[])).push (seqObj "tuple" vs.toArray 0)).push (seqObj "list" #[] 0)).get? a = some (seqObj "list" #[] e) := by
    rw [Heap.get?_push_ne, Heap.get?_push_ne]
    · exact o1
    · rw [Heap.size_update]; exact Nat.ne_of_lt lt
    · rw [size_push', Heap.size_update]; exact Nat.ne_of_lt (Nat.lt_succ_of_lt lt)
  show wpAny (model prog w) A _ P E { s with heap := ((s.heap.update a (Obj.mapSeq fun _ => #[])).push (seqObj "tuple" vs.toArray 0)).push (seqObj "list" #[] 0) }
  have c2 : ¬ vs.toArray.size < 2 := by omega
  obtain ⟨x, y, r, rfl⟩ : ∃ x y r, vs = x :: y :: r := by
    match vs, h2 with
    | x :: y :: r, _ => exact ⟨x, y, r, rfl⟩
  rw [if_neg c2, if_neg c2, keyKind_ints hI]
  refine wpAny_bind (wpAny_pure ?_)
  refine wpAny_bind (wpAny_mono (ws_sortRuns (xs := pairsOf (x :: y :: r)) (Q := fun _ st => ∃ ys Pd g, st = SortSt.mk' oneType' ys Pd g none ∧ ys.Perm (pairsOf (x :: y :: r)) ∧ Up ys.toList) (fun p hp => hI.intKeys p hp) fun ys Pd g p u => ⟨ys, Pd, g, rfl, p, u⟩) ?_ fun _ _ e => e)
  rintro ⟨⟨⟩, st⟩ s' ⟨rfl, ys, Pd, g, rfl, pm, up⟩
  obtain ⟨ms, q1, q2, q3⟩ := sorted_out hI pm (by rw [← pm.size_eq]; exact up_to up)
  dsimp only
  refine wpAny_bind (seqEpoch_at o6 rfl ?_)
  refine wpAny_bind (listUpdate_at o6 rfl ?_ (Nat.zero_le _) (by rw [Array.size_map, pm.size_eq, pairsOf_size]; omega))
  simp only [bne_self_eq_false, Bool.false_eq_true, if_false]
  exact wpAny_pure (k _ ms q1 q2 q3)
theorem sorted_long {l : Addr} {vs : List Value} {ns : List Int} {Q : Value → Shared → Prop} (hl : s.heap.IsList l vs.toArray) (hI : IntsAre vs ns) (h2 : 2 ≤ vs.length) (hz : vs.length ≤ sizeLine)
    (k : ∀ (out : Array Value) (ms : List Int), IntsAre out.toList ms → ms.Perm ns → ms.Pairwise (· ≤ ·) → Q (.ref (s.heap.objs.size + 1)) { s with heap := sortedAll s.heap vs out }) : wpAny (model prog w) A (call (.builtin "sorted") [.ref l]) Q E s := by
  refine Calls.call_function_entry kind_sorted plain_sorted entry_sorted (args_sorted1 _) ?_
  unfold Builtin.«sorted»
  refine wpAny_bind (m := checkCount "sorted" 1 1 _) (wpAny_pure (wpAny_bind (collect_list hl ?_ hz)))
  refine wpAny_bind (wpAny_newList ?_ hz)
  have z : ((s.heap.push (seqObj "list" #[] 0)).update s.heap.objs.size (Obj.mapSeq (· ++ vs.toArray))).objs.size = s.heap.objs.size + 1 := by rw [Heap.size_update, size_push']
  have o : (((s.heap.push (seqObj "list" #[] 0)).update s.heap.objs.size (Obj.mapSeq (· ++ vs.toArray))).push (seqObj "list" vs.toArray 0)).get? (s.heap.objs.size + 1) = some (seqObj "list" vs.toArray 0) := by
    rw [← z]
    exact Heap.get?_push_size _ rfl
  show wpAny _ _ _ _ _ { s with heap := ((s.heap.push (seqObj "list" #[] 0)).update s.heap.objs.size (Obj.mapSeq (· ++ vs.toArray))).push (seqObj "list" vs.toArray 0) }
  rw [z]
  refine wpAny_bind (wpAny_holding (wpAny_call_entry slot_list_sort ⟨_, o, rfl⟩ entry_list_sort (lsort_long o hI h2 hz fun out ms a1 a2 a3 => ⟨_, rfl, ?_⟩) (args_list_sort _)))
  exact wpAny_pure ⟨_, rfl, k out ms a1 a2 a3⟩
theorem sorted_all {l : Addr} {vs : List Value} {ns : List Int} {Q : Value → Shared → Prop} (hl : s.heap.IsList l vs.toArray) (hI : IntsAre vs ns) (hz : vs.length ≤ sizeLine)
    (k : ∀ (out : Array Value) (ms : List Int), IntsAre out.toList ms → ms.Perm ns → ms.Pairwise (· ≤ ·) → Q (.ref (s.heap.objs.size + 1)) { s with heap := sortedAll s.heap vs out }) : wpAny (model prog w) A (call (.builtin "sorted") [.ref l]) Q E s := by
  by_cases c : 2 ≤ vs.length
  · exact sorted_long hl hI c hz k
  · exact sorted_ints hl hI (by omega) k
end
end JL
namespace J
open PySem PySem.Spec PyProof.Rows L2
section
variable {X : Cx}
def intsOf : List Wv → Option (List Int)
  | [] => some []
  | .int b :: r => (match intsOf r with | some l => some (b :: l) | none => none)
  | _ => none
theorem intsOf_map : ∀ ns : List Int, intsOf (ns.map Wv.int) = some ns
  | [] => rfl
  | n :: r => by rw [List.map_cons]; unfold intsOf; rw [intsOf_map r]
theorem intsOf_rel {K : PySem.W.Frag} {m : Mp} {H : Hp} : ∀ {ws : List Wv} {xs : List V} {bs : List Int}, RelWs K m H ws xs → intsOf ws = some bs → xs = bs.map V.int
  | [], xs, bs, r, h => by
    unfold RelWs at r
    cases h
    exact r
  | w :: ws, xs, bs, r, h => by
    unfold RelWs at r
    obtain ⟨x, t, rfl, r1, r2⟩ := r
    cases w with
    | int b =>
      unfold intsOf at h
      cases e : intsOf ws with
      | none => rw [e] at h; cases h
      | some l =>
        rw [e] at h
        cases h
        unfold RelW at r1
        rw [r1, intsOf_rel r2 e]
        rfl
    | _ => cases h
theorem vals_int : ∀ {ns : List Int} {its : List Value}, Vals (ns.map V.int) its → ∃ xs : List (Int × Tok), its = xs.map (fun p => Value.int p.1 p.2) ∧ xs.map (·.1) = ns
  | [], its, r => by cases r; exact ⟨[], rfl, rfl⟩
  | n :: ns, its, r => by
    cases r with
    | cons h t =>
      obtain ⟨tk, rfl⟩ := h
      obtain ⟨xs, e1, e2⟩ := vals_int t
      exact ⟨(n, tk) :: xs, by rw [e1]; rfl, by rw [← e2]; rfl⟩
theorem intsAre_of : ∀ xs : List (Int × Tok), IntsAre (xs.map fun p => Value.int p.1 p.2) (xs.map (·.1))
  | [] => .nil
  | p :: r => .cons p.1 p.2 (intsAre_of r)
theorem vals_of_are : ∀ {vs : List Value} {ns : List Int}, IntsAre vs ns → Vals (ns.map V.int) vs
  | _, _, .nil => .nil
  | _, _, .cons n t r => .cons ⟨t, rfl⟩ (vals_of_are r)
theorem numAt_map (xs : List (Int × Tok)) (i : Nat) : numAt xs.toArray i = (xs.map (·.1)).getD i 0 := by
  unfold numAt
  rw [List.getElem?_toArray, List.getD_eq_getElem?_getD, List.getElem?_map]
theorem preSum_map (xs : List (Int × Tok)) : ∀ k, preSum (numAt xs.toArray) k = ((xs.map (·.1)).take k).sum
  | 0 => by simp [preSum]
  | k + 1 => by
    unfold preSum
    rw [preSum_map xs k, numAt_map]
    rw [PySem.sum_take_succ]
theorem call_sumI (hc : X.calm = true) : CallR X (.builtin "sum") (fun xs H Q => ∃ (p : Addr) (ns : List Int), xs = [.ref p] ∧ SqL X.K H p (ns.map V.int) ∧ Q (.int ns.sum) H) := by
  intro pins s σ H xs us Q I r h
  obtain ⟨p, ns, rfl, hq, q⟩ := h
  obtain ⟨u, rfl, rx⟩ := vals1 r
  cases rx
  obtain ⟨its, r', pl, hz⟩ := I.list hq
  obtain ⟨xs, rfl, rfl⟩ := vals_int r'
  have hl := pl.isList
  have e : (xs.map fun p => Value.int p.1 p.2).toArray = intItems xs.toArray := by unfold intItems; simp
  rw [e] at hl
  refine sum_intListG (I.ok.hd hc) hl fun h' tk t' hk => ⟨.int _, H, I.kept hk, ⟨t', ?_⟩, q⟩
  rw [preSum_map, List.take_of_length_le (by simp)]
def oSum : List Wv → Hs → Re Wv
  | [.ref l], st => match lstOf st l with
    | some ws => (match intsOf ws with | some ns => .ok (.int ns.sum) st | none => .bad)
    | none => .bad
  | _, _ => .bad
theorem cw_sum (hc : X.calm = true) : CallW X (.builtin "sum") oSum := ⟨_, call_sumI hc, fun ws vs st H m Q S rs p => by
  match ws, rs, p with
  | [], rs, p => exact False.elim p
  | x :: y :: t, rs, p => cases x <;> exact False.elim p
  | [x], rs, p =>
    obtain ⟨v, rfl, r1⟩ := rel1 rs
    cases x with
    | ref l =>
      unfold oSum at p
      unfold RelW at r1
      obtain ⟨a, rfl, hl⟩ := r1
      cases e : lstOf st l with
      | none => simp only [e] at p; exact False.elim p
      | some ws =>
        simp only [e] at p
        cases e2 : intsOf ws with
        | none => simp only [e2] at p; exact False.elim p
        | some bs =>
          simp only [e2] at p
          obtain ⟨xs, q1, q2⟩ := S.read hl e
          have q3 := intsOf_rel q2 e2
          subst q3
          exact ⟨a, bs, rfl, q1, p _ m H Ext.refl S mkInt⟩
    | _ => exact False.elim p⟩
def mxI (n : Int) (r : List Int) : Int := r.foldl (fun a b => if b > a then b else a) n
def mnI (n : Int) (r : List Int) : Int := r.foldl (fun a b => if b < a then b else a) n
theorem mxI_is : ∀ (r : List Int) (n : Int), mxI n r ∈ n :: r ∧ ∀ a ∈ n :: r, a ≤ mxI n r
  | [], n => by simp [mxI]
  | b :: r, n => by
    have e : mxI n (b :: r) = mxI (if b > n then b else n) r := rfl
    obtain ⟨h1, h2⟩ := mxI_is r (if b > n then b else n)
    rw [e]
    constructor
    · rcases List.mem_cons.mp h1 with z | z
      · rw [z]; split <;> simp
      · simp [z]
    · intro a ha
      have hn : n ≤ mxI (if b > n then b else n) r ∧ b ≤ mxI (if b > n then b else n) r := by
        have q := h2 _ List.mem_cons_self
        revert q
        split <;> intro q <;> constructor <;> omega
      rcases List.mem_cons.mp ha with z | z
      · rw [z]; exact hn.1
      · rcases List.mem_cons.mp z with z | z
        · rw [z]; exact hn.2
        · exact h2 a (List.mem_cons_of_mem _ z)
theorem mnI_is : ∀ (r : List Int) (n : Int), mnI n r ∈ n :: r ∧ ∀ a ∈ n :: r, mnI n r ≤ a
  | [], n => by simp [mnI]
  | b :: r, n => by
    have e : mnI n (b :: r) = mnI (if b < n then b else n) r := rfl
    obtain ⟨h1, h2⟩ := mnI_is r (if b < n then b else n)
    rw [e]
    constructor
    · rcases List.mem_cons.mp h1 with z | z
      · rw [z]; split <;> simp
      · simp [z]
    · intro a ha
      have hn : mnI (if b < n then b else n) r ≤ n ∧ mnI (if b < n then b else n) r ≤ b := by
        have q := h2 _ List.mem_cons_self
        revert q
        split <;> intro q <;> constructor <;> omega
      rcases List.mem_cons.mp ha with z | z
      · rw [z]; exact hn.1
      · rcases List.mem_cons.mp z with z | z
        · rw [z]; exact hn.2
        · exact h2 a (List.mem_cons_of_mem _ z)
theorem mx_eq {n M : Int} {r : List Int} (h : M ∈ n :: r) (k : ∀ a ∈ n :: r, a ≤ M) : M = mxI n r := by
  obtain ⟨h1, h2⟩ := mxI_is r n
  have := h2 M h
  have := k _ h1
  omega
theorem mn_eq {n M : Int} {r : List Int} (h : M ∈ n :: r) (k : ∀ a ∈ n :: r, M ≤ a) : M = mnI n r := by
  obtain ⟨h1, h2⟩ := mnI_is r n
  have := h2 M h
  have := k _ h1
  omega
theorem getD_memJ {l : List Int} {i : Nat} (h : i < l.length) : l.getD i 0 ∈ l := by
  rw [List.getD_eq_getElem?_getD, List.getElem?_eq_getElem h]
  exact List.getElem_mem h
theorem call_maxL (hc : X.calm = true) : CallR X (.builtin "max") (fun xs H Q => ∃ (p : Addr) (n : Int) (ns : List Int), xs = [.ref p] ∧ SqL X.K H p ((n :: ns).map V.int) ∧ Q (.int (mxI n ns)) H) := by
  intro pins s σ H xs us Q I r h
  obtain ⟨p, n, ns, rfl, hq, q⟩ := h
  obtain ⟨u, rfl, rx⟩ := vals1 r
  cases rx
  obtain ⟨its, r', pl, hz⟩ := I.list hq
  obtain ⟨xs, rfl, e0⟩ := vals_int r'
  have hl := pl.isList
  have e : (xs.map fun p => Value.int p.1 p.2).toArray = intItems xs.toArray := by unfold intItems; simp
  rw [e] at hl
  have hsz : xs.length = (n :: ns).length := by rw [← e0]; simp
  have hs0 : 0 < xs.toArray.size := by simp [hsz]
  refine max_intList (I.ok.hd hc) hl hs0 fun v h' tk hv hk => ?_
  obtain ⟨t, rfl⟩ := intItems_at hv
  obtain ⟨h1, h2⟩ := PySem.argBest_gt (numAt xs.toArray) (xs.toArray.size - 1)
  refine ⟨.int _, H, I.kept hk, ⟨t, ?_⟩, q⟩
  congr 1
  have hn := fun i => numAt_map xs i
  rw [e0] at hn
  refine mx_eq ?_ fun a ha => ?_
  · rw [hn]
    refine getD_memJ ?_
    have : xs.toArray.size = (n :: ns).length := by simp [hsz]
    omega
  · obtain ⟨j, hj, rfl⟩ := List.mem_iff_getElem.mp ha
    have q2 := h2 j (by have : xs.toArray.size = (n :: ns).length := by simp [hsz]
                        omega)
    rw [hn j, List.getD_eq_getElem?_getD, List.getElem?_eq_getElem hj] at q2
    exact q2
theorem call_minL (hc : X.calm = true) : CallR X (.builtin "min") (fun xs H Q => ∃ (p : Addr) (n : Int) (ns : List Int), xs = [.ref p] ∧ SqL X.K H p ((n :: ns).map V.int) ∧ Q (.int (mnI n ns)) H) := by
  intro pins s σ H xs us Q I r h
  obtain ⟨p, n, ns, rfl, hq, q⟩ := h
  obtain ⟨u, rfl, rx⟩ := vals1 r
  cases rx
  obtain ⟨its, r', pl, hz⟩ := I.list hq
  obtain ⟨xs, rfl, e0⟩ := vals_int r'
  have hl := pl.isList
  have e : (xs.map fun p => Value.int p.1 p.2).toArray = intItems xs.toArray := by unfold intItems; simp
  rw [e] at hl
  have hsz : xs.length = (n :: ns).length := by rw [← e0]; simp
  have hs0 : 0 < xs.toArray.size := by simp [hsz]
  refine min_intList (I.ok.hd hc) hl hs0 fun v h' tk hv hk => ?_
  obtain ⟨t, rfl⟩ := intItems_at hv
  obtain ⟨h1, h2⟩ := PySem.argBest_lt (numAt xs.toArray) (xs.toArray.size - 1)
  refine ⟨.int _, H, I.kept hk, ⟨t, ?_⟩, q⟩
  congr 1
  have hn := fun i => numAt_map xs i
  rw [e0] at hn
  refine mn_eq ?_ fun a ha => ?_
  · rw [hn]
    refine getD_memJ ?_
    have : xs.toArray.size = (n :: ns).length := by simp [hsz]
    omega
  · obtain ⟨j, hj, rfl⟩ := List.mem_iff_getElem.mp ha
    have q2 := h2 j (by have : xs.toArray.size = (n :: ns).length := by simp [hsz]
                        omega)
    rw [hn j, List.getD_eq_getElem?_getD, List.getElem?_eq_getElem hj] at q2
    exact q2
def oMax2 : List Wv → Hs → Re Wv
  | [.ref l], st => match lstOf st l with
    | some ws => (match intsOf ws with | some (n :: r) => .ok (.int (mxI n r)) st | _ => .bad)
    | none => .bad
  | ws, st => oMax ws st
def oMin2 : List Wv → Hs → Re Wv
  | [.ref l], st => match lstOf st l with
    | some ws => (match intsOf ws with | some (n :: r) => .ok (.int (mnI n r)) st | _ => .bad)
    | none => .bad
  | ws, st => oMin ws st
theorem CallW.or {f : Value} {op op' : List Wv → Hs → Re Wv} (g : List Wv → Hs → Re Wv) (h : CallW X f op) (h' : CallW X f op') (k : ∀ ws st, g ws st = op ws st ∨ g ws st = op' ws st) : CallW X f g := by
  obtain ⟨r, h1, h2⟩ := h
  obtain ⟨r', h1', h2'⟩ := h'
  refine ⟨_, h1.or h1', fun ws vs st H m Q S rs p => ?_⟩
  rcases k ws st with e | e
  · rw [e] at p; exact .inl (h2 ws vs st H m Q S rs p)
  · rw [e] at p; exact .inr (h2' ws vs st H m Q S rs p)
def oMaxL : List Wv → Hs → Re Wv
  | [.ref l], st => match lstOf st l with
    | some ws => (match intsOf ws with | some (n :: r) => .ok (.int (mxI n r)) st | _ => .bad)
    | none => .bad
  | _, _ => .bad
def oMinL : List Wv → Hs → Re Wv
  | [.ref l], st => match lstOf st l with
    | some ws => (match intsOf ws with | some (n :: r) => .ok (.int (mnI n r)) st | _ => .bad)
    | none => .bad
  | _, _ => .bad
theorem cw_maxL (hc : X.calm = true) : CallW X (.builtin "max") oMaxL := ⟨_, call_maxL hc, fun ws vs st H m Q S rs p => by
  match ws, rs, p with
  | [], rs, p => exact False.elim p
  | x :: y :: t, rs, p => cases x <;> exact False.elim p
  | [x], rs, p =>
    obtain ⟨v, rfl, r1⟩ := rel1 rs
    cases x with
    | ref l =>
      unfold oMaxL at p
      unfold RelW at r1
      obtain ⟨a, rfl, hl⟩ := r1
      cases e : lstOf st l with
      | none => simp only [e] at p; exact False.elim p
      | some ws =>
        simp only [e] at p
        cases e2 : intsOf ws with
        | none => simp only [e2] at p; exact False.elim p
        | some bs =>
          cases bs with
          | nil => simp only [e2] at p; exact False.elim p
          | cons n bs =>
            simp only [e2] at p
            obtain ⟨xs, q1, q2⟩ := S.read hl e
            have q3 := intsOf_rel q2 e2
            subst q3
            exact ⟨a, n, bs, rfl, q1, p _ m H Ext.refl S mkInt⟩
    | _ => exact False.elim p⟩
theorem cw_minL (hc : X.calm = true) : CallW X (.builtin "min") oMinL := ⟨_, call_minL hc, fun ws vs st H m Q S rs p => by
  match ws, rs, p with
  | [], rs, p => exact False.elim p
  | x :: y :: t, rs, p => cases x <;> exact False.elim p
  | [x], rs, p =>
    obtain ⟨v, rfl, r1⟩ := rel1 rs
    cases x with
    | ref l =>
      unfold oMinL at p
      unfold RelW at r1
      obtain ⟨a, rfl, hl⟩ := r1
      cases e : lstOf st l with
      | none => simp only [e] at p; exact False.elim p
      | some ws =>
        simp only [e] at p
        cases e2 : intsOf ws with
        | none => simp only [e2] at p; exact False.elim p
        | some bs =>
          cases bs with
          | nil => simp only [e2] at p; exact False.elim p
          | cons n bs =>
            simp only [e2] at p
            obtain ⟨xs, q1, q2⟩ := S.read hl e
            have q3 := intsOf_rel q2 e2
            subst q3
            exact ⟨a, n, bs, rfl, q1, p _ m H Ext.refl S mkInt⟩
    | _ => exact False.elim p⟩
theorem cw_max2 (hc : X.calm = true) : CallW X (.builtin "max") oMax2 := CallW.or oMax2 (cw_maxL hc) (cw_max hc) fun ws st => by
  unfold oMax2 oMaxL
  split
  · exact .inl rfl
  · exact .inr rfl
theorem cw_min2 (hc : X.calm = true) : CallW X (.builtin "min") oMin2 := CallW.or oMin2 (cw_minL hc) (cw_min hc) fun ws st => by
  unfold oMin2 oMinL
  split
  · exact .inl rfl
  · exact .inr rfl
def insI (n : Int) : List Int → List Int
  | [] => [n]
  | a :: r => if n ≤ a then n :: a :: r else a :: insI n r
def srtI : List Int → List Int
  | [] => []
  | a :: r => insI a (srtI r)
theorem insI_perm (n : Int) : ∀ l : List Int, (insI n l).Perm (n :: l)
  | [] => .refl _
  | a :: r => by
    unfold insI
    split
    · exact .refl _
    · exact ((insI_perm n r).cons a).trans (.swap n a r)
theorem srtI_perm : ∀ l : List Int, (srtI l).Perm l
  | [] => .nil
  | a :: r => (insI_perm a (srtI r)).trans ((srtI_perm r).cons a)
theorem insI_srt (n : Int) : ∀ l : List Int, l.Pairwise (· ≤ ·) → (insI n l).Pairwise (· ≤ ·)
  | [], _ => by simp [insI]
  | a :: r, h => by
    unfold insI
    rw [List.pairwise_cons] at h
    split
    · rename_i c
      rw [List.pairwise_cons, List.pairwise_cons]
      refine ⟨fun b hb => ?_, h⟩
      rcases List.mem_cons.mp hb with z | z
      · rw [z]; exact c
      · have := h.1 b z; omega
    · rename_i c
      rw [List.pairwise_cons]
      refine ⟨fun b hb => ?_, insI_srt n r h.2⟩
      rcases List.mem_cons.mp ((insI_perm n r).mem_iff.mp hb) with z | z
      · rw [z]; omega
      · exact h.1 b z
theorem srtI_srt : ∀ l : List Int, (srtI l).Pairwise (· ≤ ·)
  | [] => .nil
  | a :: r => insI_srt a _ (srtI_srt r)
theorem srt_one {a b : List Int} (h : a.Perm b) (ha : a.Pairwise (· ≤ ·)) (hb : b.Pairwise (· ≤ ·)) : a = b :=
  List.Perm.eq_of_pairwise (fun _ _ _ _ h1 h2 => by omega) ha hb h
theorem call_srtI : CallR X (.builtin "sorted") (fun xs H Q => ∃ (p : Addr) (ns : List Int), xs = [.ref p] ∧ SqL X.K H p (ns.map V.int) ∧ ns.length ≤ sizeLine ∧ ∀ l, H l = none → Q (.ref l) (upd H l (.lst ((srtI ns).map V.int)))) := by
  intro pins s σ H xs us Q I r h
  obtain ⟨p, ns, rfl, hq, h64, q⟩ := h
  obtain ⟨u, rfl, rx⟩ := vals1 r
  cases rx
  obtain ⟨its, r', pl, hz⟩ := I.list hq
  have hlen := r'.length
  obtain ⟨xs, rfl, rfl⟩ := vals_int r'
  refine JL.sorted_all pl.isList (intsAre_of xs) (by simpa using h64) fun out ns' a1 a2 a3 => ?_
  have e : ns' = srtI (xs.map (·.1)) := srt_one (a2.trans (srtI_perm _).symm) a3 (srtI_srt _)
  subst e
  obtain ⟨n, hat⟩ := sortedAll_at s.heap (xs.map fun p => Value.int p.1 p.2) out
  have hz' : ((srtI (xs.map (·.1))).map V.int).length ≤ sizeLine := by
    rw [List.length_map, (srtI_perm _).length_eq]
    simpa using hz
  refine ⟨.ref (s.heap.objs.size + 1), _, I.laid (t' := s.toks) (fun _ _ => sortedAll_old) (Nat.le_succ _) (show ObjOk X.prog X.w _ _ _ (.lst _) from ⟨hz', out.toList, n, vals_of_are a1, ?_⟩), rfl, q _ (I.hok.fresh (Nat.le_succ _))⟩
  rw [hat]
def oSrt : List Wv → Hs → Re Wv
  | [.ref l], st => match lstOf st l with
    | some ws => (match intsOf ws with | some ns => if ns.length < 4096 then .ok (.ref st.length) (st ++ [.lst ((srtI ns).map Wv.int)]) else .bad | none => .bad)
    | none => .bad
  | _, _ => .bad
theorem cw_srt : CallW X (.builtin "sorted") oSrt := ⟨_, call_srtI, fun ws vs st H m Q S rs p => by
  match ws, rs, p with
  | [], rs, p => exact False.elim p
  | x :: y :: t, rs, p => cases x <;> exact False.elim p
  | [x], rs, p =>
    obtain ⟨v, rfl, r1⟩ := rel1 rs
    cases x with
    | ref l =>
      unfold oSrt at p
      unfold RelW at r1
      obtain ⟨a, rfl, hl⟩ := r1
      cases e : lstOf st l with
      | none => simp only [e] at p; exact False.elim p
      | some ws =>
        simp only [e] at p
        cases e2 : intsOf ws with
        | none => simp only [e2] at p; exact False.elim p
        | some bs =>
          simp only [e2] at p
          by_cases c : bs.length < 4096
          · rw [if_pos c] at p
            obtain ⟨xs, q1, q2⟩ := S.read hl e
            have q3 := intsOf_rel q2 e2
            subst q3
            exact ⟨a, bs, rfl, q1, Nat.le_trans (Nat.le_of_lt c) (by rw [sizeLine_eq]; decide), fun q hq => new_list p Ext.refl S (RelWs.ints _) q hq⟩
          · rw [if_neg c] at p; exact False.elim p
    | _ => exact False.elim p⟩
end
end J
namespace J
open PySem PySem.Spec PyProof.Rows L2
section
variable {X : Cx}
theorem strOk_iff {z : PySem.Str} : PyData.strOk z = true ↔ ∀ c ∈ z.cps.toList, c < 1114112 := by
  unfold PyData.strOk
  rw [Array.all_eq_true_iff_forall_mem]
  constructor
  · intro h c hc
    simpa using h c (Array.mem_toList_iff.mp hc)
  · intro h c hc
    simpa using h c (Array.mem_toList_iff.mpr hc)
end
end J
namespace J
open PySem PySem.Spec PyProof.Rows L2
section
variable {X : Cx}
theorem sl_str : SlR X (fun x lo hi H Q => ∃ z, x = .str z ∧ z.length ≤ sizeLine ∧ Q (.str (Txt.slice z lo hi)) H) := by
  intro pins s σ H x v vl vu lo hi sl Q I rx hs pl pu h
  obtain ⟨z, rfl, hz, q⟩ := h
  obtain ⟨t, rfl⟩ := rx
  have fin : ∀ t' k, EP X pins σ Q (.str (Txt.slice z lo hi) t') { s with toks := k } := fun t' k => ⟨.str _, H, I.tok k, ⟨t', rfl⟩, q⟩
  refine ⟨"str", _, PySem.F.slot_str_getitem.lookup, typeIs_str _ _ _, ?_⟩
  have hl := Nat.le_trans (Txt.slice_le z lo hi) hz
  cases pl with
  | none =>
    cases pu with
    | none => exact wpAny_getItem_str_slice (l := none) (u := none) (st := none) hs rfl (post_val_or_str ⟨hl, fin⟩)
    | int j tj => exact wpAny_getItem_str_slice (l := none) (u := some (j, tj)) (st := none) hs rfl (post_val_or_str ⟨hl, fin⟩)
  | int i ti =>
    cases pu with
    | none => exact wpAny_getItem_str_slice (l := some (i, ti)) (u := none) (st := none) hs rfl (post_val_or_str ⟨hl, fin⟩)
    | int j tj => exact wpAny_getItem_str_slice (l := some (i, ti)) (u := some (j, tj)) (st := none) hs rfl (post_val_or_str ⟨hl, fin⟩)
theorem mem_slice {z : PySem.Str} {lo hi : Option Int} {c : Nat} (h : c ∈ (Txt.slice z lo hi).cps.toList) : c ∈ z.cps.toList := by
  unfold Txt.slice at h
  split at h
  · exact h
  · simp only [List.mem_filterMap] at h
    obtain ⟨i, _, e⟩ := h
    rw [Array.getElem?_eq_some_iff] at e
    obtain ⟨hi, rfl⟩ := e
    exact Array.mem_toList_iff.mpr (Array.getElem_mem hi)
theorem strOk_slice {z : PySem.Str} {lo hi : Option Int} (h : PyData.strOk z = true) : PyData.strOk (Txt.slice z lo hi) = true := by
  rw [strOk_iff] at h ⊢
  exact fun c hc => h c (mem_slice hc)
end
section
open HT
theorem getItem_whole {prog : Program} {w : World} {A : Around} {E : Value → Shared → Prop} {s : Shared} {t sl : Addr} {us : Array Value} {vl vu : Value} {lo hi : Option Int} {Q : Value → Shared → Prop} (ht : IsTup s.heap t us) (hs : s.heap.IsSliceOf sl vl vu .none) (pl : IsPart vl lo) (pu : IsPart vu hi)
    (hw : sIx us.size 0 lo = 0 ∧ sIx us.size us.size hi = us.size) (h : Q (.ref t) s) : wpAny (model prog w) A (getItem (.ref t) (.ref sl)) Q E s := by
  obtain ⟨os, o1, o2, o3⟩ := id hs
  have tys : s.TypeIs (.ref sl) "slice" := ⟨os, o1, o2⟩
  unfold getItem; try with_reducible refine wpAny_holding ?_
  first | refine wpAny_bind (wpAny_pure ?_) | skip
  refine wpAny_bind (wpAny_sequenceKey ht.typeIs (by decide) ?_); refine wpAny_bind (wpAny_callSpecial?_slot (name := Str.ofString "__getitem__") ht.typeIs PyProof.Rows.slot_tuple_getitem (wpAny_call_entry PyProof.Rows.slot_tuple_getitem ht.typeIs entry_tuple_getitem ?_ (args_tuple_getitem _ _)))
  show wpAny _ _ (Builtin.Tuple.tupleItemsOf (.ref t) >>= _) _ _ _; refine wpAny_bind (tupleItemsOf_ ht ?_); refine wpAny_bind (wpAny_typeOf tys ?_)
  rw [if_pos (by decide)]; refine wpAny_bind (sliceApplied_gen hs pl pu ?_)
  rw [hw.1, hw.2]
  have yes : ((((0 : Nat) : Int)) == 0 && (1 : Int) == 1 && (us.size - 0) == us.size) = true := by simp
  show wpAny _ _ (if ((((0 : Nat) : Int)) == 0 && (1 : Int) == 1 && (us.size - 0) == us.size) = true then _ else _) _ _ s
  rw [if_pos yes]
  refine wpAny_bind (m := Builtin.Tuple.tupleIsExact _) ?_
  unfold Builtin.Tuple.tupleIsExact
  refine wpAny_bind (wpAny_typeOf ht.typeIs (wpAny_pure ?_))
  rw [if_pos (by decide)]
  exact wpAny_bind (wpAny_rule (wpAny_pure ⟨_, rfl, wpAny_pure h⟩))
end
section
variable {X : Cx}
def rSlW (K : PySem.W.Frag) : V → Option Int → Option Int → Hp → VK → Prop := fun x lo hi H Q => ∃ a xs, x = .ref a ∧ SqT K H a xs ∧ (HT.sIx xs.length 0 lo = 0 ∧ HT.sIx xs.length xs.length hi = xs.length) ∧ Q (.ref a) H
theorem sl_whole : SlR X (rSlW X.K) := by
  intro pins s σ H x v vl vu lo hi sl Q I rx hs pl pu h
  obtain ⟨a, xs, rfl, hx, hw, q⟩ := h
  cases rx
  obtain ⟨its, r, ht, hz⟩ := I.tuple hx
  have n : its.toArray.size = xs.length := by rw [List.size_toArray]; exact r.length.symm
  exact ⟨"tuple", _, PyProof.Rows.slot_tuple_getitem.lookup, ht.typeIs, getItem_whole ht hs pl pu (by rw [n]; exact hw) ⟨.ref a, H, I, rfl, q⟩⟩
def isWh (n : Nat) (lo hi : Option Int) : Prop := HT.sIx n 0 lo = 0 ∧ HT.sIx n n hi = n
instance {n : Nat} {lo hi : Option Int} : Decidable (isWh n lo hi) := inferInstanceAs (Decidable (HT.sIx n 0 lo = 0 ∧ HT.sIx n n hi = n))
def oSl2 (x : Wv) (lo hi : Option Int) (st : Hs) : Re Wv := match x with
  | .str z => if z.length ≤ lim then .ok (.str (Txt.slice z lo hi)) st else .bad
  | .tup ws => if isWh ws.length lo hi then .ok (.tup ws) st else oSl (.tup ws) lo hi st
  | x => oSl x lo hi st
def gSlice2 (ga : GE) (gl gh : GO) : GE := fun ρ st => (ga ρ st).bind fun x st1 => (gl ρ st1).bind fun lo st2 => (gh ρ st2).bind fun hi st3 => oSl2 x lo hi st3
theorem je_slice2 {a : Expr} {lo hi : Option Expr} {ga : GE} {gl gh : GO} {pos p2 : Pos} (ha : JE X a ga) (hl : JO X lo gl) (hh : JO X hi gh) : JE X (.Subscript a (.Slice lo hi none p2) pos) (gSlice2 ga gl gh) := by
  have hS : JE X (.Subscript a (.Slice lo hi none p2) pos) (fun ρ st => (ga ρ st).bind fun x st1 => (gl ρ st1).bind fun lo st2 => (gh ρ st2).bind fun hi st3 => match x with | .str z => if z.length ≤ lim then .ok (.str (Txt.slice z lo hi)) st3 else .bad | _ => .bad) := by
    refine JE.of (pe_slice sl_str pe_SE po_SO po_SO) fun ρ st σ H m Q S R p => ?_
    refine ha.go S R (PostG.bind p) fun x st1 v m1 H1 p1 e1 S1 rx => ?_
    refine hl.go S1 (R.mono e1) ((PostG.bind p1).imp e1 fun _ _ q => q) fun l st2 m2 H2 p2 e2 S2 => ?_
    refine hh.go S2 (R.mono (e1.trans e2)) ((PostG.bind p2).imp (e1.trans e2) fun _ _ q => q) fun h st3 m3 H3 p3 e3 S3 => ?_
    have e13 := e1.trans (e2.trans e3)
    cases x with
    | str z =>
      dsimp only at p3
      by_cases c : z.length ≤ lim
      · rw [if_pos c] at p3
        unfold RelW at rx
        obtain ⟨rfl, hz⟩ := rx
        exact ⟨z, rfl, lim_le c, p3 _ m3 H3 e13 S3 (mkStr (strOk_slice hz))⟩
      · rw [if_neg c] at p3; exact False.elim p3
    | _ => exact False.elim p3
  have hW : JE X (.Subscript a (.Slice lo hi none p2) pos) (fun ρ st => (ga ρ st).bind fun x st1 => (gl ρ st1).bind fun lo st2 => (gh ρ st2).bind fun hi st3 => match x with | .tup ws => if isWh ws.length lo hi then .ok (.tup ws) st3 else oSl (.tup ws) lo hi st3 | _ => .bad) := by
    refine JE.of (pe_slice (SlR.or sl_whole sl_tup) pe_SE po_SO po_SO) fun ρ st σ H m Q S R p => ?_
    refine ha.go S R (PostG.bind p) fun x st1 v m1 H1 p1 e1 S1 rx => ?_
    refine hl.go S1 (R.mono e1) ((PostG.bind p1).imp e1 fun _ _ q => q) fun l st2 m2 H2 p2 e2 S2 => ?_
    refine hh.go S2 (R.mono (e1.trans e2)) ((PostG.bind p2).imp (e1.trans e2) fun _ _ q => q) fun h st3 m3 H3 p3 e3 S3 => ?_
    have e13 := e1.trans (e2.trans e3)
    cases x with
    | tup ws =>
      dsimp only at p3
      have rx' := RelW.mono (e2.trans e3) _ _ rx
      unfold RelW at rx'
      obtain ⟨a', xs, rfl, f1, f2⟩ := rx'
      by_cases c : isWh ws.length l h
      · rw [if_pos c] at p3
        unfold isWh at c
        rw [f2.length] at c
        exact .inl ⟨a', xs, rfl, SqT.of f1, c, p3 _ m3 H3 e13 S3 (by unfold RelW; exact ⟨a', xs, rfl, f1, f2⟩)⟩
      · rw [if_neg c] at p3
        unfold oSl at p3
        dsimp only at p3
        unfold isWh at c
        rw [if_neg c] at p3
        rw [f2.length] at c
        refine .inr ⟨a', xs, rfl, SqT.of f1, c, fun q hq => ?_⟩
        have eU : Ext X.K m3 H3 m3 (L2.upd H3 q (.tup (cutV xs l h))) := Ext.updW (.inl hq)
        exact p3 (.ref q) m3 _ (e13.trans eU) (S3.fresh hq) (by unfold RelW; exact ⟨q, _, rfl, L2.upd_same, RelWs.mono eU _ _ (cut_rel f2)⟩)
    | _ => exact False.elim p3
  intro ρ st σ H m Q S R p
  unfold gSlice2 at p
  cases e1 : ga ρ st with
  | bad => rw [e1] at p; exact False.elim p
  | err c st1 => rw [e1] at p; exact je_slice ha hl hh ρ st σ H m Q S R (by unfold gSlice; rw [e1]; exact p)
  | ok x st1 =>
    rw [e1] at p
    cases x with
    | str z => exact hS ρ st σ H m Q S R (by dsimp only; rw [e1]; exact p)
    | tup ws => exact hW ρ st σ H m Q S R (by dsimp only; rw [e1]; exact p)
    | _ => exact je_slice ha hl hh ρ st σ H m Q S R (by unfold gSlice; rw [e1]; exact p)
def oIn2 : Op2
  | .str i, .str j, st => .ok (.bl (!(Builtin.Str.occurrences j i 0 j.length 1).isEmpty)) st
  | x, y, st => oIn x y st
def oNotIn2 : Op2
  | .str i, .str j, st => .ok (.bl (!(!(Builtin.Str.occurrences j i 0 j.length 1).isEmpty))) st
  | x, y, st => oNotIn x y st
theorem ow_in2 : OpW X (compareOp .In) oIn2 := by
  obtain ⟨r, h1, h2⟩ := ow_in (X := X)
  refine ⟨_, OpR.or op_in_str h1, fun x y a b st H m Q S rx ry p => ?_⟩
  unfold oIn2 at p
  split at p
  · rename_i i j
    unfold RelW at rx ry
    obtain ⟨rfl, _⟩ := rx
    obtain ⟨rfl, _⟩ := ry
    exact .inl ⟨i, j, rfl, rfl, p _ m H Ext.refl S mkBl⟩
  · exact .inr (h2 x y a b st H m Q S rx ry p)
theorem ow_notIn2 : OpW X (compareOp .NotIn) oNotIn2 := by
  obtain ⟨r, h1, h2⟩ := ow_notIn (X := X)
  refine ⟨_, OpR.or op_notIn_str h1, fun x y a b st H m Q S rx ry p => ?_⟩
  unfold oNotIn2 at p
  split at p
  · rename_i i j
    unfold RelW at rx ry
    obtain ⟨rfl, _⟩ := rx
    obtain ⟨rfl, _⟩ := ry
    exact .inl ⟨i, j, rfl, rfl, p _ m H Ext.refl S mkBl⟩
  · exact .inr (h2 x y a b st H m Q S rx ry p)
end
end J
namespace J
open PySem PySem.Spec PyProof.Rows L2 PySem.W
section
variable {X : Cx}
end
section
variable {X : Cx}
end
section
variable {X : Cx}
end
end J
namespace J
open PySem PySem.Spec PyProof.Rows L2
def Its (x : Str) : It := ⟨fun i _ => i < x.cps.size, fun i H v H' => H' = H ∧ ∃ c, x.cps[i]? = some c ∧ v = .str ⟨#[c]⟩, fun i _ => x.cps.size ≤ i⟩
theorem turn_ascii {P : Program} {w : World} {K : PySem.W.Frag} {tg : Expr} (x : Str) (t : Tok) (it : Addr) : Turn P w K tg (Its x) [it] it (fun i h => h.IsStrIter it "str_ascii_iterator" x t i) where
  mem := List.mem_singleton.mpr rfl
  obj := fun i h st b hb => by
    cases List.mem_singleton.mp hb
    obtain ⟨o, e, c, d⟩ := st
    exact ⟨o, e, fun v z => by rw [d] at z; cases z⟩
  keep := fun i h h' st k => let ⟨o, e, r⟩ := st; ⟨o, k it (List.mem_singleton.mpr rfl) o e, r⟩
  item := by
    intro X hP hw hK hc i pins s σ H E I hf st hg
    subst hP; subst hw; subst hK
    obtain ⟨f0, f1, f2, f3, f4, f5⟩ := hf it (List.mem_singleton.mpr rfl)
    have hi : i < x.cps.size := hg
    refine wpAny_pyNext_ascii_item st (c := x.cps[i]) (by simp [hi]) fun h' st' sb => ?_
    have I1 : L2.Inv X pins σ H { s with heap := h', toks := s.toks + 1 } := I.turned (t' := s.toks + 1) (fun b o hb e => sb.extBut b o hb e) f0 f1 f3 f4 f5
    obtain ⟨o, e, c, d⟩ := id st'
    exact ⟨_, rfl, go_of (s := { s with heap := h', toks := s.toks + 1 }) e c d (by decide) ⟨.str ⟨#[x.cps[i]]⟩, H, I1, ⟨_, rfl⟩, ⟨rfl, _, by simp [hi], rfl⟩, st', fun b hb => (hf b hb).1⟩⟩
  done := by
    intro X hP hw hK hc i pins s σ H E I hf st hg
    subst hP; subst hw; subst hK
    obtain ⟨f0, f1, f2, f3, f4, f5⟩ := hf it (List.mem_singleton.mpr rfl)
    have hi : x.cps.size ≤ i := hg
    exact wpAny_pyNext_ascii_end (I.ok.hd hc) st (by simp [hi]) fun h' eb => ⟨rfl, I.turned (t' := s.toks) (fun b o hb e => eb b o hb e) f0 f1 f3 f4 f5⟩
  self := fun _ _ _ _ _ st h => wpAny_pyIter_striter_ascii st h
theorem turn_wide {P : Program} {w : World} {K : PySem.W.Frag} {tg : Expr} (x : Str) (t : Tok) (it : Addr) : Turn P w K tg (Its x) [it] it (fun i h => h.IsStrIter it "str_iterator" x t i) where
  mem := List.mem_singleton.mpr rfl
  obj := fun i h st b hb => by
    cases List.mem_singleton.mp hb
    obtain ⟨o, e, c, d⟩ := st
    exact ⟨o, e, fun v z => by rw [d] at z; cases z⟩
  keep := fun i h h' st k => let ⟨o, e, r⟩ := st; ⟨o, k it (List.mem_singleton.mpr rfl) o e, r⟩
  item := by
    intro X hP hw hK hc i pins s σ H E I hf st hg
    subst hP; subst hw; subst hK
    obtain ⟨f0, f1, f2, f3, f4, f5⟩ := hf it (List.mem_singleton.mpr rfl)
    have hi : i < x.cps.size := hg
    refine wpAny_pyNext_wide_item st (c := x.cps[i]) (by simp [hi]) fun h' st' sb => ?_
    have I1 : L2.Inv X pins σ H { s with heap := h', toks := s.toks + 1 } := I.turned (t' := s.toks + 1) (fun b o hb e => sb.extBut b o hb e) f0 f1 f3 f4 f5
    obtain ⟨o, e, c, d⟩ := id st'
    exact ⟨_, rfl, go_of (s := { s with heap := h', toks := s.toks + 1 }) e c d (by decide) ⟨.str ⟨#[x.cps[i]]⟩, H, I1, ⟨_, rfl⟩, ⟨rfl, _, by simp [hi], rfl⟩, st', fun b hb => (hf b hb).1⟩⟩
  done := by
    intro X hP hw hK hc i pins s σ H E I hf st hg
    subst hP; subst hw; subst hK
    obtain ⟨f0, f1, f2, f3, f4, f5⟩ := hf it (List.mem_singleton.mpr rfl)
    have hi : x.cps.size ≤ i := hg
    exact wpAny_pyNext_wide_end (I.ok.hd hc) st (by simp [hi]) fun h' eb => ⟨rfl, I.turned (t' := s.toks) (fun b o hb e => eb b o hb e) f0 f1 f3 f4 f5⟩
  self := fun _ _ _ _ _ st h => wpAny_pyIter_striter_wide st h
section
variable {X : Cx}
theorem pi_str {tg l : Expr} {tl : TE} (hl : PE X l tl) : PI X tg l (fun σ H R => tl σ H fun v H1 => ∃ z, v = .str z ∧ R (Its z) H1) := by
  intro pins s σ H R I h
  refine thn (hl pins s σ H _ I h) fun v s1 ⟨x, H1, I1, r1, z, e, q⟩ => ?_
  subst e
  obtain ⟨t, rfl⟩ := r1
  have frs : ∀ b ∈ [s1.heap.objs.size], FpOk X pins H1 b := fun b hb => by
    cases List.mem_singleton.mp hb
    exact I1.fpOk (Nat.le_refl _) (I1.hok.fresh (Nat.le_refl _))
  cases ha : z.cps.all (· < 128)
  · exact wpAny_pyIter_wide ha ⟨s1.heap.objs.size, [s1.heap.objs.size], _, _, H1, rfl, I1.kept (t' := s1.toks) fun b o e => Heap.get?_push_of_some _ e, turn_wide z t _, ⟨_, Heap.get?_push_size _ rfl, rfl, rfl⟩, frs, q⟩
  · exact wpAny_pyIter_ascii ha ⟨s1.heap.objs.size, [s1.heap.objs.size], _, _, H1, rfl, I1.kept (t' := s1.toks) fun b o e => Heap.get?_push_of_some _ e, turn_ascii z t _, ⟨_, Heap.get?_push_size _ rfl, rfl, rfl⟩, frs, q⟩
def signsW (z : PySem.Str) : List Wv := z.cps.toList.map fun c => Wv.str ⟨#[c]⟩
def seqW2 (w : Wv) (st : Hs) : Re Wk := match w with
  | .str z => .ok (none, signsW z) st
  | w => seqW w st
def giSeq2 (g : GE) : GI := fun ρ st => (g ρ st).bind seqW2
theorem it_str {z : PySem.Str} {m1 : Mp} {H1 : Hp} (hz : PyData.strOk z = true) : ItFor X (none, signsW z) m1 H1 (Its z) where
  go := fun k H m' st _ _ _ hk => by
    have : k < z.cps.size := by simpa [signsW] using hk
    exact this
  stop := fun k H m' st _ _ _ hk => by
    have : k = z.cps.size := by simpa [signsW] using hk
    exact Nat.le_of_eq this.symm
  yld := fun k hk H v H' m' st _ _ _ y => by
    obtain ⟨rfl, c, hc, rfl⟩ := y
    refine ⟨rfl, ?_⟩
    have hk' : k < z.cps.size := by simpa [signsW] using hk
    have e : ∀ h : k < (signsW z).length, (signsW z)[k]'h = .str ⟨#[z.cps[k]]⟩ := by intro h; simp [signsW]
    have hc' : z.cps[k] = c := by simpa [hk'] using hc
    show RelW X.K m' H' ((signsW z)[k]'hk) _
    rw [e hk, hc']
    refine mkStr ?_
    rw [strOk_iff] at hz ⊢
    intro d hd
    simp at hd
    rw [hd, ← hc']
    exact hz _ (by simp)
theorem ji_seq2 {tg iter : Expr} {g : GE} (h : JE X iter g) : JI X tg iter (giSeq2 g) := by
  obtain ⟨w1, h1, k1⟩ := ji_seq (tg := tg) h
  refine ⟨fun σ H R => w1 σ H R ∨ (SE X iter σ H fun v H1 => ∃ z, v = .str z ∧ R (Its z) H1), fun pins s σ H R I q => ?_, fun ρ st σ H m R S RR p => ?_⟩
  · rcases q with q | q
    · exact h1 pins s σ H R I q
    · exact pi_str pe_SE pins s σ H R I q
  · unfold giSeq2 at p
    cases e : g ρ st with
    | bad => rw [e] at p; exact False.elim p
    | err c st' => rw [e] at p; exact .inl (k1 ρ st σ H m R S RR (by unfold giSeq; rw [e]; exact p))
    | ok w st' =>
      rw [e] at p
      cases w with
      | str z =>
        refine .inr ?_
        refine h.go (ok := fun w st1 => w = .str z ∧ st1 = st') S RR (by rw [e]; exact ⟨rfl, rfl⟩) fun w st1 v m1 H1 q e1 S1 r1 => ?_
        obtain ⟨rfl, rfl⟩ := q
        unfold RelW at r1
        obtain ⟨rfl, hz⟩ := r1
        exact ⟨z, rfl, p m1 H1 _ e1 S1 trivial (it_str hz)⟩
      | _ => exact .inl (k1 ρ st σ H m R S RR (by unfold giSeq; rw [e]; exact p))
def oInt2 : List Wv → Hs → Re Wv := fun ws st => oInt ws st
theorem cw_int2 : CallW X (.type "int") oInt2 := cw_int
end
end J
namespace J
open PySem PySem.Spec PyProof.Rows L2
section
variable {X : Cx}
end
end J
namespace J
open PySem PySem.Spec PyProof.Rows L2
def keyOf : Wv → Option L2.Key
  | .int i => some (.inl i)
  | .str x => some (.inr x)
  | _ => none
def valW {κ : Type} [DecidableEq κ] (kvs : List (κ × Wv)) (k : κ) : Option Wv := match kvs with
  | [] => none
  | p :: r => if p.1 = k then some p.2 else valW r k
def putW {κ : Type} [DecidableEq κ] (kvs : List (κ × Wv)) (k : κ) (v : Wv) : List (κ × Wv) := if (kvs.any fun kv => decide (kv.1 = k)) = true then kvs.map (fun kv => if kv.1 = k then (kv.1, v) else kv) else kvs ++ [(k, v)]
def mergeW (kvs more : List (L2.Key × Wv)) : List (L2.Key × Wv) := more.foldl (fun acc kv => putW acc kv.1 kv.2) kvs
section
variable {K : PySem.W.Frag} {m : Mp} {H : Hp} {κ : Type}
theorem RelK.nil : RelK (κ := κ) K m H [] [] := ⟨rfl, RelWs.nil⟩
theorem RelK.cons {k : κ} {w : Wv} {v : V} {kvs : List (κ × Wv)} {xs : List (κ × V)} (h : RelW K m H w v) (t : RelK K m H kvs xs) : RelK K m H ((k, w) :: kvs) ((k, v) :: xs) :=
  ⟨by simp [t.1], by simpa using RelWs.cons h t.2⟩
theorem RelK.nil_inv {xs : List (κ × V)} (h : RelK K m H [] xs) : xs = [] := by
  have := h.1
  cases xs with
  | nil => rfl
  | cons a b => simp at this
theorem RelK.cons_inv {p : κ × Wv} {kvs : List (κ × Wv)} {xs : List (κ × V)} (h : RelK K m H (p :: kvs) xs) : ∃ v t, xs = (p.1, v) :: t ∧ RelW K m H p.2 v ∧ RelK K m H kvs t := by
  obtain ⟨h1, h2⟩ := h
  cases xs with
  | nil => simp at h1
  | cons q t =>
    simp at h1 h2
    unfold RelWs at h2
    obtain ⟨x, r, e1, e2, e3⟩ := h2
    cases e1
    exact ⟨q.2, t, by rw [h1.1], e2, h1.2, e3⟩
theorem RelK.length {kvs : List (κ × Wv)} {xs : List (κ × V)} (h : RelK K m H kvs xs) : kvs.length = xs.length := by
  have := congrArg List.length h.1
  simpa using this
variable [DecidableEq κ]
theorem RelK.val : ∀ {kvs : List (κ × Wv)} {xs : List (κ × V)} (k : κ), RelK K m H kvs xs → (valW kvs k = none → valV xs k = none) ∧ ∀ w, valW kvs k = some w → ∃ v, valV xs k = some v ∧ RelW K m H w v
  | [], xs, k, h => by
    rw [h.nil_inv]
    exact ⟨fun _ => rfl, (fun w e => by cases e)⟩
  | p :: r, xs, k, h => by
    obtain ⟨v, t, rfl, h1, h2⟩ := h.cons_inv
    obtain ⟨i1, i2⟩ := RelK.val k h2
    unfold valW
    by_cases e : p.1 = k
    · rw [if_pos e, valV_pos (by exact e)]
      exact ⟨(fun z => by cases z), fun w z => ⟨v, rfl, by cases z; exact h1⟩⟩
    · rw [if_neg e, valV_neg (by exact e)]
      exact ⟨i1, i2⟩
theorem RelK.any : ∀ {kvs : List (κ × Wv)} {xs : List (κ × V)} (k : κ), RelK K m H kvs xs → (kvs.any fun kv => decide (kv.1 = k)) = xs.any fun kv => decide (kv.1 = k)
  | [], xs, k, h => by rw [h.nil_inv]; rfl
  | p :: r, xs, k, h => by
    obtain ⟨v, t, rfl, h1, h2⟩ := h.cons_inv
    rw [List.any_cons, List.any_cons, RelK.any k h2]
theorem RelK.repl : ∀ {kvs : List (κ × Wv)} {xs : List (κ × V)} (k : κ) {w : Wv} {v : V}, RelK K m H kvs xs → RelW K m H w v → RelK K m H (kvs.map fun kv => if kv.1 = k then (kv.1, w) else kv) (xs.map fun kv => if kv.1 = k then (kv.1, v) else kv)
  | [], xs, k, w, v, h, r => by rw [h.nil_inv]; exact RelK.nil
  | p :: kvs, xs, k, w, v, h, r => by
    obtain ⟨u, t, rfl, h1, h2⟩ := h.cons_inv
    rw [List.map_cons, List.map_cons]
    by_cases e : p.1 = k
    · rw [if_pos e, if_pos (by exact e)]
      exact RelK.cons r (RelK.repl k h2 r)
    · rw [if_neg e, if_neg (by exact e)]
      exact RelK.cons h1 (RelK.repl k h2 r)
theorem RelK.snoc : ∀ {kvs : List (κ × Wv)} {xs : List (κ × V)} (k : κ) {w : Wv} {v : V}, RelK K m H kvs xs → RelW K m H w v → RelK K m H (kvs ++ [(k, w)]) (xs ++ [(k, v)])
  | [], xs, k, w, v, h, r => by rw [h.nil_inv]; exact RelK.cons r RelK.nil
  | p :: kvs, xs, k, w, v, h, r => by
    obtain ⟨u, t, rfl, h1, h2⟩ := h.cons_inv
    exact RelK.cons h1 (RelK.snoc k h2 r)
theorem RelK.put {kvs : List (κ × Wv)} {xs : List (κ × V)} (k : κ) {w : Wv} {v : V} (h : RelK K m H kvs xs) (r : RelW K m H w v) : RelK K m H (putW kvs k w) (putK xs k v) := by
  unfold putW putK
  rw [h.any k]
  split
  · exact h.repl k r
  · exact h.snoc k r
end
section
variable {K : PySem.W.Frag} {m : Mp} {H : Hp}
theorem RelK.merge : ∀ {more : List (L2.Key × Wv)} {ms : List (L2.Key × V)} {kvs : List (L2.Key × Wv)} {xs : List (L2.Key × V)}, RelK K m H kvs xs → RelK K m H more ms → RelK K m H (mergeW kvs more) (mergeK xs ms)
  | [], ms, kvs, xs, h, g => by rw [g.nil_inv]; exact h
  | p :: more, ms, kvs, xs, h, g => by
    obtain ⟨u, t, rfl, h1, h2⟩ := g.cons_inv
    have := RelK.merge (more := more) (ms := t) (kvs := putW kvs p.1 p.2) (xs := putK xs p.1 u) (RelK.put p.1 h h1) h2
    exact this
end
section
variable {X : Cx}
inductive JPs (X : Cx) (pos : Pos) : List (Option Expr) → List Expr → List (GE × GE) → Prop
  | nil : JPs X pos [] [] []
  | cons {k v : Expr} {ks : List (Option Expr)} {vs : List Expr} {gk gv : GE} {gs : List (GE × GE)} : JE X k gk → JE X v gv → JPs X pos ks vs gs → JPs X pos (some k :: ks) (v :: vs) ((gk, gv) :: gs)
end
def FlatV : Wv → Value → Prop
  | .int i, u => ∃ t, u = .int i t
  | .str x, u => (∃ t, u = .str x t) ∧ PyData.strOk x = true
  | _, _ => False
abbrev Dc := List (PySem.Str × Wv)
def EntsOk (w : World) : Dc → List DictEntry → Prop
  | [], [] => True
  | (k, v) :: r, e :: t => (e.hash = hashStr w k ∧ (∃ tk, e.key = .str k tk) ∧ FlatV v e.val) ∧ EntsOk w r t
  | _, _ => False
def DcAt (K : PySem.W.Frag) (w : World) (mg : Str → Option Value) (x : Str) (kvs : Dc) : Prop :=
  ∃ (a : Addr) (es : Array DictEntry) (ep : Nat), mg x = some (.ref a) ∧ K.lookup a = some ⟨.type "dict", none, .dict es ep, #[]⟩ ∧ (a == sysModules) = false ∧ EntsOk w kvs es.toList ∧ (kvs.map (·.1)).Nodup
theorem ents_get {P : Program} {w : World} : ∀ {kvs : Dc} {l : List DictEntry}, EntsOk w kvs l → ∃ vs : List (PySem.Str × Value), vs.map (·.1) = kvs.map (·.1) ∧ Pairs (PySem.strKind P w) l vs ∧ (∀ e ∈ l, ∃ k, (PySem.strKind P w).is k e.key = true ∧ e.hash = (PySem.strKind P w).hash k) ∧
    ∀ k, (kvs.lookup k = none → valueAt vs k = none) ∧ ∀ v, kvs.lookup k = some v → ∃ u, valueAt vs k = some u ∧ FlatV v u
  | [], [], _ => ⟨[], rfl, .nil, (fun _ z => by cases z), fun k => ⟨fun _ => rfl, (fun v z => by cases z)⟩⟩
  | (k, v) :: r, e :: t, h => by
    obtain ⟨⟨h1, ⟨tk, h2⟩, h3⟩, h4⟩ := h
    obtain ⟨vs, i1, i2, i3, i4⟩ := ents_get (P := P) h4
    have his : (PySem.strKind P w).is k e.key = true := by rw [h2]; exact strKind_is P w k tk
    refine ⟨(k, e.val) :: vs, by simp [i1], .cons his rfl i2, fun e' he => ?_, fun k' => ?_⟩
    · rcases List.mem_cons.mp he with z | z
      · subst z; exact ⟨k, his, h1⟩
      · exact i3 e' z
    · rw [List.lookup_cons]
      unfold valueAt
      rw [List.find?_cons]
      by_cases ek : k = k'
      · subst ek
        have b1 : (k == k) = true := by simp
        rw [b1]
        simp only [decide_true, Option.map_some]
        exact ⟨(fun z => by cases z), fun v' z => ⟨e.val, rfl, by cases z; exact h3⟩⟩
      · have b1 : (k' == k) = false := beq_eq_false_iff_ne.mpr fun z => ek z.symm
        rw [b1]
        simp only [ek, decide_false]
        exact i4 k'
  | [], _ :: _, h => False.elim h
  | _ :: _, [], h => False.elim h
theorem dc_dict {P : Program} {w : World} {K : PySem.W.Frag} {h : Heap} {a : Addr} {es : Array DictEntry} {ep : Nat} {kvs : Dc} (KX : K.In h) (hl : K.lookup a = some ⟨.type "dict", none, .dict es ep, #[]⟩) (he : EntsOk w kvs es.toList) (nd : (kvs.map (·.1)).Nodup) :
    ∃ vs : List (PySem.Str × Value), h.DictOf (PySem.strKind P w) a vs ∧ ∀ k, (kvs.lookup k = none → valueAt vs k = none) ∧ ∀ v, kvs.lookup k = some v → ∃ u, valueAt vs k = some u ∧ FlatV v u := by
  obtain ⟨vs, i1, i2, i3, i4⟩ := ents_get (P := P) he
  exact ⟨vs, ⟨_, es, ep, KX a _ hl, ⟨rfl, rfl, rfl⟩, rfl, fun e hm => i3 e (by simpa using hm), i2, by rw [i1]; exact nd⟩, i4⟩
section
variable {X : Cx}
def gDcIx (kvs : Dc) (ga : GE) : GE := fun ρ st => (ga ρ st).bind fun a st1 => match a with
  | .str k => (match kvs.lookup k with | some w => .ok w st1 | none => .bad)
  | _ => .bad
def tDcIx (kvs : Dc) (ty : TE) : TE := fun σ H Q => ty σ H fun y H1 => ∃ z w v, y = .str z ∧ kvs.lookup z = some w ∧ (∀ u, FlatV w u → RelV v u) ∧ Q v H1
theorem pe_dcIx {b : Expr} {ty : TE} {x : Str} {p pos : Pos} {kvs : Dc} (hb : PE X b ty) (hs : NoSl b) (hg : Gl X x) (hd : (x == ("__debug__" : Str)) = false) (D : DcAt X.K X.w X.mg x kvs) : PE X (.Subscript (.Name x p) b pos) (tDcIx kvs ty) := by
  intro pins s σ H Q I h
  obtain ⟨a, es, ep, g1, g2, g3, g4, g5⟩ := D
  refine subD_of PySem.F.slot_dict_getitem.lookup hs (thn (pe_glob (v := .ref a) hg g1 rfl hd pins s σ H (fun v H2 => v = .ref a ∧ H2 = H) I ⟨rfl, rfl⟩) fun u s1 ⟨v, H1, I1, rv, ev, eH⟩ => ?_)
  subst ev eH
  obtain rfl : u = Value.ref a := rv
  refine thn (hb pins s1 σ H1 _ I1 h) fun iv s2 ⟨y, H2, I2, ry, z, w, v, ey, ew, ev, q⟩ => ?_
  subst ey
  obtain ⟨t, rfl⟩ := (show ∃ t, iv = Value.str z t from ry)
  obtain ⟨vs, dd, look⟩ := dc_dict (P := X.prog) (w := X.w) I2.kIn g2 g4 g5
  obtain ⟨u, e1, e2⟩ := (look z).2 w ew
  exact ⟨dd.typeIs, wpAny_getItem_of (strKind_is X.prog X.w z t) dd.mapOf e1 ⟨v, H2, I2.tok _, ev u e2, q⟩⟩
theorem je_dcIx {b : Expr} {gb : GE} {x : Str} {p pos : Pos} {kvs : Dc} (hb : JE X b gb) (hs : NoSl b) (hg : Gl X x) (hd : (x == ("__debug__" : Str)) = false) (D : DcAt X.K X.w X.mg x kvs) : JE X (.Subscript (.Name x p) b pos) (gDcIx kvs gb) :=
  JE.of (pe_dcIx pe_SE hs hg hd D) fun ρ st σ H m Q S R p => by
    refine hb.go S R (PostG.bind p) fun w st1 v m1 H1 p1 e1 S1 r1 => ?_
    cases w with
    | str k =>
      dsimp only at p1
      cases e : kvs.lookup k with
      | none => rw [e] at p1; exact False.elim p1
      | some u =>
        rw [e] at p1
        unfold RelW at r1
        cases u with
        | int i => exact ⟨k, .int i, .int i, r1.1, e, fun u h => h, p1 _ m1 H1 e1 S1 (by unfold RelW; rfl)⟩
        | str y =>
          by_cases hy : PyData.strOk y = true
          · exact ⟨k, .str y, .str y, r1.1, e, fun u h => h.1, p1 _ m1 H1 e1 S1 (by unfold RelW; exact ⟨rfl, hy⟩)⟩
          · obtain ⟨a, es, ep, _, _, _, g4, _⟩ := D
            obtain ⟨vs, _, _, _, i4⟩ := ents_get (P := X.prog) g4
            obtain ⟨u, _, e2⟩ := (i4 k).2 _ e
            exact absurd e2.2 hy
        | _ =>
          obtain ⟨a, es, ep, _, _, _, g4, _⟩ := D
          obtain ⟨vs, _, _, _, i4⟩ := ents_get (P := X.prog) g4
          obtain ⟨u, _, e2⟩ := (i4 k).2 _ e
          exact False.elim e2
    | _ => exact False.elim p1
end
end J
namespace J
open PySem PySem.Spec PyProof.Rows PySem.W L2
section
variable (lt : Nat → Nat → Bool) (N : Nat)
def Kg {α : Type} : KasT α → (α → Prop) → Prop
  | .ret a, Q => Q a
  | .ask i j k, Q => (i < N ∧ j < N) ∧ Kg (k (lt i j)) Q
end
section
variable {lt : Nat → Nat → Bool} {N : Nat}
theorem Kg.bind {α β : Type} {f : α → KasT β} {Q : β → Prop} : ∀ {t : KasT α}, Kg lt N t (fun a => Kg lt N (f a) Q) → Kg lt N (t.bind f) Q
  | .ret a, h => h
  | .ask i j k, h => ⟨h.1, Kg.bind (t := k (lt i j)) h.2⟩
theorem Kg.imp {α : Type} {Q R : α → Prop} (hq : ∀ a, Q a → R a) : ∀ {t : KasT α}, Kg lt N t Q → Kg lt N t R
  | .ret a, h => hq a h
  | .ask i j k, h => ⟨h.1, Kg.imp hq (t := k (lt i j)) h.2⟩
theorem Kg.wp {α : Type} {cmp : Nat → Nat → (Bool → Shared → Prop) → Shared → Prop} {P : Shared → Prop} (hc : ∀ i j C s, i < N → j < N → P s → (∀ s', P s' → C (lt i j) s') → cmp i j C s) {G : α → Shared → Prop} :
    ∀ {t : KasT α} {s : Shared}, P s → Kg lt N t (fun a => ∀ s', P s' → G a s') → t.kasWp cmp G s
  | .ret a, s, hs, h => h s hs
  | .ask i j k, s, hs, h => hc i j _ s h.1.1 h.1.2 hs fun s' hs' => Kg.wp hc (t := k (lt i j)) hs' h.2
structure Ord (lt : Nat → Nat → Bool) : Prop where
  as : ∀ a b, lt a b = true → lt b a = false
  tr : ∀ a b c, lt a b = false → lt b c = false → lt a c = false
theorem Ord.irr (o : Ord lt) (a : Nat) : lt a a = false := by
  cases h : lt a a with
  | false => rfl
  | true => have := o.as a a h; rw [h] at this; cases this
theorem Ord.lt_le (o : Ord lt) {a b c : Nat} (h1 : lt a b = true) (h2 : lt c b = false) : lt a c = true := by
  cases h : lt a c with
  | true => rfl
  | false => have := o.tr a c b h h2; rw [h1] at this; cases this
abbrev at_ (p : Array Nat) (i : Nat) : Nat := p.getD i 0
structure Pm (N : Nat) (p : Array Nat) : Prop where
  sz : p.size = N
  pm : p.toList.Perm (List.range N)
theorem Pm.bd {p : Array Nat} (h : Pm N p) {i : Nat} (hi : i < N) : at_ p i < N := by
  have e : at_ p i = p[i]'(by rw [h.sz]; exact hi) := by simp [at_, Array.getD, h.sz, hi]
  rw [e]
  have : p[i]'(by rw [h.sz]; exact hi) ∈ p.toList := by simp
  exact List.mem_range.mp (h.pm.mem_iff.mp this)
theorem getD_of {p q : Array Nat} {i j : Nat} (h : p[i]? = q[j]?) : at_ p i = at_ q j := by
  unfold at_
  rw [Array.getD_eq_getD_getElem?, Array.getD_eq_getD_getElem?, h]
theorem Pm.rev {p : Array Nat} (h : Pm N p) (i j : Nat) : Pm N (kas_rev p i j) := ⟨by unfold kas_rev; rw [mirror_size]; exact h.sz, ((Array.perm_iff_toList_perm.mp (mirror_perm _ _ _ _)).trans h.pm)⟩
theorem Pm.bub {p : Array Nat} (h : Pm N p) (k d : Nat) : Pm N (bubble p k d) := ⟨by rw [bubble_size]; exact h.sz, ((Array.perm_iff_toList_perm.mp (bubble_perm _ _ _)).trans h.pm)⟩
theorem rev_at {p : Array Nat} (h : Pm N p) {i j : Nat} (hj : j ≤ N) (k : Nat) : at_ (kas_rev p i j) k = if i ≤ k ∧ k < j then at_ p (i + j - 1 - k) else at_ p k := by
  have q := getElem?_mirror_all (xs := p) (i := i) (j := j) (by rw [h.sz]; exact hj) k
  unfold kas_rev
  split
  · rename_i c; rw [if_pos c] at q; exact getD_of q
  · rename_i c; rw [if_neg c] at q; exact getD_of q
theorem bub_at {p : Array Nat} (h : Pm N p) {k l : Nat} (hk : k < N) (hl : l ≤ k) (i : Nat) : at_ (bubble p k (k - l)) i = if i = l then at_ p k else if l < i ∧ i ≤ k then at_ p (i - 1) else at_ p i := by
  have q := getElem?_bubble (xs := p) (src := k) (by rw [h.sz]; exact hk) (k - l) (by omega) i
  have e : k - (k - l) = l := by omega
  rw [e] at q
  split
  · rename_i c; rw [if_pos c] at q; exact getD_of q
  · rename_i c
    rw [if_neg c] at q
    split
    · rename_i d; rw [if_pos d] at q; exact getD_of q
    · rename_i d; rw [if_neg d] at q; exact getD_of q
def Up (lt : Nat → Nat → Bool) (p : Array Nat) (k : Nat) : Prop := ∀ i j, i ≤ j → j < k → lt (at_ p j) (at_ p i) = false
def Dn (lt : Nat → Nat → Bool) (p : Array Nat) (k : Nat) : Prop := ∀ i j, i ≤ j → j < k → lt (at_ p i) (at_ p j) = false
theorem Up.succ (o : Ord lt) {p : Array Nat} {k : Nat} (h : Up lt p k) (hk : 1 ≤ k) (e : lt (at_ p k) (at_ p (k - 1)) = false) : Up lt p (k + 1) := by
  intro i j hij hj
  by_cases c : j < k
  · exact h i j hij c
  · have : j = k := by omega
    subst this
    by_cases c2 : i = j
    · subst c2; exact o.irr _
    · exact o.tr _ _ _ e (h i (j - 1) (by omega) (by omega))
theorem Dn.succ (o : Ord lt) {p : Array Nat} {k : Nat} (h : Dn lt p k) (hk : 1 ≤ k) (e : lt (at_ p (k - 1)) (at_ p k) = false) : Dn lt p (k + 1) := by
  intro i j hij hj
  by_cases c : j < k
  · exact h i j hij c
  · have : j = k := by omega
    subst this
    by_cases c2 : i = j
    · subst c2; exact o.irr _
    · exact o.tr _ _ _ (h i (j - 1) (by omega) (by omega)) e
theorem kg_asc (o : Ord lt) {p : Array Nat} (hp : Pm N p) : ∀ (f n : Nat), 1 ≤ n → n + f ≤ N → Up lt p n → Kg lt N (kas_asc p f n) (fun m => n ≤ m ∧ m ≤ n + f ∧ Up lt p m ∧ (m < n + f → lt (at_ p m) (at_ p (m - 1)) = true))
  | 0, n, h1, h2, h3 => ⟨Nat.le_refl _, Nat.le_refl _, h3, fun z => absurd z (Nat.lt_irrefl _)⟩
  | f + 1, n, h1, h2, h3 => by
    refine ⟨⟨hp.bd (by omega), hp.bd (by omega)⟩, ?_⟩
    cases e : lt (p.getD n 0) (p.getD (n - 1) 0) with
    | true =>
      dsimp only
      rw [if_pos rfl]
      exact ⟨Nat.le_refl _, by omega, h3, fun _ => e⟩
    | false =>
      dsimp only
      rw [if_neg (by simp)]
      refine (kg_asc o hp f (n + 1) (by omega) (by omega) (h3.succ o h1 e)).imp fun m ⟨q1, q2, q3, q4⟩ => ⟨by omega, by omega, q3, fun z => q4 (by omega)⟩
def Lv (lt : Nat → Nat → Bool) (p : Array Nat) (a n : Nat) : Prop := ∀ i j, a ≤ i → i < n → a ≤ j → j < n → lt (at_ p i) (at_ p j) = false
theorem Dn.rev (o : Ord lt) {p : Array Nat} (hp : Pm N p) {a n : Nat} (hn : n ≤ N) (ha : a ≤ n) (h : Dn lt p n) (hl : Lv lt p a n) : Dn lt (kas_rev p a n) n := by
  intro i j hij hj
  rw [rev_at hp hn, rev_at hp hn]
  by_cases ci : a ≤ i
  · rw [if_pos ⟨ci, by omega⟩, if_pos ⟨by omega, hj⟩]
    exact hl _ _ (by omega) (by omega) (by omega) (by omega)
  · rw [if_neg (by omega)]
    by_cases cj : a ≤ j
    · rw [if_pos ⟨cj, hj⟩]
      exact h _ _ (by omega) (by omega)
    · rw [if_neg (by omega)]
      exact h _ _ hij hj
theorem Dn.up {p : Array Nat} (hp : Pm N p) {n : Nat} (hn : n ≤ N) (h : Dn lt p n) : Up lt (kas_rev p 0 n) n := by
  intro i j hij hj
  rw [rev_at hp hn, rev_at hp hn, if_pos ⟨by omega, hj⟩, if_pos ⟨by omega, by omega⟩]
  exact h _ _ (by omega) (by omega)
theorem kg_desc (o : Ord lt) : ∀ (f : Nat) (p : Array Nat) (n q : Nat), Pm N p → q + 1 ≤ n → n + f ≤ N → Dn lt p n → Lv lt p (n - 1 - q) n →
    Kg lt N (kas_desc f p n q) (fun r => Pm N r.1 ∧ r.2.2 + 1 ≤ r.2.1 ∧ r.2.1 ≤ N ∧ Dn lt r.1 r.2.1 ∧ Lv lt r.1 (r.2.1 - 1 - r.2.2) r.2.1)
  | 0, p, n, q, hp, hq, hn, hd, hl => ⟨hp, hq, by omega, hd, hl⟩
  | f + 1, p, n, q, hp, hq, hn, hd, hl => by
    refine ⟨⟨hp.bd (by omega), hp.bd (by omega)⟩, ?_⟩
    cases e : lt (p.getD n 0) (p.getD (n - 1) 0) with
    | true =>
      dsimp only
      rw [if_pos rfl]
      have one : ∀ p' : Array Nat, Lv lt p' (n + 1 - 1 - 0) (n + 1) := fun p' i j h1 h2 h3 h4 => by
        have : i = j := by omega
        subst this
        exact o.irr _
      by_cases hq0 : q > 0
      · rw [if_pos hq0]
        have z : n - (q + 1) = n - 1 - q := by omega
        have hl2 : Lv lt p (n - (q + 1)) n := by rw [z]; exact hl
        refine kg_desc o f _ (n + 1) 0 (hp.rev _ _) (by omega) (by omega) (Dn.succ o (Dn.rev o hp (by omega) (by omega) hd hl2) (by omega) ?_) (one _)
        rw [rev_at hp (by omega), rev_at hp (by omega), if_pos ⟨by omega, by omega⟩, if_neg (by omega)]
        -- the last of the row stands level with the one that was last
        have lv := hl (n - (q + 1) + n - 1 - (n - 1)) (n - 1) (by omega) (by omega) (by omega) (by omega)
        cases z : lt (at_ p (n - (q + 1) + n - 1 - (n - 1))) (at_ p n) with
        | false => rfl
        | true =>
          have a1 := o.as _ _ e
          have := o.tr _ _ _ lv a1
          rw [z] at this
          cases this
      · rw [if_neg hq0]
        exact kg_desc o f p (n + 1) 0 hp (by omega) (by omega) (hd.succ o (by omega) (o.as _ _ e)) (one _)
    | false =>
      dsimp only
      rw [if_neg (by simp)]
      refine ⟨⟨hp.bd (by omega), hp.bd (by omega)⟩, ?_⟩
      cases e2 : lt (p.getD (n - 1) 0) (p.getD n 0) with
      | true =>
        dsimp only
        rw [if_pos rfl]
        exact ⟨hp, hq, by show n ≤ N; omega, hd, hl⟩
      | false =>
        dsimp only
        rw [if_neg (by simp)]
        refine kg_desc o f p (n + 1) (q + 1) hp (by omega) (by omega) (hd.succ o (by omega) e2) ?_
        intro i j h1 h2 h3 h4
        have key : ∀ i, n - 1 - q ≤ i → i < n → lt (at_ p i) (at_ p n) = false ∧ lt (at_ p n) (at_ p i) = false := fun i a b =>
          ⟨o.tr _ _ _ (hl i (n - 1) a b (by omega) (by omega)) e2, o.tr _ _ _ e (hl (n - 1) i (by omega) (by omega) a b)⟩
        by_cases ci : i < n
        · by_cases cj : j < n
          · exact hl i j (by omega) ci (by omega) cj
          · have : j = n := by omega
            subst this
            exact (key i (by omega) ci).1
        · have : i = n := by omega
          subst this
          by_cases cj : j < i
          · exact (key j (by omega) cj).2
          · have : j = i := by omega
            subst this
            exact o.irr _
abbrev Run (lt : Nat → Nat → Bool) (N : Nat) (r : Nat × Array Nat) : Prop := Pm N r.2 ∧ 1 ≤ r.1 ∧ r.1 ≤ N ∧ Up lt r.2 r.1
theorem kg_tail (o : Ord lt) {p : Array Nat} {n : Nat} (hp : Pm N p) (h1 : 1 ≤ n) (hn : n ≤ N) (hd : Dn lt p n) : Kg lt N (kas_tail3 n N p) (Run lt N) := by
  unfold kas_tail3
  refine Kg.bind ((kg_asc o (hp.rev 0 n) (N - n) n h1 (by omega) (hd.up hp hn)).imp fun m ⟨q1, q2, q3, _⟩ => ?_)
  exact ⟨hp.rev 0 n, by show 1 ≤ m; omega, by show m ≤ N; omega, q3⟩
theorem kg_descPart (o : Ord lt) {p : Array Nat} {n : Nat} (hp : Pm N p) (hn : n + 1 ≤ N) (h1 : 1 ≤ n) (hd : Dn lt p (n + 1)) : Kg lt N (kas_descPart n N p) (Run lt N) := by
  unfold kas_descPart
  have one : Lv lt p (n + 1 - 1 - 0) (n + 1) := fun i j h1 h2 h3 h4 => by
    have : i = j := by omega
    subst this
    exact o.irr _
  refine Kg.bind ((kg_desc o (N - (n + 1)) p (n + 1) 0 hp (by omega) (by omega) hd one).imp fun r ⟨q1, q2, q3, q4, q5⟩ => ?_)
  by_cases c : r.2.2 > 0
  · rw [if_pos c]
    refine kg_tail o (q1.rev _ _) (by omega) q3 (Dn.rev o q1 q3 (by omega) q4 ?_)
    have z : r.2.1 - (r.2.2 + 1) = r.2.1 - 1 - r.2.2 := by omega
    rw [z]; exact q5
  · rw [if_neg c]
    exact kg_tail o q1 (by omega) q3 q4
theorem kg_count (o : Ord lt) {p : Array Nat} (hp : Pm N p) (h1 : 1 ≤ N) : Kg lt N (kas_count N p) (Run lt N) := by
  unfold kas_count
  have u1 : Up lt p 1 := fun i j a b => by
    have : i = j := by omega
    subst this
    exact o.irr _
  refine Kg.bind ((kg_asc o hp (N - 1) 1 (Nat.le_refl _) (by omega) u1).imp fun n ⟨q1, q2, q3, q4⟩ => ?_)
  by_cases c : n = N
  · rw [if_pos (by simp [c])]
    exact ⟨hp, by show 1 ≤ n; omega, by show n ≤ N; omega, q3⟩
  · rw [if_neg (by simp [c])]
    have hs := q4 (by omega)
    by_cases c2 : n > 1
    · rw [if_pos c2]
      refine ⟨⟨hp.bd (by omega), hp.bd (by omega)⟩, ?_⟩
      cases e : lt (p.getD 0 0) (p.getD (n - 1) 0) with
      | true =>
        dsimp only
        rw [if_pos rfl]
        exact ⟨hp, by show 1 ≤ n; omega, by show n ≤ N; omega, q3⟩
      | false =>
        dsimp only
        rw [if_neg (by simp)]
        -- all level
        have lv : ∀ i j, i < n → j < n → lt (at_ p i) (at_ p j) = false := fun i j hi hj => by
          have a1 := q3 0 i (by omega) hi
          have a2 := q3 j (n - 1) (by omega) (by omega)
          exact o.tr _ _ _ (o.tr _ _ _ a1 e) a2
        refine kg_descPart o (hp.rev 0 n) (by omega) (by omega) (Dn.succ o ?_ (by omega) ?_)
        · intro i j hij hj
          rw [rev_at hp (by omega), rev_at hp (by omega), if_pos ⟨by omega, by omega⟩, if_pos ⟨by omega, by omega⟩]
          exact lv _ _ (by omega) (by omega)
        · rw [rev_at hp (by omega), rev_at hp (by omega), if_pos ⟨by omega, by omega⟩, if_neg (by omega)]
          have a1 := o.as _ _ hs
          exact o.tr _ _ _ (lv _ (n - 1) (by omega) (by omega)) a1
    · rw [if_neg c2]
      have hn : n = 1 := by omega
      subst hn
      refine kg_descPart o hp (by omega) (by omega) ?_
      refine Dn.succ o (fun i j a b => by
        have : i = j := by omega
        subst this
        exact o.irr _) (by omega) (o.as _ _ hs)
theorem kg_place (o : Ord lt) {p : Array Nat} (hp : Pm N p) {k : Nat} (hk : k < N) : ∀ (f l r : Nat), l ≤ r → r ≤ k → r - l ≤ f → Up lt p k → (∀ i, i < l → lt (at_ p k) (at_ p i) = false) → (∀ i, r ≤ i → i < k → lt (at_ p k) (at_ p i) = true) →
    Kg lt N (kas_place p k f l r) (fun m => m ≤ k ∧ (∀ i, i < m → lt (at_ p k) (at_ p i) = false) ∧ ∀ i, m ≤ i → i < k → lt (at_ p k) (at_ p i) = true)
  | 0, l, r, h1, h2, h3, u, a, b => ⟨by omega, a, fun i h => b i (by omega)⟩
  | f + 1, l, r, h1, h2, h3, u, a, b => by
    unfold kas_place
    by_cases c : l ≥ r
    · rw [if_pos c]
      exact ⟨by omega, a, fun i h => b i (by omega)⟩
    · rw [if_neg c]
      refine ⟨⟨hp.bd hk, hp.bd (by omega)⟩, ?_⟩
      cases e : lt (p.getD k 0) (p.getD ((l + r) / 2) 0) with
      | true =>
        dsimp only
        rw [if_pos rfl]
        refine kg_place o hp hk f l ((l + r) / 2) (by omega) (by omega) (by omega) u a fun i hi hk' => ?_
        exact o.lt_le e (u _ _ hi hk')
      | false =>
        dsimp only
        rw [if_neg (by simp)]
        refine kg_place o hp hk f ((l + r) / 2 + 1) r (by omega) h2 (by omega) u (fun i hi => ?_) b
        exact o.tr _ _ _ e (u i ((l + r) / 2) (by omega) (by omega))
theorem kg_bin (o : Ord lt) : ∀ (f : Nat) (p : Array Nat) (k : Nat), Pm N p → k + f = N → Up lt p k → Kg lt N (kas_bin f p k) (fun p' => Pm N p' ∧ Up lt p' N)
  | 0, p, k, hp, hk, u => by
    have : k = N := by omega
    subst this
    exact ⟨hp, u⟩
  | f + 1, p, k, hp, hk, u => by
    unfold kas_bin
    refine Kg.bind ((kg_place o hp (by omega) k 0 k (by omega) (Nat.le_refl _) (by omega) u (fun i h => absurd h (by omega)) (fun i h1 h2 => absurd h2 (by omega))).imp fun l ⟨q1, q2, q3⟩ => ?_)
    refine kg_bin o f _ (k + 1) (hp.bub _ _) (by omega) ?_
    intro i j hij hj
    have bi := bub_at hp (k := k) (l := l) (by omega) q1 i
    have bj := bub_at hp (k := k) (l := l) (by omega) q1 j
    rw [bi, bj]
    by_cases e : j = l
    · rw [if_pos e]
      by_cases e' : i = l
      · rw [if_pos e']; exact o.irr _
      · rw [if_neg e', if_neg (by omega)]
        exact q2 i (by omega)
    · rw [if_neg e]
      by_cases d : l < j ∧ j ≤ k
      · rw [if_pos d]
        by_cases e' : i = l
        · rw [if_pos e']
          exact o.as _ _ (q3 (j - 1) (by omega) (by omega))
        · rw [if_neg e']
          by_cases d' : l < i ∧ i ≤ k
          · rw [if_pos d']
            exact u _ _ (by omega) (by omega)
          · rw [if_neg d']
            exact u _ _ (by omega) (by omega)
      · rw [if_neg d, if_neg (by omega), if_neg (by omega)]
        exact u _ _ hij (by omega)
theorem kg_sort (o : Ord lt) (h1 : 1 ≤ N) : Kg lt N (kas_sort N) (fun p => Pm N p ∧ Up lt p N) := by
  have h0 : Pm N (List.toArray (List.range N)) := ⟨by simp, by simp⟩
  unfold kas_sort
  refine Kg.bind ((kg_count o h0 h1).imp fun r ⟨q1, q2, q3, q4⟩ => ?_)
  by_cases c : r.1 < N
  · rw [if_pos c]
    have z : max r.1 1 = r.1 := by omega
    rw [z]
    exact kg_bin o _ _ _ q1 (by omega) q4
  · rw [if_neg c]
    have z : r.1 = N := by omega
    rw [z] at q4
    exact ⟨q1, q4⟩
end
def ltP (a b : Int × Int) : Bool := decide (a.1 < b.1) || (decide (a.1 = b.1) && decide (a.2 < b.2))
theorem ltP_as {a b : Int × Int} (h : ltP a b = true) : ltP b a = false := by
  unfold ltP at h ⊢
  simp at h ⊢
  omega
theorem ltP_tr {a b c : Int × Int} (h : ltP a b = false) (k : ltP b c = false) : ltP a c = false := by
  unfold ltP at h k ⊢
  simp at h k ⊢
  omega
theorem ltP_eq {a b : Int × Int} (h : ltP a b = false) (k : ltP b a = false) : a = b := by
  unfold ltP at h k
  simp at h k
  exact Prod.ext (by omega) (by omega)
def insP (n : Int × Int) : List (Int × Int) → List (Int × Int)
  | [] => [n]
  | a :: r => if ltP a n = true then a :: insP n r else n :: a :: r
def srtP : List (Int × Int) → List (Int × Int)
  | [] => []
  | a :: r => insP a (srtP r)
theorem insP_perm (n : Int × Int) : ∀ l, (insP n l).Perm (n :: l)
  | [] => .refl _
  | a :: r => by
    unfold insP
    split
    · exact ((insP_perm n r).cons a).trans (.swap n a r)
    · exact .refl _
theorem srtP_perm : ∀ l, (srtP l).Perm l
  | [] => .nil
  | a :: r => (insP_perm a (srtP r)).trans ((srtP_perm r).cons a)
abbrev UpP (l : List (Int × Int)) : Prop := l.Pairwise fun a b => ltP b a = false
theorem insP_up (n : Int × Int) : ∀ l, UpP l → UpP (insP n l)
  | [], _ => by simp [insP]
  | a :: r, h => by
    unfold insP
    rw [UpP, List.pairwise_cons] at h
    split
    · rename_i c
      rw [UpP, List.pairwise_cons]
      refine ⟨fun b hb => ?_, insP_up n r h.2⟩
      rcases List.mem_cons.mp ((insP_perm n r).mem_iff.mp hb) with z | z
      · rw [z]; exact ltP_as c
      · exact h.1 b z
    · rename_i c
      have c' : ltP a n = false := by simpa using c
      rw [UpP, List.pairwise_cons, List.pairwise_cons]
      refine ⟨fun b hb => ?_, h⟩
      rcases List.mem_cons.mp hb with z | z
      · rw [z]; exact c'
      · exact ltP_tr (h.1 b z) c'
theorem srtP_up : ∀ l, UpP (srtP l)
  | [] => .nil
  | a :: r => insP_up a _ (srtP_up r)
theorem srtP_one {a b : List (Int × Int)} (h : a.Perm b) (ha : UpP a) (hb : UpP b) : a = b :=
  List.Perm.eq_of_pairwise (fun _ _ _ _ h1 h2 => ltP_eq h2 h1) ha hb h
section
variable {prog : Program} {w : World} {A : Around} {E : Value → Shared → Prop} {s : Shared}
theorem lt_pair {x y : Addr} {ox oy : Obj} {a1 a2 b1 b2 : Int} {t1 t2 u1 u2 : Tok} {n k : Nat} {Q : Bool → Shared → Prop} (hx : s.heap.get? x = some ox) (dx : ox.data = .seq #[.int a1 t1, .int a2 t2] n) (hy : s.heap.get? y = some oy) (dy : oy.data = .seq #[.int b1 u1, .int b2 u2] k)
    (h : Q (ltP (a1, a2) (b1, b2)) s) : wpAny (model prog w) A (keyLt' (tuples' true) (.ref x) (.ref y)) Q E s := by
  have hq : ∀ b, b = ltP (a1, a2) (b1, b2) → Q b s := fun b e => by rw [e]; exact h
  refine kat_lt hx dx hy dy ?_
  refine kat_cons (wpAny_eqBool_int (kat_go (fun e => kat_yes ?_) (fun e => kat_no ?_)))
  · refine kat_cons (wpAny_eqBool_int (kat_go (fun e2 => kat_yes ?_) (fun e2 => kat_no ?_)))
    · refine kat_nil (hq _ ?_)
      have z1 : a1 = b1 := by simpa using e
      have z2 : a2 = b2 := by simpa using e2
      subst z1 z2
      simp [ltP]
    · refine kat_one _ _ (PyProof.Rows.lt_int ?_)
      show Q (decide (a2 < b2)) s
      refine hq _ ?_
      have z1 : a1 = b1 := by simpa using e
      subst z1
      simp [ltP]
  · refine oneLt_int (hq _ ?_)
    have z1 : ¬ a1 = b1 := by simpa using e
    simp [ltP, z1]
end
theorem paired_getD {α β : Type} {F : α → β → Prop} {a : α} {b : β} : ∀ {l : List α} {k : List β} {i : Nat}, Paired F l k → i < k.length → F (l.getD i a) (k.getD i b)
  | _, _, 0, .cons h _, _ => by simpa using h
  | _, _, i + 1, .cons _ t, hi => by simpa using paired_getD (i := i) t (by simpa using hi)
theorem paired_map {α β : Type} {F : α → β → Prop} {f : Nat → α} {g : Nat → β} : ∀ {l : List Nat}, (∀ i ∈ l, F (f i) (g i)) → Paired F (l.map f) (l.map g)
  | [], _ => .nil
  | i :: l, h => .cons (h i (by simp)) (paired_map fun j hj => h j (by simp [hj]))
def TupAt (h : Heap) (v : Value) (q : Int × Int) : Prop := ∃ (a : Addr) (o : Obj) (t u : Tok) (n : Nat), v = .ref a ∧ h.get? a = some o ∧ o.cls = .type "tuple" ∧ o.data = .seq #[.int q.1 t, .int q.2 u] n
abbrev PrA (H : Hp) : List V → List (Int × Int) → Prop := Paired fun v q => ∃ a, v = .ref a ∧ H a = some (.tup [.int q.1, .int q.2])
theorem vals_pair {x y : Int} {its : List Value} (h : Vals [.int x, .int y] its) : ∃ t u, its = [.int x t, .int y u] := by
  cases h with
  | cons h1 h2 =>
    cases h2 with
    | cons h3 h4 =>
      cases h4
      obtain ⟨t, rfl⟩ := h1
      obtain ⟨u, rfl⟩ := h3
      exact ⟨t, u, rfl⟩
section
variable {X : Cx} {pins : List (Addr × Obj)} {σ : St} {H : Hp} {s : Shared}
theorem prA_at (I : Inv X pins σ H s) : ∀ {vs : List V} {ps : List (Int × Int)} {its : List Value}, PrA H vs ps → Vals vs its → Paired (TupAt s.heap) its ps
  | _, _, _, .nil, .nil => .nil
  | _, _, _, .cons h t, .cons r rs => by
    obtain ⟨a, rfl, hT⟩ := h
    cases r
    obtain ⟨its, rv, ⟨o, g1, g2, n, g3⟩, _⟩ := I.tuple (SqT.of hT)
    obtain ⟨t1, u1, rfl⟩ := vals_pair rv
    exact .cons ⟨a, o, t1, u1, n, rfl, g1, g2, g3⟩ (prA_at I t rs)
end
theorem tups_kat {h : Heap} : ∀ {its : List Value} {ps : List (Int × Int)}, Paired (TupAt h) its ps → ∃ fs : List Value, KatTups h its fs ∧ fs.length = ps.length ∧ ∀ v ∈ fs, ∃ i t, v = .int i t
  | _, _, .nil => ⟨[], .nil, rfl, (fun _ z => by cases z)⟩
  | _, _, .cons (b := q) hd tl => by
    obtain ⟨fs, k1, k2, k3⟩ := tups_kat tl
    obtain ⟨a, o, t, u, n, rfl, g1, g2, g3⟩ := hd
    refine ⟨.int q.1 t :: fs, .cons g1 g2 g3 rfl k1, by simp [k2], fun v hv => ?_⟩
    rcases List.mem_cons.mp hv with z | z
    · exact ⟨_, _, z⟩
    · exact k3 v z
theorem tups_keep {h h' : Heap} (k : ∀ a o its n, h.get? a = some o → o.data = .seq its n → h'.get? a = some o) : ∀ {its : List Value} {ps : List (Int × Int)}, Paired (TupAt h) its ps → Paired (TupAt h') its ps
  | _, _, .nil => .nil
  | _, _, .cons hd tl => by
    obtain ⟨a, o, t, u, n, e, g1, g2, g3⟩ := hd
    exact .cons ⟨a, o, t, u, n, e, k a o _ _ g1 g3, g2, g3⟩ (tups_keep k tl)
theorem ns_fun {h h' : Heap} {L : Addr} {m m' : Str → Option Value} (a : h.Ns L m) (b : h.Ns L m') (c : h'.Ns L m) : h'.Ns L m' := by
  obtain ⟨o, es, ep, e1, e2, _, e4⟩ := a
  obtain ⟨o', es', ep', f1, f2, _, f4⟩ := b
  rw [e1] at f1
  cases f1
  rw [e2] at f2
  cases f2
  have : m = m' := funext fun x => (e4 x).symm.trans (f4 x)
  rw [← this]
  exact c
theorem range_getD {α : Type} {d : α} (l : List α) : (List.range l.length).map (fun i => l.getD i d) = l := by
  refine List.ext_getElem (by simp) fun i h1 h2 => ?_
  simp [h2]
section
variable {X : Cx}
theorem call_srtP : CallR X (.builtin "sorted") (fun xs H Q => ∃ (p : Addr) (vs : List V) (ps : List (Int × Int)), xs = [.ref p] ∧ SqL X.K H p vs ∧ PrA H vs ps ∧ 2 ≤ ps.length ∧ ps.length < 64 ∧ ∀ l vs', H l = none → PrA H vs' (srtP ps) → Q (.ref l) (upd H l (.lst vs'))) := by
  intro pins s σ H xs us Q I r h
  obtain ⟨p, vs, ps, rfl, hq, hp, h2, h64, q⟩ := h
  obtain ⟨u, rfl, rx⟩ := vals1 r
  cases rx
  obtain ⟨its, r', pl, hz⟩ := I.list hq
  have tu := prA_at I hp r'
  have l1 : vs.length = its.length := r'.length
  have l2 : its.length = ps.length := tu.length
  obtain ⟨m, hn, hl⟩ := id I.loc
  obtain ⟨oL, esL, epL, gL, dL, _⟩ := id hn
  refine kat_sorted (Att.fr_all hn) (news_all (g := Att.noObjs s.heap) (h := s.heap) (L := X.env.locals)) pl.isList (by omega) (by omega) fun D e1 h' F' N' hD => ?_
  have keep : ∀ b o, b ≠ X.env.locals → s.heap.get? b = some o → h'.get? b = some o := fun b o n e => (N' (b, o) (List.mem_cons_of_mem _ (mem_allNews n (Att.noObjs_get _ _) e))).1
  have tu' : Paired (TupAt h') its ps := tups_keep (fun a o its n e d => keep a o (fun z => by
    subst z
    rw [gL] at e
    cases e
    rw [dL] at d
    cases d) e) tu
  obtain ⟨fs, k1, k2, k3⟩ := tups_kat tu'
  refine kat_kind (T := .type "int") (s := { s with heap := h' }) k1 (by omega) (fun v hv => by obtain ⟨i, t, rfl⟩ := k3 v hv; exact Looks.of_pure rfl) (by decide) ?_
  have et : (Value.type "int" != Value.type "tuple") = true := by decide
  rw [et, l2]
  have od : Ord fun i j => ltP (ps.getD i (0, 0)) (ps.getD j (0, 0)) := ⟨fun a b h => ltP_as h, fun a b c h k => ltP_tr h k⟩
  refine Kg.wp (lt := fun i j => ltP (ps.getD i (0, 0)) (ps.getD j (0, 0))) (N := ps.length) (P := fun s'' => s'' = { s with heap := h' }) (fun i j C s'' hi hj hs hC => ?_) rfl ((kg_sort od (by omega)).imp fun pm ⟨P1, P2⟩ s'' hs => ?_)
  · subst hs
    obtain ⟨a, o, t, u, n, e, g1, g2, g3⟩ := paired_getD (a := Value.none) (b := (0, 0)) tu' hi
    obtain ⟨a', o', t', u', n', e', g1', g2', g3'⟩ := paired_getD (a := Value.none) (b := (0, 0)) tu' hj
    unfold kas_ask
    rw [e, e']
    exact lt_pair (s := { s with heap := h' }) g1 g3 g1' g3' (hC _ rfl)
  · subst hs
    refine KasFin.intro (s := { s with heap := h' }) F' N' (.head fun q hq => Nat.ne_of_lt (hD q hq)) fun h'' c F'' N'' => ?_
    have hDL : D ≠ X.env.locals := (N' (D, _) List.mem_cons_self).2.1
    have keep2 : ∀ b o, b ≠ X.env.locals → s.heap.get? b = some o → h''.get? b = some o := fun b o n e => (N'' (b, o) (List.mem_cons_of_mem _ (mem_allNews n (Att.noObjs_get _ _) e))).1
    have hD0 : s.heap.get? D = none := by
      cases e : s.heap.get? D with
      | none => rfl
      | some o => exact absurd (hD (D, o) (mem_allNews hDL (Att.noObjs_get _ _) e)) (Nat.lt_irrefl _)
    have hHD : H D = none := by
      cases e : H D with
      | none => rfl
      | some ob =>
        obtain ⟨z, e'⟩ := objOk_get (I.hok D ob e)
        rw [hD0] at e'
        cases e'
    have mem : ∀ i ∈ pm.toList, i < ps.length := fun i hi => List.mem_range.mp (P1.pm.mem_iff.mp hi)
    have hv : Vals (pm.toList.map fun i => vs.getD i .non) (pm.toList.map fun i => its.getD i Value.none) := paired_map fun i hi => paired_getD r' (by have := mem i hi; omega)
    have hsr : (pm.toList.map fun i => ps.getD i (0, 0)) = srtP ps := by
      refine srtP_one ((P1.pm.map _).trans (by rw [range_getD]; exact (srtP_perm ps).symm)) ?_ (srtP_up _)
      rw [UpP, List.pairwise_map, List.pairwise_iff_getElem]
      intro i j hi hj hij
      have z := P2 i j (by omega) (by have := P1.sz; simpa [this] using hj)
      have ei : at_ pm i = pm.toList[i] := by
        have : i < pm.size := by simpa using hi
        simp [at_, Array.getD, this]
      have ej : at_ pm j = pm.toList[j] := by
        have : j < pm.size := by simpa using hj
        simp [at_, Array.getD, this]
      rw [ei, ej] at z
      exact z
    have hpr : PrA H (pm.toList.map fun i => vs.getD i .non) (srtP ps) := by
      rw [← hsr]
      exact paired_map fun i hi => paired_getD hp (mem i hi)
    have hlen : pm.toList.length = ps.length := by have := P1.sz; simpa using this
    have neD : ∀ b u, H b = some u → b ≠ D := fun b u e => ne_of_none e hHD
    have neL : ∀ b u, H b = some u → b ≠ X.env.locals := fun b u e => ne_of_none e I.free
    have I' : Inv X pins σ (upd H D (.lst (pm.toList.map fun i => vs.getD i .non))) { s with heap := h'' } := by
      refine I.step (g' := s.gens) (d' := s.drawn) (t' := s.toks) (ch := []) (fun _ z => nomatch z) (fun b o n _ _ e _ => keep2 b o n e) (fun b o n _ _ e _ => ⟨o.slots, keep2 b o n e⟩) (fun b o _ e n => ?_) (fun b o _ e => ?_) (fun b xs e => ?_) (fun b o u e => ?_) (fun b ps e => ?_) (fun m' hm => ns_fun hn hm F''.ns) (fun b ob e => ?_) I.bare
      · rw [upd_ne (fun z => by subst z; rw [hD0] at e; cases e)]; exact n
      · by_cases z : b = X.env.locals
        · subst z
          obtain ⟨o', _, _, e', _⟩ := F''.ns
          exact ⟨o', e'⟩
        · exact ⟨o, keep2 b o z e⟩
      · rw [upd_ne (neD _ _ e)]; exact e
      · rw [upd_ne (neD _ _ e)]; exact e
      · exact ⟨#[], by rw [upd_ne (neD _ _ e), e]; simp⟩
      · by_cases z : b = D
        · subst z
          rw [upd_same] at e
          cases e
          exact ⟨by rw [List.length_map, hlen, ← l2, ← l1]; exact hz, _, c, hv, (N'' (b, _) List.mem_cons_self).1⟩
        · rw [upd_ne z] at e
          refine (I.hok b ob e).stay (fun c v hc q => keep2 c v ?_ q) (fun c q => by rw [upd_ne (neD _ _ q)]; exact q) fun c xs q => by rw [upd_ne (neD _ _ q)]; exact q
          rcases hc with y | y
          · rw [y]; exact neL b ob e
          · exact neL c _ y
    exact ⟨.ref D, _, I', rfl, q D _ hHD hpr⟩
end
section
variable {prog : Program} {w : World} {A : Around} {E : Value → Shared → Prop} {s : Shared}
theorem lsort_one {a : Addr} {v : Value} {n : Nat} {P : PySem.Fin → Shared → Prop} (ho : s.heap.get? a = some (seqObj "list" #[v] n)) (k : P (.done (.ret .none)) { s with heap := sortedHeap s.heap a [v] #[v] }) : wpAny (model prog w) A (Builtin.«list.sort» ⟨[.ref a], []⟩) P E s := by
  obtain ⟨c, hc⟩ : ∃ c, (s.heap.update a (Obj.mapSeq fun _ => (#[] : Array Value))).get? a = some (seqObj "list" #[] c) := ⟨_, get?_update_seq ho fun _ => #[]⟩
  have big : (((s.heap.update a (Obj.mapSeq fun _ => (#[] : Array Value))).push (seqObj "tuple" #[v] 0)).push (seqObj "list" #[] 0)).get? a = some (seqObj "list" #[] c) := Heap.get?_push_of_some _ (Heap.get?_push_of_some _ hc)
  rw [list_sort_plain]
  refine wpAny_bind (listItems_at ho rfl (wpAny_bind (listUpdate_at ho rfl (wpAny_bind (seqEpoch_at hc rfl (wpAny_bind (wpAny_newTuple (wpAny_bind (wpAny_newList (wpAny_holding ?_)))))))))) 
  show wpAny (model prog w) A _ P E { s with heap := ((s.heap.update a (Obj.mapSeq fun _ => (#[] : Array Value))).push (seqObj "tuple" #[v] 0)).push (seqObj "list" #[] 0) }
  have few : (#[v] : Array Value).size < 2 := by simp
  dsimp only
  rw [if_pos few, if_pos few]
  refine wpAny_bind (wpAny_pure (wpAny_bind ?_))
  rw [StateT.run_pure]
  refine wpAny_pure ?_
  have mp : Array.map (fun x : Keyed => x.2) (arrOf (SortSt.mk' general' (#[v].zip #[v]) #[] 7 none)) = #[v] := by
    show Array.map (fun x : Keyed => x.2) (#[v].zip #[v]) = #[v]
    simp
  dsimp only
  simp only [mp]
  refine wpAny_bind (seqEpoch_at big rfl (wpAny_bind (listUpdate_at big rfl ?_)))
  simp only [bne_self_eq_false, Bool.false_eq_true, if_false]
  exact wpAny_pure k
theorem sorted_one {l : Addr} {v : Value} {Q : Value → Shared → Prop} (hl : s.heap.IsList l #[v]) (k : Q (.ref (s.heap.objs.size + 1)) { s with heap := sortedAll s.heap [v] #[v] }) : wpAny (model prog w) A (call (.builtin "sorted") [.ref l]) Q E s := by
  have zz : ((s.heap.push (seqObj "list" #[] 0)).update s.heap.objs.size (Obj.mapSeq (· ++ #[v]))).objs.size = s.heap.objs.size + 1 := (Heap.size_update ..).trans (size_push' ..)
  have hh : (((s.heap.push (seqObj "list" #[] 0)).update s.heap.objs.size (Obj.mapSeq (· ++ #[v]))).push (seqObj "list" #[v] 0)).get? (s.heap.objs.size + 1) = some (seqObj "list" #[v] 0) := zz ▸ Heap.get?_push_size _ rfl
  refine Calls.call_function_entry kind_sorted plain_sorted entry_sorted (args_sorted1 _) ?_
  unfold Builtin.«sorted»
  refine wpAny_bind (m := checkCount "sorted" 1 1 _) (wpAny_pure (wpAny_bind (collect_list hl (wpAny_bind (wpAny_newList ?_)))))
  show wpAny _ _ _ _ _ { s with heap := ((s.heap.push (seqObj "list" #[] 0)).update s.heap.objs.size (Obj.mapSeq (· ++ #[v]))).push (seqObj "list" #[v] 0) }
  rw [zz]
  exact wpAny_bind (wpAny_holding (wpAny_call_entry slot_list_sort ⟨_, hh, rfl⟩ entry_list_sort (lsort_one hh ⟨_, rfl, wpAny_pure ⟨_, rfl, k⟩⟩) (args_list_sort _)))
end
section
variable {X : Cx}
theorem call_srt1 : CallR X (.builtin "sorted") (fun xs H Q => ∃ (p : Addr) (v : V), xs = [.ref p] ∧ SqL X.K H p [v] ∧ ∀ l, H l = none → Q (.ref l) (upd H l (.lst [v]))) := by
  intro pins s σ H xs us Q I r h
  obtain ⟨p, v, rfl, hq, q⟩ := h
  obtain ⟨u, rfl, rx⟩ := vals1 r
  cases rx
  obtain ⟨its, r', pl, hz⟩ := I.list hq
  cases r' with
  | cons h1 h2 =>
    cases h2
    rename_i u
    obtain ⟨n, hat⟩ := sortedAll_at s.heap [u] #[u]
    refine sorted_one pl.isList ⟨.ref (s.heap.objs.size + 1), _, I.laid (t' := s.toks) (fun _ _ => sortedAll_old) (Nat.le_succ _) (show ObjOk X.prog X.w _ _ _ (.lst _) from ⟨hz, [u], n, .cons h1 .nil, ?_⟩), rfl, q _ (I.hok.fresh (Nat.le_succ _))⟩
    rw [hat]
def pairsW : List Wv → Option (List (Int × Int))
  | [] => some []
  | .tup [.int a, .int b] :: r => (match pairsW r with | some l => some ((a, b) :: l) | none => none)
  | _ => none
abbrev pw (p : Int × Int) : Wv := .tup [.int p.1, .int p.2]
theorem pairsW_rel {K : PySem.W.Frag} {m : Mp} {H : Hp} : ∀ {ws : List Wv} {vs : List V} {ps : List (Int × Int)}, RelWs K m H ws vs → pairsW ws = some ps → PrA H vs ps
  | [], vs, ps, r, e => by
    unfold RelWs at r
    subst r
    cases e
    exact .nil
  | w :: ws, vs, ps, r, e => by
    unfold RelWs at r
    obtain ⟨x, t, rfl, r1, r2⟩ := r
    unfold pairsW at e
    split at e
    · cases ‹_ :: _ = []›
    · rename_i a b r' he
      cases he
      cases q : pairsW ws with
      | none => rw [q] at e; cases e
      | some l =>
        rw [q] at e
        cases e
        unfold RelW at r1
        obtain ⟨ad, xs, rfl, hT, rx⟩ := r1
        unfold RelWs at rx
        obtain ⟨y1, z1, rfl, ry1, rx⟩ := rx
        unfold RelWs at rx
        obtain ⟨y2, z2, rfl, ry2, rx⟩ := rx
        unfold RelWs at rx
        subst rx
        unfold RelW at ry1 ry2
        subst ry1 ry2
        exact .cons ⟨ad, rfl, hT⟩ (pairsW_rel r2 q)
    · cases e
theorem rel_pairsW {K : PySem.W.Frag} {m : Mp} {H : Hp} : ∀ {vs : List V} {ps : List (Int × Int)}, PrA H vs ps → RelWs K m H (ps.map pw) vs
  | _, _, .nil => RelWs.nil
  | _, _, .cons h t => by
    obtain ⟨a, rfl, hT⟩ := h
    refine RelWs.cons ?_ (rel_pairsW t)
    unfold RelW
    exact ⟨a, _, rfl, hT, RelWs.cons (by unfold RelW; rfl) (RelWs.cons (by unfold RelW; rfl) RelWs.nil)⟩
def oSrt2 : List Wv → Hs → Re Wv
  | [.ref l], st => match lstOf st l with
    | some [w] => .ok (.ref st.length) (st ++ [.lst [w]])
    | some ws => (match pairsW ws with | some ps => if 2 ≤ ps.length ∧ ps.length < 64 then .ok (.ref st.length) (st ++ [.lst ((srtP ps).map pw)]) else oSrt [.ref l] st | none => oSrt [.ref l] st)
    | none => .bad
  | _, _ => .bad
theorem cw_srt2 : CallW X (.builtin "sorted") oSrt2 := by
  obtain ⟨rr, h1, h2⟩ := cw_srt (X := X)
  refine ⟨_, call_srt1.or (call_srtP.or h1), fun ws vs st H m Q S rs p => ?_⟩
  match ws, rs, p with
  | [], rs, p => exact False.elim p
  | x :: y :: t, rs, p => cases x <;> exact False.elim p
  | [x], rs, p =>
    cases x with
    | ref l =>
      have rs0 := rs
      obtain ⟨v, rfl, r1⟩ := rel1 rs
      unfold oSrt2 at p
      unfold RelW at r1
      obtain ⟨a, rfl, hl⟩ := r1
      cases e : lstOf st l with
      | none => simp only [e] at p; exact False.elim p
      | some ws =>
        simp only [e] at p
        obtain ⟨xs, q1, q2⟩ := S.read hl e
        have alt : (∃ w, ws = [w]) ∨ PostO X.K m H (match pairsW ws with | some ps => if 2 ≤ ps.length ∧ ps.length < 64 then .ok (.ref st.length) (st ++ [.lst ((srtP ps).map pw)]) else oSrt [.ref l] st | none => oSrt [.ref l] st) Q := by
          cases ws with
          | nil => exact .inr p
          | cons w t =>
            cases t with
            | nil => exact .inl ⟨w, rfl⟩
            | cons w' t => exact .inr p
        rcases alt with ⟨w, rfl⟩ | p
        · unfold RelWs at q2
          obtain ⟨x, r, rfl, rx, q3⟩ := q2
          unfold RelWs at q3
          subst q3
          refine .inl ⟨a, x, rfl, q1, fun k hk => ?_⟩
          exact p (.ref k) (m ++ [k]) _ (Ext.more.trans (Ext.upd (.inl hk))) (S.alloc hk (RelWs.cons rx RelWs.nil)) (S.newest k _)
        · cases e2 : pairsW ws with
          | none => rw [e2] at p; exact .inr (.inr (h2 [.ref l] [.ref a] st H m Q S rs0 p))
          | some ps =>
            rw [e2] at p
            dsimp only at p
            by_cases c : 2 ≤ ps.length ∧ ps.length < 64
            · rw [if_pos c] at p
              refine .inr (.inl ⟨a, xs, ps, rfl, q1, pairsW_rel q2 e2, c.1, c.2, fun k vs' hk hp => ?_⟩)
              exact p (.ref k) (m ++ [k]) _ (Ext.more.trans (Ext.upd (.inl hk))) (S.alloc hk (rel_pairsW hp)) (S.newest k _)
            · rw [if_neg c] at p
              exact .inr (.inr (h2 [.ref l] [.ref a] st H m Q S rs0 p))
    | _ => exact False.elim p
end
end J
namespace J
open PySem PySem.Spec PyProof.Rows L2
def keysOf : List Wv → Option (List L2.Key)
  | [] => some []
  | w :: r => (match keyOf w, keysOf r with | some k, some l => some (k :: l) | _, _ => none)
def keyT : Wv → Option (List L2.Key)
  | .tup ws => keysOf ws
  | _ => none
section
variable {X : Cx}
end
end J
namespace J
open PySem PySem.Spec PyProof.Rows PySem.W L2
def DRaw (h : Heap) (d : Addr) (es : Array DictEntry) (ep : Nat) : Prop := ∃ o, h.get? d = some o ∧ o.cls = .type "dict" ∧ o.data = .dict es ep
section
variable {prog : Program} {w : World} {A : Around} {E : Value → Shared → Prop} {s : Shared} {d it : Addr} {es : Array DictEntry} {ep i : Nat}
theorem DRaw.ty (x : DRaw s.heap d es ep) : s.TypeIs (.ref d) "dict" := let ⟨o, h1, h2, _⟩ := x; ⟨o, h1, h2⟩
theorem raw_iter {Q : Value → Shared → Prop} (lo : (d == sysModules) = false) (x : DRaw s.heap d es ep)
    (k : Q (.ref s.heap.objs.size) { s with heap := s.heap.push { cls := .type "dict_keyiterator", data := .fields #[.ref d, .int 0 0, .int es.size 0, .int ep 0] } }) : wpAny (model prog w) A (pyIter (.ref d)) Q E s := by
  have ty := x.ty
  obtain ⟨o, g1, g2, g3⟩ := x
  refine wpAny_pyIter_slot ty PySem.F.slot_dict_iter (wpAny_call_entry PySem.F.slot_dict_iter ty PySem.F.entry_dict_iter ?_ (PySem.F.args_dict_iter_1 _))
  unfold Builtin.«dict.__iter__» Builtin.Dict.dictSlotNone
  refine wpAny_bind (wpAny_bind (wpAny_notOrdered_dict ty (wpAny_pure ?_)))
  unfold Builtin.Dict.showsAll
  have nlo : ¬ (d == sysModules) = true := by rw [lo]; exact Bool.false_ne_true
  refine wpAny_bind (show wpAny _ _ (pure d) _ _ s from wpAny_pure (wpAny_bind ?_))
  rw [if_neg nlo]
  exact wpAny_pure (wpAny_bind (wpAny_dictEntries g1 g3 (wpAny_bind (wpAny_dictEpoch g1 g3 (wpAny_bind (wpAny_newObj_type (wpAny_pure ⟨_, rfl, "dict_keyiterator", _, ⟨_, Heap.get?_push_size _ rfl, rfl⟩, PySem.F.slot_dict_keyiterator_next.lookup, by simpa [rawInt] using k⟩)))))))
theorem raw_item {Q : Option Value → Shared → Prop} (ki : s.heap.IsKeyIter it d i es.size ep) (x : DRaw s.heap d es ep) (hi : i < es.size)
    (k : ∀ h', h'.IsKeyIter it d (i + 1) es.size ep → Heap.SameBut it s.heap h' → Q (some es[i].key) { s with heap := h' }) : wpAny (model prog w) A (pyNext (.ref it)) Q E s := by
  have ty := ki.typeIs
  obtain ⟨oi, f1, f2, f3⟩ := id ki
  obtain ⟨o, g1, g2, g3⟩ := x
  have own : Builtin.Dict_items.ownsTuple "dict_keyiterator" = false := by decide
  have nn : ¬ ((Value.ref d == Value.none) = true) := Bool.false_ne_true
  unfold pyNext
  refine wpAny_bind (wpAny_attempt (wpAny_callSpecial?_slot (name := Str.ofString "__next__") ty PySem.F.slot_dict_keyiterator_next (wpAny_call_entry PySem.F.slot_dict_keyiterator_next ty PySem.F.entry_dict_keyiterator_next ?_ (PySem.F.args_dict_keyiterator_next_1 _))))
  refine wpAny_bind (wpAny_pure (wpAny_bind (wpAny_bind ?_)))
  first | refine wpAny_bind (wpAny_typeNameOfWhole_keyiter ty (wpAny_pure (wpAny_bind (wpAny_fieldsOf f1 f3 ?_)))) | refine wpAny_bind (wpAny_typeNameOf_keyiter ty (wpAny_pure (wpAny_bind (wpAny_fieldsOf f1 f3 ?_))))
  simp only [own, Bool.false_eq_true, if_false]
  refine (show wpAny _ _ (if (Value.ref d == Value.none) = true then _ else _) _ _ s from ?_); rw [if_neg nn]
  refine wpAny_bind (wpAny_pure (wpAny_bind (wpAny_dictEntries g1 g3 ?_)))
  rw [if_neg (by simp)]
  refine wpAny_bind (wpAny_pure (wpAny_bind (wpAny_dictEpoch g1 g3 ?_)))
  rw [if_neg (by simp)]
  refine wpAny_pure ?_
  have n0 : ¬ ((i : Int) < 0) := by omega
  simp only [n0, if_false, Int.toNat_natCast, Array.getElem?_eq_getElem hi]
  refine wpAny_bind ?_
  first | refine wpAny_bind (wpAny_typeNameOfWhole_keyiter ty (wpAny_pure (wpAny_bind (wpAny_isOneOf_keyiter ty ?_)))) | refine wpAny_bind (wpAny_typeNameOf_keyiter ty (wpAny_pure (wpAny_bind (wpAny_isOneOf_keyiter ty ?_))))
  refine (show wpAny _ _ (setField (.ref it) 1 (rawInt ((i : Int) + 1)) >>= _) _ _ s from ?_)
  have ki' : (s.heap.update it (Obj.mapFields (·.setIfInBounds 1 (rawInt ((i : Int) + 1))))).IsKeyIter it d (i + 1) es.size ep := ⟨_, Heap.get?_update_self _ f1 (Obj.isFreed_of_fields (Obj.data_mapFields f3 _)), (Obj.cls_mapFields ..).trans f2, by rw [Obj.data_mapFields f3]; simp [rawInt]⟩
  refine wpAny_bind (wpAny_setField f1 f3 (by simp) (wpAny_bind (wpAny_holding (wpAny_bind (wpAny_isOneOf_keyiter (s := { s with heap := s.heap.update it (Obj.mapFields (·.setIfInBounds 1 (rawInt ((i : Int) + 1)))) }) ki'.typeIs ?_)))))
  exact (show wpAny _ _ (pure es[i].key) _ _ _ from wpAny_pure (wpAny_pure ⟨_, rfl, wpAny_pure (k _ ki' (Heap.SameBut.update ..))⟩))
theorem raw_end {Q : Option Value → Shared → Prop} (hh : A.handled = none) (ki : s.heap.IsKeyIter it d i es.size ep) (x : DRaw s.heap d es ep) (hi : es.size ≤ i) (k : ∀ h', Heap.ExtBut it s.heap h' → Q none { s with heap := h' }) : wpAny (model prog w) A (pyNext (.ref it)) Q E s := by
  have ty := ki.typeIs
  obtain ⟨oi, f1, f2, f3⟩ := id ki
  obtain ⟨o, g1, g2, g3⟩ := x
  have own : Builtin.Dict_items.ownsTuple "dict_keyiterator" = false := by decide
  have nn : ¬ ((Value.ref d == Value.none) = true) := Bool.false_ne_true
  unfold pyNext
  refine wpAny_bind (wpAny_attempt (wpAny_callSpecial?_slot (name := Str.ofString "__next__") ty PySem.F.slot_dict_keyiterator_next (wpAny_call_entry PySem.F.slot_dict_keyiterator_next ty PySem.F.entry_dict_keyiterator_next ?_ (PySem.F.args_dict_keyiterator_next_1 _))))
  refine wpAny_bind (wpAny_pure (wpAny_bind (wpAny_bind ?_)))
  first | refine wpAny_bind (wpAny_typeNameOfWhole_keyiter ty (wpAny_pure (wpAny_bind (wpAny_fieldsOf f1 f3 ?_)))) | refine wpAny_bind (wpAny_typeNameOf_keyiter ty (wpAny_pure (wpAny_bind (wpAny_fieldsOf f1 f3 ?_))))
  simp only [own, Bool.false_eq_true, if_false]
  refine (show wpAny _ _ (if (Value.ref d == Value.none) = true then _ else _) _ _ s from ?_); rw [if_neg nn]
  refine wpAny_bind (wpAny_pure (wpAny_bind (wpAny_dictEntries g1 g3 ?_)))
  rw [if_neg (by simp)]
  refine wpAny_bind (wpAny_pure (wpAny_bind (wpAny_dictEpoch g1 g3 ?_)))
  rw [if_neg (by simp)]
  refine wpAny_pure ?_
  have n0 : ¬ ((i : Int) < 0) := by omega
  simp only [n0, if_false, Int.toNat_natCast, Array.getElem?_eq_none hi]
  refine wpAny_bind ?_
  first | refine wpAny_bind (wpAny_typeNameOfWhole_keyiter ty (wpAny_pure ?_)) | refine wpAny_bind (wpAny_typeNameOf_keyiter ty (wpAny_pure ?_))
  refine (show wpAny _ _ (setField (.ref it) 0 .none >>= _) _ _ s from wpAny_bind (wpAny_setField f1 f3 (by simp) ?_))
  refine (show wpAny _ _ (newExc (.type "StopIteration") [] >>= _) _ _ _ from ?_)
  simp only [newExc, newTuple, raiseNew]
  refine wpAny_bind (wpAny_bind (wpAny_newObj_type (wpAny_bind (m := firstArgMember _ _) (wpAny_of_eq (a := Value.none) (by first | rfl | (simp only [firstArgMember]; rfl)) (wpAny_newObj_type ?_ (by size_fits)))) (by size_fits)))
  refine (wpAny_bind (wpAny_handled ?_))
  rw [show A.in1.handled = none by exact hh]
  refine (wpAny_bind (wpAny_pure (wpAny_throw ?_)))
  refine wpAny_bind (wpAny_isInstance (b := true) (T := "StopIteration") ⟨_, Heap.get?_push_size _ rfl, rfl⟩ isSubtype_stop (wpAny_pure ?_))
  refine k _ ?_; exact ((Heap.SameBut.update ..).extBut.push _).push _
theorem raw_walks (hh : A.handled = none) (I : Addr) (hne : d ≠ I) : Walks prog w A I [I, d] [I] es.size (fun i v => ∃ h : i < es.size, v = es[i].key) (fun i h => h.IsKeyIter I d i es.size ep ∧ DRaw h d es ep) where
  sub := fun b hb => List.mem_cons.mpr (.inl (List.mem_singleton.mp hb))
  frame := fun _ _ _ st hk => ⟨st.1.at fun o e => hk I (by simp) o e, let ⟨o, e1, e2⟩ := st.2; ⟨o, hk d (by simp) o e1, e2⟩⟩
  item := fun i s Q E hi st hQ => raw_item st.1 st.2 hi fun h' ki sb => hQ _ h' s.toks ⟨hi, rfl⟩ ⟨ki, let ⟨o, e1, e2⟩ := st.2; ⟨o, sb.extBut d o hne e1, e2⟩⟩ fun b o hb e => sb.extBut b o (fun z => hb (by simp [z])) e
  done := fun s Q E st hQ => raw_end hh st.1 st.2 (Nat.le_refl _) fun h' eb => hQ h' s.toks fun b o hb e => eb b o (fun z => hb (by simp [z])) e
  self := fun _ _ _ _ st k => wpAny_pyIter_keyiter st.1 k
theorem raw_src (lo : (d == sysModules) = false) : KdlSrc prog w "dict" d d es.size (fun i v => ∃ h : i < es.size, v = es[i].key) (fun h => DRaw h d es ep) where
  type := fun _ x => x.ty
  there := fun _ x => let ⟨o, e, _⟩ := x; ⟨Heap.lt_size e, Heap.lt_size e⟩
  keep := fun _ _ x hk => let ⟨o, e, r⟩ := x; ⟨o, hk d (.inl rfl) o e, r⟩
  notList := by decide
  notTuple := by decide
  hint := fun _ _ _ _ x hq => kdl_hint_dict x.ty hq
  iter := fun _ s hh x => ⟨_, _, (fun _ _ hq => raw_iter lo x hq), raw_walks hh _ (by obtain ⟨o, e, _⟩ := x; exact Nat.ne_of_lt (Heap.lt_size e)), ⟨⟨_, Heap.get?_push_size _ rfl, rfl, rfl⟩, let ⟨o, e, r⟩ := x; ⟨o, Heap.get?_push_of_some _ e, r⟩⟩⟩
end
abbrev KyA (H : Hp) : List V → List (List L2.Key) → Prop := Paired fun v k => ∃ b, v = .ref b ∧ H b = some (.tup (k.map kV))
theorem kt_keys {H : Hp} : ∀ {kvs : List (List L2.Key × V)} {xs : List (List L2.Key × Addr × Value)}, KT H kvs xs → KyA H (xs.map fun x => V.ref x.2.1) (kvs.map (·.1))
  | _, _, .nil => .nil
  | _, _, .cons h t => .cons ⟨_, rfl, h.2.1⟩ (kt_keys t)
theorem vals_refs {α : Type} (f : α → Addr) : ∀ xs : List α, Vals (xs.map fun x => V.ref (f x)) (xs.map fun x => Value.ref (f x))
  | [] => .nil
  | x :: r => .cons rfl (vals_refs f r)
section
variable {X : Cx}
theorem call_listT : CallR X (.type "list") (fun xs H Q => ∃ (p : Addr) (kvs : List (List L2.Key × V)), xs = [.ref p] ∧ H p = some (.dT kvs) ∧ X.A.handled = none ∧ ∀ l vs', H l = none → KyA H vs' (kvs.map (·.1)) → Q (.ref l) (upd H l (.lst vs'))) := by
  intro pins s σ H xs us Q I r h
  obtain ⟨p, kvs, rfl, hp, hh, q⟩ := h
  obtain ⟨u, rfl, rx⟩ := vals1 r
  cases rx
  obtain ⟨z, lo, ys, kt, o, es, ep, g1, g2, g3, g4, g5, g6⟩ := dt_of I.hok hp
  have len : es.size = ys.length := by have := congrArg List.length g4; simpa using this
  have len2 : kvs.length = ys.length := kt.length
  obtain ⟨m, hn, hl⟩ := id I.loc
  have raw : DRaw s.heap p es ep := ⟨o, g1, g2.1, g3⟩
  refine kdl_N (raw_src lo) hh (Att.fr_all hn) (news_all (g := Att.noObjs s.heap) (h := s.heap) (L := X.env.locals)) raw (by rw [len, ← len2]; exact z) fun D c h'' tk vs F'' N'' hD hlen hv => ?_
  have evs : vs = ys.map fun x => Value.ref x.2.1 := by
    refine List.ext_getElem? fun j => ?_
    cases e : vs[j]? with
    | none =>
      have hj : vs.length ≤ j := by simpa using e
      rw [List.getElem?_eq_none]
      simp
      omega
    | some v =>
      obtain ⟨hj, ev⟩ := hv j v e
      have hj' : j < ys.length := by omega
      have q1 : es.toList[j]'(by simpa using hj) = entryOfKey (tupleKind (mixKind X.prog X.w)) ys[j] := by
        have : es.toList[j]? = (ys.map (entryOfKey (tupleKind (mixKind X.prog X.w))))[j]? := by rw [g4]
        rw [List.getElem?_eq_getElem (by simpa using hj), List.getElem?_map, List.getElem?_eq_getElem hj'] at this
        simpa using this
      rw [List.getElem?_map, List.getElem?_eq_getElem hj', ev]
      have q2 : es[j] = es.toList[j]'(by simpa using hj) := by simp
      rw [q2, q1]
      rfl
  subst evs
  have hDL : D ≠ X.env.locals := (N'' (D, _) List.mem_cons_self).2.1
  have keep2 : ∀ b o, b ≠ X.env.locals → s.heap.get? b = some o → h''.get? b = some o := fun b o n e => (N'' (b, o) (List.mem_cons_of_mem _ (mem_allNews n (Att.noObjs_get _ _) e))).1
  have hD0 : s.heap.get? D = none := by
    cases e : s.heap.get? D with
    | none => rfl
    | some o => exact absurd (hD (D, o) (mem_allNews hDL (Att.noObjs_get _ _) e)) (Nat.lt_irrefl _)
  have hHD : H D = none := by
    cases e : H D with
    | none => rfl
    | some ob =>
      obtain ⟨z, e'⟩ := objOk_get (I.hok D ob e)
      rw [hD0] at e'
      cases e'
  have neD : ∀ b u, H b = some u → b ≠ D := fun b u e => ne_of_none e hHD
  have neL : ∀ b u, H b = some u → b ≠ X.env.locals := fun b u e => ne_of_none e I.free
  have I' : Inv X pins σ (upd H D (.lst (ys.map fun x => V.ref x.2.1))) { s with heap := h'', toks := tk } := by
    refine I.step (g' := s.gens) (d' := s.drawn) (t' := tk) (ch := []) (fun _ z => nomatch z) (fun b o n _ _ e _ => keep2 b o n e) (fun b o n _ _ e _ => ⟨o.slots, keep2 b o n e⟩) (fun b o _ e n => ?_) (fun b o _ e => ?_) (fun b xs e => ?_) (fun b o u e => ?_) (fun b ps e => ?_) (fun m' hm => ns_fun hn hm F''.ns) (fun b ob e => ?_) I.bare
    · rw [upd_ne (fun z => by subst z; rw [hD0] at e; cases e)]; exact n
    · by_cases z : b = X.env.locals
      · subst z
        obtain ⟨o', _, _, e', _⟩ := F''.ns
        exact ⟨o', e'⟩
      · exact ⟨o, keep2 b o z e⟩
    · rw [upd_ne (neD _ _ e)]; exact e
    · rw [upd_ne (neD _ _ e)]; exact e
    · exact ⟨#[], by rw [upd_ne (neD _ _ e), e]; simp⟩
    · by_cases z' : b = D
      · subst z'
        rw [upd_same] at e
        cases e
        exact ⟨by rw [List.length_map, ← len2]; exact z, _, c, vals_refs (fun x => x.2.1) ys, (N'' (b, _) List.mem_cons_self).1⟩
      · rw [upd_ne z'] at e
        refine (I.hok b ob e).stay (fun c v hc q => keep2 c v ?_ q) (fun c q => by rw [upd_ne (neD _ _ q)]; exact q) fun c xs q => by rw [upd_ne (neD _ _ q)]; exact q
        rcases hc with y | y
        · rw [y]; exact neL b ob e
        · exact neL c _ y
  exact ⟨.ref D, _, I', rfl, q D _ hHD (kt_keys kt)⟩
end
def intK : List L2.Key → Option (List Int)
  | [] => some []
  | .inl i :: r => (match intK r with | some l => some (i :: l) | none => none)
  | _ => none
theorem intK_kV : ∀ {ks : List L2.Key} {ns : List Int}, intK ks = some ns → ks.map kV = ns.map V.int
  | [], ns, e => by cases e; rfl
  | .inl i :: r, ns, e => by
    unfold intK at e
    cases q : intK r with
    | none => rw [q] at e; cases e
    | some l => rw [q] at e; cases e; rw [List.map_cons, List.map_cons, intK_kV q]; rfl
  | .inr x :: r, ns, e => by cases e
def keysI : List (List L2.Key) → Option (List Wv)
  | [] => some []
  | k :: r => (match intK k, keysI r with | some ns, some l => some (.tup (ns.map Wv.int) :: l) | _, _ => none)
theorem keysI_rel {K : PySem.W.Frag} {m : Mp} {H : Hp} : ∀ {vs : List V} {ks : List (List L2.Key)} {ws : List Wv}, KyA H vs ks → keysI ks = some ws → RelWs K m H ws vs
  | _, _, ws, .nil, e => by cases e; exact RelWs.nil
  | _, _, ws, .cons (b := k) (l₂ := ks) h t, e => by
    obtain ⟨b, rfl, hb⟩ := h
    unfold keysI at e
    cases q1 : intK k with
    | none => rw [q1] at e; cases e
    | some ns =>
      cases q2 : keysI ks with
      | none => rw [q1, q2] at e; cases e
      | some l =>
        rw [q1, q2] at e
        cases e
        refine RelWs.cons ?_ (keysI_rel t q2)
        rw [intK_kV q1] at hb
        unfold RelW
        exact ⟨b, _, rfl, hb, RelWs.ints ns⟩
def oListD : List Wv → Hs → Re Wv
  | [.ref l], st => match st[l]? with
    | some (.dcT kvs) => (match keysI (kvs.map (·.1)) with | some ws => .ok (.ref st.length) (st ++ [.lst ws]) | none => .bad)
    | _ => oListC [.ref l] st
  | ws, st => oListC ws st
section
variable {X : Cx}
theorem call_listT' (hc : X.calm = true) : CallR X (.type "list") (fun xs H Q => ∃ (p : Addr) (kvs : List (List L2.Key × V)), xs = [.ref p] ∧ H p = some (.dT kvs) ∧ ∀ l vs', H l = none → KyA H vs' (kvs.map (·.1)) → Q (.ref l) (upd H l (.lst vs'))) := by
  intro pins s σ H xs us Q I r h
  obtain ⟨p, kvs, e, hp, q⟩ := h
  exact call_listT pins s σ H xs us Q I r ⟨p, kvs, e, hp, I.ok.hd hc, q⟩
theorem cw_listD (hc : X.calm = true) : CallW X (.type "list") oListD := by
  obtain ⟨rr, h1, h2⟩ := cw_list (X := X)
  refine ⟨_, (call_listT' hc).or h1, fun ws vs st H m Q S rs p => ?_⟩
  have other : PostO X.K m H (oListC ws st) Q → rr vs H Q := fun p => h2 ws vs st H m Q S rs p
  match ws, rs, p, other with
  | [], rs, p, other => exact .inr (other p)
  | x :: y :: t, rs, p, other => exact .inr (other (by cases x <;> exact p))
  | [x], rs, p, other =>
    cases x with
    | ref l =>
      unfold oListD at p
      cases e : st[l]? with
      | none => simp only [e] at p; exact .inr (other p)
      | some o =>
        simp only [e] at p
        cases o with
        | dcT kvs =>
          dsimp only at p
          cases e2 : keysI (kvs.map (·.1)) with
          | none => rw [e2] at p; exact False.elim p
          | some us =>
            rw [e2] at p
            obtain ⟨v, rfl, r1⟩ := rel1 rs
            unfold RelW at r1
            obtain ⟨a, rfl, ha⟩ := r1
            obtain ⟨xs, g1, g2⟩ := (show ∃ ys, H a = some (.dT ys) ∧ RelK X.K m H kvs ys from S.obj _ _ _ ha e)
            refine .inl ⟨a, xs, rfl, g1, fun k vs' hk hy => ?_⟩
            rw [← g2.1] at hy
            exact p (.ref k) (m ++ [k]) _ (Ext.more.trans (Ext.upd (.inl hk))) (S.alloc hk (keysI_rel hy e2)) (S.newest k _)
        | _ => exact .inr (other p)
    | _ => exact .inr (other p)
end
end J
namespace J
open PySem L2 PyProof.Rows
section
open PySem.SeqAt PySem.MeetsSeq PySem.MeetsSeq2 PySem.MeetsSeq3
end
variable {X : Cx}
def oLe : Op2 := fun x y st => oLe0 x y st
theorem ow_leT (hu : X.A.units + 64 < cLine) : OpW X (compareOp .LtE) oLe := ow_le
def oLt : Op2 := fun x y st => oLt0 x y st
theorem ow_ltT (hu : X.A.units + 64 < cLine) : OpW X (compareOp .Lt) oLt := ow_lt
end J
namespace J
open PySem PySem.Spec PyProof.Rows L2
structure RoomU (k : Nat) (A : Around) : Prop where
  d : A.depth + 3 * k + 5 < recursionLimit
  u : A.units + 16 * k + 200 < cLine
theorem RoomU.of {k : Nat} {A : Around} (r : Room k A) : RoomU k A := ⟨r.dp, r.un⟩
theorem RoomU.less {j k : Nat} {A : Around} (r : RoomU k A) (h : j ≤ k) : RoomU j A := ⟨by have := r.d; omega, by have := r.u; omega⟩
structure FnOkU (P : Program) (w : World) (K : PySem.W.Frag) (mg : Str → Option Value) (base : Heap) (k : Nat) (f : Addr) (fd : FuncData) (ps : List Str) (sp : Sp) : Prop where
  n : ∀ vs H Q E, sp vs H Q E → vs.length = ps.length
  go : ∀ (A : Around) (outer : List Env) (s : Shared) (H : Hp) (args : Args) (us : List Value) (vs : List V) (Q : VK) (E : XK), RoomU k A → HdA A H → Env0 P w K mg base A outer s H →
    BindsTo s fd args (ps.zip us) → Vals vs us → sp vs H Q E → codeAny (model P w) A (.call (.ref f) args) (CR (CXJ P w) outer P w H s Q E) s
section
variable {P : Program} {w : World} {K : PySem.W.Frag} {mg : Str → Option Value} {base : Heap}
end
section
variable {X : Cx}
end
def HasU (P : Program) (w : World) (K : PySem.W.Frag) (mg : Str → Option Value) (base : Heap) (k : Nat) (x : Str) (n : Nat) (F : List Wv → Hs → Re Wv) : Prop :=
  ∃ f fd ps, FnOkU P w K mg base k f fd ps (spW K n F) ∧ mg x = some (.ref f) ∧ PySem.W.keepIn K (.ref f) = true ∧ Binds K fd ps []
theorem HasU.mono {P : Program} {w : World} {K : PySem.W.Frag} {mg : Str → Option Value} {base : Heap} {j k : Nat} {x : Str} {n : Nat} {F : List Wv → Hs → Re Wv} (h : HasU P w K mg base j x n F) (l : j ≤ k) : HasU P w K mg base k x n F := by
  obtain ⟨f, fd, ps, G, r⟩ := h
  exact ⟨f, fd, ps, ⟨G.n, fun A outer s H args us vs Q E hr => G.go A outer s H args us vs Q E (hr.less l)⟩, r⟩
end J
namespace J
open PySem PySem.Spec PyProof.Rows L2
section
variable {X : Cx}
end
end J
namespace J
open PySem PySem.Spec PyProof.Rows L2
section
variable {X : Cx}
end
end J
namespace J
open PySem PySem.Spec PyProof.Rows L2
abbrev Wk2 := Option (Nat × List Wv) × List Wv
def ck2 (c : Option (Nat × List Wv)) (st : Hs) : Prop := match c with
  | some (l, ws) => lstOf st l = some ws
  | none => True
structure ItFor2 (X : Cx) (w : Wk2) (m1 : Mp) (H1 : Hp) (J' : It) : Prop where
  go : ∀ (k : Nat) (H : Hp) (m' : Mp) (st : Hs), Ext X.K m1 H1 m' H → Sim X.K m' st H → ck2 w.1 st → k < w.2.length → J'.go k H
  stop : ∀ (k : Nat) (H : Hp) (m' : Mp) (st : Hs), Ext X.K m1 H1 m' H → Sim X.K m' st H → ck2 w.1 st → k = w.2.length → J'.stop k H
  yld : ∀ (k : Nat) (hk : k < w.2.length) (H : Hp) (v : V) (H' : Hp) (m' : Mp) (st : Hs), Ext X.K m1 H1 m' H → Sim X.K m' st H → ck2 w.1 st → J'.yld k H v H' → Ext X.K m' H m' H' ∧ Sim X.K m' st H' ∧ RelW X.K m' H' w.2[k] v
section
variable {X : Cx}
end
open Classical in
section
variable {X : Cx}
end
end J
namespace J
open PySem PySem.Spec PyProof.Rows L2
open Classical in
structure CScope2 (X : Cx) (scope : Scope) (x : Str) (xr : List Str) (cs : Caps) : Prop where
  one : CScope X scope x cs
  var : ∀ y ∈ x :: xr, scope.names.lookup y = some .local
  nd : ((x :: xr) ++ cs.map (·.1)).Nodup
inductive NamesAre : List Expr → List Str → Prop
  | nil : NamesAre [] []
  | cons {x : Str} {p : Pos} {es : List Expr} {xs : List Str} : NamesAre es xs → NamesAre (.Name x p :: es) (x :: xs)
section
variable {X : Cx} {pins : List (Addr × Obj)} {σ : St} {H : Hp} {s : Shared} {scope : Scope} {x : Str} {xr : List Str} {cs : Caps}
end
section
variable {prog : Program} {w : World} {A : Around} {R : Result → Shared → Prop} {s : Shared}
end
section
variable {X : Cx}
end
end J
namespace J
open PySem PySem.Spec PyProof.Rows L2
section
variable {X : Cx}
end
section
open PySem.SeqAt PySem.MeetsSeq PySem.MeetsSeq2 PySem.MeetsSeq3
end
section
variable {X : Cx}
end
end J
namespace J
open PySem PySem.Spec PyProof.Rows L2
section
variable {X : Cx}
inductive JEs (X : Cx) : List Expr → List GE → Prop
  | nil : JEs X [] []
  | cons {e : Expr} {g : GE} {es : List Expr} {gs : List GE} : JE X e g → JEs X es gs → JEs X (e :: es) (g :: gs)
end
section
variable {X : Cx}
end
section
variable {X : Cx}
theorem op_mulS1 : OpR X (binaryOp .Mult) (fun x y H Q => ∃ z n, x = .str z ∧ y = .int n ∧ (n = 0 ∨ n = 1) ∧ Q (.str (if n = 0 then PySem.Str.empty else z)) H) := by
  intro pins s σ H x y v u Q I rx ry h
  obtain ⟨z, n, rfl, rfl, hn, q⟩ := h
  obtain ⟨t, rfl⟩ := rx
  obtain ⟨t', rfl⟩ := ry
  rcases hn with rfl | rfl
  · exact PySem.P.mul_str_none (by omega) (by omega) ⟨.str PySem.Str.empty, H, I.tok _, ⟨_, rfl⟩, q⟩
  · refine PySem.P.mul_str (by decide) (fun _ h => by cases h) (fun _ h => by cases h) ?_
    rw [if_neg (by omega), if_pos (by rfl)]
    exact ⟨.str z, H, I, ⟨t, rfl⟩, q⟩
noncomputable def oMulL : Op2 := fun x y st => match x, y with
  | .str z, .int n => if n = 0 ∨ n = 1 then .ok (.str (if n = 0 then PySem.Str.empty else z)) st else oMulL0 (.str z) (.int n) st
  | x, y => oMulL0 x y st
theorem ow_mulL1 : OpW X (binaryOp .Mult) oMulL := by
  obtain ⟨r, h1, h2⟩ := ow_mulL (X := X)
  refine ⟨_, OpR.or op_mulS1 h1, fun x y a b st H m Q S rx ry p => ?_⟩
  cases x with
  | str z =>
    cases y with
    | int n =>
      have p' : PostO X.K m H (if n = 0 ∨ n = 1 then .ok (.str (if n = 0 then PySem.Str.empty else z)) st else oMulL0 (.str z) (.int n) st) Q := p
      by_cases c : n = 0 ∨ n = 1
      · rw [if_pos c] at p'
        obtain ⟨rfl, ok⟩ := relStr rx
        refine .inl ⟨z, n, rfl, relInt ry, c, p' _ m H Ext.refl S (mkStr ?_)⟩
        by_cases c0 : n = 0
        · rw [if_pos c0]; decide +kernel
        · rw [if_neg c0]; exact ok
      · rw [if_neg c] at p'
        exact .inr (h2 _ _ _ _ st H m Q S rx ry p')
    | _ => exact .inr (h2 _ _ _ _ st H m Q S rx ry p)
  | _ => exact .inr (h2 _ _ _ _ st H m Q S rx ry p)
end
end J
namespace J
open PySem PySem.Spec PyProof.Rows L2
abbrev LF := List Wv → List Wv → Hs → Re Wv
section
variable {X : Cx} {pins : List (Addr × Obj)} {σ : St} {H : Hp} {s : Shared}
end
def spL (K : PySem.W.Frag) (n : Nat) (p : Lm) (L : LF) : Sp := fun vs H Q E => ∃ m st ws caps, Sim K m st H ∧ RelWs K m H ws vs ∧ RelWs K m H caps p.xs ∧ H p.c = some (.ext (CodeX p.c p.q)) ∧ ws.length = n ∧ PostF K m H (L caps ws st) Q E
def HasL (P : Program) (w : World) (K : PySem.W.Frag) (mg : Str → Option Value) (base : Heap) (k : Nat) (p : Lm) (n : Nat) (L : LF) : Prop :=
  ∃ fd ps ob, FnOk P w K mg base (CXJ P w) k p.a fd ps (spL K n p L) ∧ base.get? p.a = some ob ∧ ob.data = .func fd ∧ Binds K fd ps []
open Classical in
section
variable {X : Cx}
end
def freeOf (sc : Scope) : List Str := (sc.names.filter fun p => decide (p.2 = .free)).map (·.1)
structure LamSc (sc : Scope) (x1 x2 x3 y : Str) : Prop where
  kind : sc.kind = .function
  co : sc.isCoroutine = false
  gen : sc.isGenerator = false
  nocell : ∀ p ∈ sc.names, p.2 ≠ .cell
  p1 : sc.names.lookup x1 = some .local
  p2 : sc.names.lookup x2 = some .local
  p3 : sc.names.lookup x3 = some .local
  fr : freeOf sc = [y]
  fy : sc.names.lookup y = some .free
  nd : [x1, x2, x3, y].Nodup
end J
namespace J
open PySem PySem.Spec PyProof.Rows L2
section
variable {P : Program} {w : World} {K : PySem.W.Frag} {mg : Str → Option Value} {base : Heap} {p : Lm} {scope : Scope} {x1 x2 x3 y : Str} {cy : Addr}
theorem rel3 {m : Mp} {H : Hp} {ws : List Wv} {vs : List V} (r : RelWs K m H ws vs) (h : ws.length = 3) : ∃ w1 w2 w3 v1 v2 v3, ws = [w1, w2, w3] ∧ vs = [v1, v2, v3] ∧ RelW K m H w1 v1 ∧ RelW K m H w2 v2 ∧ RelW K m H w3 v3 := by
  match ws, h with
  | [w1, w2, w3], _ =>
    unfold RelWs at r
    obtain ⟨v1, t1, rfl, r1, r⟩ := r
    unfold RelWs at r
    obtain ⟨v2, t2, rfl, r2, r⟩ := r
    unfold RelWs at r
    obtain ⟨v3, t3, rfl, r3, r⟩ := r
    unfold RelWs at r
    subst r
    exact ⟨w1, w2, w3, v1, v2, v3, rfl, rfl, r1, r2, r3⟩
end
end J
namespace J
open PySem PySem.Spec PyProof.Rows L2
structure LamAt (X : Cx) (q : Str) (P : Addr) : Prop where
  code : ∃ c, X.env.code = .ref c ∧ PySem.W.CodeHd X.base c P
  qual : X.env.qual = q ++ ".<locals>."
  tab : tabFree X.K q = some P
  mem : q ∈ lamDefs
  uniq : ∀ q', q' ∈ lamDefs → tabFree X.K q' = some P → q' = q
  bm : ∃ bm ob, X.mg "__builtins__" = some (.ref bm) ∧ bm ≠ builtinsNs ∧ bm ≠ mainGlobals ∧ X.base.get? bm = some ob ∧ ob.cls = .type "module" ∧ ob.dict = some builtinsNs ∧ ob.data = .plain
section
variable {X : Cx} {pins : List (Addr × Obj)} {σ : St} {H : Hp} {s : Shared} {q : Str} {P : Addr}
end
end J
namespace J
open PySem PySem.Spec PyProof.Rows L2
abbrev FLt := Lm → LF → List Wv → Hs → Re Wv
def BmOk (mg : Str → Option Value) (base : Heap) : Prop := ∃ bm ob, mg "__builtins__" = some (.ref bm) ∧ bm ≠ builtinsNs ∧ bm ≠ mainGlobals ∧ base.get? bm = some ob ∧ ob.cls = .type "module" ∧ ob.dict = some builtinsNs ∧ ob.data = .plain
def ModB (K : PySem.W.Frag) (mg : Str → Option Value) (base : Heap) : Prop := Mod K mg base ∧ BmOk mg base
def FnL (P : Program) (w : World) (K : PySem.W.Frag) (mg : Str → Option Value) (k j : Nat) (x : Str) (FL : FLt) : Prop :=
  (∃ f, mg x = some (.ref f) ∧ PySem.W.keepIn K (.ref f) = true) ∧ ∀ (base : Heap) (p : Lm) (L : LF), ModB K mg base → HasL P w K mg base (j + 1) p 3 L → Has P w K mg base k x 2 (FL p L)
section
variable {X : Cx}
end
end J
namespace J
open PySem PySem.Spec PyProof.Rows L2
section
variable {P : Program} {w : World} {A : Around} {E : Value → Shared → Prop} {s : Shared}
structure Zd (z T O j1 j2 j3 t1 t2 t3 : Addr) : Prop where
  nd : [z, T, O, j1, j2, j3].Nodup
  a1 : t1 ∉ [z, O, j1, j2, j3]
  a2 : t2 ∉ [z, O, j1, j2, j3]
  a3 : t3 ∉ [z, O, j1, j2, j3]
end
end J
namespace J
open PySem PySem.Spec PyProof.Rows L2
theorem oi_4 (a b c d : Value) : argsOk "object.__init__" ⟨[a, b, c, d], []⟩ := by
  unfold argsOk; rw [signature?_of (id := "object.__init__") (n := ['_', '_', 't', 'i', 'n', 'i', '_', '_']) (o := ['t', 'c', 'e', 'j', 'b', 'o']) (by kernel_rfl) F.owner_object]; kernel_rfl
section
variable {P : Program} {w : World} {A : Around} {E : Value → Shared → Prop} {s : Shared}
end
section
variable {P : Program} {w : World} {A : Around} {E : Value → Shared → Prop} {s : Shared}
end
end J
namespace J
open PySem PySem.Spec PyProof.Rows L2
section
variable {X : Cx}
end
end J
namespace J
open PySem PySem.Spec PyProof.Rows L2
def Itq (lo c : Int) (n : Nat) : It := ⟨fun i _ => i < n, fun i H v H' => H' = H ∧ v = .int (lo + i * c), fun i _ => n ≤ i⟩
theorem turn_rangeS {P : Program} {w : World} {K : PySem.W.Frag} {tg : Expr} (it : Addr) (lo c : Int) (n : Nat) : Turn P w K tg (Itq lo c n) [it] it (fun i h => IsRangeIter h it (lo + (i : Nat) * c) ((n : Int) - (i : Nat)) c) where
  mem := by simp
  obj := fun i h st b hb => by
    have e : b = it := by simpa using hb
    subst e
    exact ⟨_, st, fun v z => by cases z⟩
  keep := fun i h h' st k => k it (by simp) _ st
  item := by
    intro X hP hw hK hc i pins s σ H E I hf st hg
    subst hP hw hK
    obtain ⟨f0, f1, f2, f3, f4, f5⟩ := hf it (by simp)
    have W := Walks.range (prog := X.prog) (w := X.w) (I.ok.hd hc) it lo c n
    refine W.item i s _ _ hg st fun v h' tk hv st' kk => ?_
    obtain ⟨t, rfl⟩ := hv
    have I1 : Inv X pins σ H { s with heap := h', toks := tk } := I.turned (fun b o hb e => kk b o (by simpa using hb) e) f0 f1 f3 f4 f5
    exact ⟨_, rfl, go_of (s := { s with heap := h', toks := tk }) (n := "range_iterator") st' rfl rfl (by decide) ⟨.int (lo + i * c), H, I1, ⟨t, rfl⟩, ⟨rfl, rfl⟩, st', fun b hb => (hf b hb).1⟩⟩
  done := by
    intro X hP hw hK hc i pins s σ H E I hf st hg
    subst hP hw hK
    obtain ⟨f0, f1, f2, f3, f4, f5⟩ := hf it (by simp)
    exact wpAny_pyNext_range_end (I.ok.hd hc) st (by have : n ≤ i := hg; omega) fun h' eb => ⟨rfl, I.turned (t' := s.toks) (fun b o hb e => eb b o hb e) f0 f1 f3 f4 f5⟩
  self := fun _ _ _ _ _ st h => wpAny_pyIter_rangeiter st h
theorem tc_range3 (a b c : Value) : checkTypeCall "range" ⟨[a, b, c], []⟩ = pure () := by kernel_rfl
theorem nc_range3 (a b c : Value) : checkBuiltinCall "range.__new__" ⟨[.type "range", a, b, c], []⟩ = pure () := by kernel_rfl
def CRs (a b c : Int) : Prop := 0 ≤ a ∧ a < 2 ^ 30 ∧ 0 ≤ b ∧ b < 2 ^ 30 ∧ 1 ≤ c ∧ c < 2 ^ 30
noncomputable instance {a b c} : Decidable (CRs a b c) := Classical.propDecidable _
def stepN (a b c : Int) : Nat := (if a < b then (b - a - 1) / c + 1 else 0).toNat
theorem size_step {a b c : Int} (h : CRs a b c) : Builtin.Range.rangeSize a b c = stepN a b c := by
  obtain ⟨h1, h2, h3, h4, h5, h6⟩ := h
  unfold Builtin.Range.rangeSize stepN
  rw [if_pos (by omega)]
  by_cases e : a < b
  · rw [if_pos e]
    have : 0 ≤ (b - a - 1) / c := Int.ediv_nonneg (by omega) (by omega)
    omega
  · rw [if_neg e]; rfl
theorem small_step {a b c : Int} (h : CRs a b c) : Builtin.Range.small a b c = true := by
  obtain ⟨h1, h2, h3, h4, h5, h6⟩ := h
  unfold Builtin.Range.small Builtin.Range.rangeSize
  have d1 : 0 ≤ (b - a - 1) / c ∨ ¬ a < b := by
    by_cases e : a < b
    · exact .inl (Int.ediv_nonneg (by omega) (by omega))
    · exact .inr e
  have d2 : a < b → (b - a - 1) / c ≤ b - a - 1 := fun e => Int.ediv_le_self _ (by omega)
  simp only [Builtin.Range.rangeFitsLong, Bool.and_eq_true, Bool.or_eq_true, decide_eq_true_eq, beq_iff_eq, show c > 0 by omega, if_true]
  split <;> omega
theorem nodiv {a b c : Int} (h : CRs a b c) : Builtin.divisionGoesByPylong (b - a) c = false := by
  obtain ⟨h1, h2, h3, h4, h5, h6⟩ := h
  have e0 : (c == 0) = false := by rw [beq_eq_false_iff_ne]; omega
  have e1 : c.natAbs.log2 < 30 := (Nat.log2_lt (by omega)).mpr (by omega)
  have e2 : c.natAbs.log2 / 30 = 0 := Nat.div_eq_of_lt e1
  simp [Builtin.divisionGoesByPylong, e0, e2]
theorem call_range3 {P : Program} {w : World} {A : Around} {E : Value → Shared → Prop} {s : Shared} {a b c : Int} {t u v : Tok} {Q : Value → Shared → Prop} (h : CRs a b c)
    (k : Q (.ref s.heap.objs.size) { s with heap := s.heap.push { cls := .type "range", data := .fields #[.int a t, .int b u, .int c v] } }) : wpAny (model P w) A (call (.type "range") [.int a t, .int b u, .int c v]) Q E s := by
  refine callType_new F.called_range (by decide) (tc_range3 _ _ _) (nc_range3 _ _ _) (fun obj => oi_4 obj _ _ _) F.entry_range_new (AutoRange.range___new___type_int_int_int_1 a b c t u v F.called_range.sub ?_) ⟨nodiv h, ⟨_, Heap.get?_push_size _ rfl, rfl⟩, k⟩
  have : c ≠ 0 := by have := h.2.2.2.2.1; omega
  simpa using this
section
variable {X : Cx} {tg : Expr}
def iRng3 (ta : TA) : TI := fun σ H R => ta σ H fun vs H1 => ∃ a b c : Int, vs = [.int a, .int b, .int c] ∧ CRs a b c ∧ R (Itq a c (stepN a b c)) H1
theorem ints3 {a b c : Int} {us : List Value} (r : Vals [.int a, .int b, .int c] us) : ∃ t u v, us = [.int a t, .int b u, .int c v] := by
  cases r with
  | cons r1 r =>
    cases r with
    | cons r2 r =>
      cases r with
      | cons r3 r =>
        cases r
        obtain ⟨t, rfl⟩ := r1
        obtain ⟨u, rfl⟩ := r2
        obtain ⟨v, rfl⟩ := r3
        exact ⟨t, u, v, rfl⟩
theorem pi_range3 {l : Expr} {ls : List Expr} {ta : TA} {p pos : Pos} (hg : Gl X "range") (hm : X.mg "range" = none) (ha : PA X (l :: ls) ta) (hst : starEach (l :: ls) X.env = (false, eval l X.env) :: starEach ls X.env) (hpl : (backTo pos (starEach ls X.env)).any (·.1) = false) :
    PI X tg (.Call (.Name "range" p) (l :: ls) [] pos) (iRng3 ta) := by
  intro pins s σ H R I h
  refine wpAny_Call_Name_kw (ld_blt I hg hm boot_range ?_)
  refine PyProof.Rows.callWith_type1 (thn (ha pos pins s σ H _ I h) fun us s1 ⟨vs, H1, I1, r1, q1⟩ => ?_) hst hpl
  obtain ⟨a, b, c, rfl, hc, q⟩ := q1
  obtain ⟨t, u, v, rfl⟩ := ints3 r1
  refine call_range3 hc ?_
  refine wpAny_pyIter_range (IsRange.new ..) (small_step hc) ?_
  have I2 : Inv X pins σ H1 { s1 with heap := s1.heap.push { cls := .type "range", data := .fields #[.int a t, .int b u, .int c v] } } := I1.kept (t' := s1.toks) fun b o e => Heap.get?_push_of_some _ e
  refine ⟨(s1.heap.push { cls := .type "range", data := .fields #[.int a t, .int b u, .int c v] }).objs.size, [(s1.heap.push { cls := .type "range", data := .fields #[.int a t, .int b u, .int c v] }).objs.size], _, _, H1, rfl, I2.kept (t' := s1.toks) fun b o e => Heap.get?_push_of_some _ e, turn_rangeS _ a c (stepN a b c), ?_, fun y hy => ?_, q⟩
  · have e1 : a + ((0 : Nat) : Int) * c = a := by simp
    have e2 : ((stepN a b c : Nat) : Int) - ((0 : Nat) : Int) = Builtin.Range.rangeSize a b c := by rw [size_step hc]; simp
    show IsRangeIter _ _ (a + ((0 : Nat) : Int) * c) (((stepN a b c : Nat) : Int) - ((0 : Nat) : Int)) c
    rw [e1, e2]
    exact Heap.get?_push_size _ rfl
  · have e : y = (s1.heap.push { cls := .type "range", data := .fields #[.int a t, .int b u, .int c v] }).objs.size := by simpa using hy
    subst e
    exact I2.fpOk (Nat.le_refl _) (I2.hok.fresh (Nat.le_refl _))
def rngS (lo c : Int) (n : Nat) : List Wv := (List.range n).map fun k : Nat => Wv.int (lo + k * c)
theorem rngS_len {lo c : Int} {n : Nat} : (rngS lo c n).length = n := by unfold rngS; simp
theorem rngS_get? {lo c : Int} {n k : Nat} (h : k < n) : (rngS lo c n)[k]? = some (.int (lo + k * c)) := by
  unfold rngS
  rw [List.getElem?_map, List.getElem?_range h]
  rfl
theorem rngS_get {lo c : Int} {n k : Nat} (h : k < (rngS lo c n).length) : (rngS lo c n)[k] = .int (lo + k * c) := by
  have q := rngS_get? (lo := lo) (c := c) (n := n) (k := k) (by rw [rngS_len] at h; exact h)
  rw [List.getElem?_eq_getElem h] at q
  exact Option.some.inj q
noncomputable def gForR3 (i : Nat) (ga : GA) (gb : GS) : GS := fun ρ st => (ga ρ st).thn ρ fun ws st1 => match ws with
  | [.int a, .int b, .int c] => if CRs a b c then forT i gb (rngS a c (stepN a b c)) ρ st1 else .bad
  | _ => .bad
theorem js_forR3 (i : Nat) {x : Str} {l : Expr} {ls : List Expr} {body : List Stmt} {ga : GA} {gb : GS} {pos pos' p q : Pos} (hN : X.N.Nodup) (hp : PassesOwn (model X.prog X.w) X.A X.env X.xe) (hc : X.calm = true) (hg : Gl X "range") (hm : X.mg "range" = none) (ha : JA X (l :: ls) ga) (hb : JSs X body gb)
    (hx : X.N[i]? = some x) (hlo : Loc X.env.scope x) (hlf : X.fn x = true ∨ X.env.scope.names.lookup x = some .local) (hst : starEach (l :: ls) X.env = (false, eval l X.env) :: starEach ls X.env) (hpl : (backTo q (starEach ls X.env)).any (·.1) = false) :
    JS X (.For (.Name x pos') (.Call (.Name "range" p) (l :: ls) [] q) body [] pos) (gForR3 i ga gb) := by
  refine JS.of (ps_for hp hc (pi_range3 hg hm pa_SA hst hpl) (pg_name hN hx hlo hlf) pss_SSs (fun _ => rfl)) fun ρ st σ H m D S R p => ?_
  refine ha.go S R (PostS.of_thn R p) fun ws st1 vs m1 H1 p1 e1 S1 rs => ?_
  split at p1
  · rename_i a b c
    by_cases cc : CRs a b c
    · rw [if_pos cc] at p1
      obtain ⟨w1, w2, w3, v1, v2, v3, e, rfl, r1, r2, r3⟩ := rel3 rs rfl
      cases e
      cases relInt r1
      cases relInt r2
      cases relInt r3
      refine ⟨a, b, c, rfl, cc, for_core (J' := Itq a c (stepN a b c)) i hb S1 (R.mono e1) (PostS.shift p1 e1) (fun k H m' e hk => by rw [rngS_len] at hk; exact hk) (fun k H m' e hk => by rw [rngS_len] at hk; exact Nat.le_of_eq hk.symm) fun k hk H x H' m' e y => ?_⟩
      obtain ⟨y1, y2⟩ := y
      refine ⟨y1, ?_⟩
      rw [rngS_get, y2]
      exact mkInt
    · rw [if_neg cc] at p1; exact False.elim p1
  · exact False.elim p1
end
end J
namespace J
open PySem PySem.Spec PyProof.Rows L2
section
variable {X : Cx}
end
end J
namespace J
open PySem PySem.Spec PyProof.Rows L2
section
variable {X : Cx}
end
end J
namespace J
open PySem PySem.Spec PyProof.Rows L2
section
variable {X : Cx}
end
section
variable {X : Cx}
end
end J
namespace J
open PySem PySem.Spec PyProof.Rows L2
section
variable {prog : Program} {w : World} {A : Around} {E : Value → Shared → Prop} {s : Shared}
end
section
variable {X : Cx} {tg : Expr}
end
section
variable {X : Cx} {a b c d : Expr} {pos : Pos}
end
end J
namespace J
open PySem PySem.Spec PyProof.Rows L2
section
variable {X : Cx} {pins : List (Addr × Obj)} {σ : St} {E : Value → Shared → Prop} {p : Addr}
end
section
variable {X : Cx} {pos : Pos}
abbrev RelVV (K : PySem.W.Frag) (m : Mp) (H : Hp) : List (Wv × Wv) → List (V × V) → Prop := Paired fun p q => RelW K m H p.1 q.1 ∧ RelW K m H p.2 q.2
theorem RelVV.mono {K : PySem.W.Frag} {m m1 : Mp} {H H1 : Hp} (e : Ext K m H m1 H1) : ∀ {a : List (Wv × Wv)} {b : List (V × V)}, RelVV K m H a b → RelVV K m1 H1 a b
  | _, _, .nil => .nil
  | _, _, .cons h t => .cons ⟨RelW.mono e _ _ h.1, RelW.mono e _ _ h.2⟩ (RelVV.mono e t)
end
def getD (d k : Wv) (st : Hs) : Option Wv := match d with
  | .ref l => (match st[l]? with
    | some (.dct kvs) => (match keyOf k with | some kk => valW kvs kk | none => none)
    | some (.dcT kvs) => (match keyT k with | some kk => valW kvs kk | none => none)
    | some (.dcF kvs) => (match keyT k with | some kk => valW kvs kk | none => none)
    | _ => none)
  | _ => none
section
variable {X : Cx}
end
end J
namespace J
open PySem PySem.Spec PyProof.Rows L2
section
variable {X : Cx} {pins : List (Addr × Obj)} {σ : St} {H : Hp} {s : Shared} {a : Addr} {xs : List (List L2.Key × V)}
end
section
variable {K : PySem.W.Frag} {m : Mp} {st : Hs} {H : Hp}
theorem RelK.mono0 {κ : Type} {m1 : Mp} {H1 : Hp} {kvs : List (κ × Wv)} {xs : List (κ × V)} (e : Ext0 K m H m1 H1) (h : RelK K m H kvs xs) : RelK K m1 H1 kvs xs := ⟨h.1, RelWs.mono0 e _ _ h.2⟩
theorem RelEnv.mono0 {m1 : Mp} {H1 : Hp} {ρ : Rho} {σ : St} (R : RelEnv K m H ρ σ) (e : Ext0 K m H m1 H1) : RelEnv K m1 H1 ρ σ := ⟨R.len, fun i w h => let ⟨v, h1, h2⟩ := R.get i w h; ⟨v, h1, RelW.mono0 e _ _ h2⟩⟩
end
section
variable {X : Cx}
end
section
variable {X : Cx} {tg : Expr}
end
end J
namespace J
open PySem PySem.Spec PyProof.Rows L2
section
variable {prog : Program} {w : World} {A : Around} {E : Value → Shared → Prop} {s : Shared} {d : Addr} {es : Array DictEntry} {ep : Nat}
end
section
variable {prog : Program} {w : World} {K : Type} [DecidableEq K] {knd : HeapKind prog w K} {A : Around} {E : Value → Shared → Prop} {s : Shared} {d a : Addr} {xs : List (K × Addr × Value)} {k : K}
end
section
variable {prog : Program} {w : World} {A : Around} {E : Value → Shared → Prop} {s : Shared}
end
section
variable {prog : Program} {w : World} {A : Around} {E : Value → Shared → Prop} {s : Shared} {d it : Addr} {i : Nat} {es : Array DictEntry} {ep : Nat} {ok ov : Value}
end
end J
namespace J
open PySem PySem.Spec PyProof.Rows L2
section
variable {X : Cx}
end
section
variable {X : Cx} {o e f : Expr} {apos cpos : Pos} {td ty tx : TE}
def dropW {κ : Type} [DecidableEq κ] (kvs : List (κ × Wv)) (k : κ) : List (κ × Wv) := kvs.filter fun kv => decide (kv.1 ≠ k)
theorem RelK.drop {κ : Type} [DecidableEq κ] {K : PySem.W.Frag} {m : Mp} {H : Hp} (k : κ) : ∀ {kvs : List (κ × Wv)} {xs : List (κ × V)}, RelK K m H kvs xs → RelK K m H (dropW kvs k) (dropK xs k)
  | [], xs, h => by rw [h.nil_inv]; exact RelK.nil
  | p :: r, xs, h => by
    obtain ⟨v, t, rfl, h1, h2⟩ := h.cons_inv
    by_cases e : p.1 = k
    · rw [dropK_pos e]
      unfold dropW
      rw [List.filter_cons, if_neg (by simp [e])]
      exact h2.drop k
    · rw [dropK_neg e]
      unfold dropW
      rw [List.filter_cons, if_pos (by simp [e])]
      exact RelK.cons h1 (h2.drop k)
end
structure M0 (X : Cx) (o : Expr) (m : Str) (apos cpos : Pos) : Prop where
  base : attributeBase o m X.env (eval o X.env) = eval o X.env
  line : (apos.endLine == cpos.line) = true
section
variable {X : Cx} {es' : List Expr} {kt : Nat} {pt : Pos}
end
end J
namespace J
open PySem PySem.Spec PyProof.Rows L2
section
variable {X : Cx}
end
end J
namespace J
open PySem PySem.Spec PyProof.Rows L2
section
variable {prog : Program} {w : World} {K : Type} [DecidableEq K] {knd : HeapKind prog w K} {A : Around} {E : Value → Shared → Prop} {s : Shared} {a b : Addr} {xs ys : List (K × Addr × Value)}
end
section
variable {prog : Program} {w : World} {K : Type} [DecidableEq K] {knd : HeapKind prog w K} {A : Around} {E : Value → Shared → Prop} {s : Shared} {a b : Addr} {xs ys : List (K × Addr × Value)}
end
section
variable {X : Cx}
end
end J
namespace J
open PySem PySem.Spec PyProof.Rows L2 PySem.W
section
variable {X : Cx}
end
end J
namespace J
open PySem PySem.Spec PyProof.Rows L2
structure Ct where
  N : List Str
  names : List (Str × NameKind)
  consts : List (Str × Wv)
  bl : List Str
  fns : List (Str × Nat × (List Wv → Hs → Re Wv))
  tb : Tab := []
  tt : TabT := []
  clss : List Str := []
  cln : List Str := []
  tc : Tab := []
  dcs : List (Str × Dc) := []
  dts : List Str := []
  dks : List Str := []
  dis : List Str := []
  fnu : List Str := []
  loop : Bool := true
  free : Bool := true
  top : Bool := true
  lam : Option (Lm × LF) := none
  fnL : List (Str × FLt) := []
  lfn : List Str := []
  lj : Nat := 0
  self : Str := ""
def ixOf (x : Str) : List Str → Option Nat
  | [] => none
  | y :: r => if x = y then some 0 else match ixOf x r with
    | some i => some (i + 1)
    | none => none
theorem ixOf_get {x : Str} : ∀ {N : List Str} {i : Nat}, ixOf x N = some i → N[i]? = some x
  | [], i, h => by cases h
  | y :: r, i, h => by
    unfold ixOf at h
    by_cases e : x = y
    · rw [if_pos e] at h; cases h; subst e; rfl
    · rw [if_neg e] at h
      cases q : ixOf x r with
      | none => rw [q] at h; cases h
      | some j => rw [q] at h; cases h; simpa using ixOf_get q
def okN (x : Str) : Bool := !(x == ("__debug__" : Str)) && !(x == ("__classdict__" : Str)) && !(decide (x = "__name__"))
theorem okN_d {x : Str} (h : okN x = true) : (x == ("__debug__" : Str)) = false := by unfold okN at h; revert h; cases (x == ("__debug__" : Str)) <;> simp
theorem okN_c {x : Str} (h : okN x = true) : (x == ("__classdict__" : Str)) = false := by unfold okN at h; revert h; cases (x == ("__classdict__" : Str)) <;> simp
theorem okN_n {x : Str} (h : okN x = true) : x ≠ "__name__" := by
  intro e
  subst e
  unfold okN at h
  simp at h
def FlatL : List Wv → List V → Prop
  | [], [] => True
  | .int i :: r, .int j :: t => i = j ∧ FlatL r t
  | .str x :: r, .str y :: t => (x = y ∧ PyData.strOk x = true) ∧ FlatL r t
  | _, _ => False
theorem FlatL.rel {K : PySem.W.Frag} {m : Mp} {H : Hp} : ∀ {ws : List Wv} {vs : List V}, FlatL ws vs → RelWs K m H ws vs
  | [], [], _ => RelWs.nil
  | .int i :: r, .int j :: t, h => by
    obtain ⟨rfl, h⟩ := h
    exact RelWs.cons (by unfold RelW; rfl) h.rel
  | .str x :: r, .str y :: t, h => by
    obtain ⟨⟨rfl, hx⟩, h⟩ := h
    exact RelWs.cons (by unfold RelW; exact ⟨rfl, hx⟩) h.rel
  | [], _ :: _, h => False.elim h
  | .int i :: r, [], h => False.elim h
  | .str i :: r, [], h => False.elim h
  | .int i :: r, .str _ :: _, h => False.elim h
  | .str i :: r, .int _ :: _, h => False.elim h
def CstOk (K : PySem.W.Frag) (mg : Str → Option Value) (x : Str) : Wv → Prop
  | .int i => ∃ t, mg x = some (.int i t)
  | .str y => (∃ t, mg x = some (.str y t)) ∧ PyData.strOk y = true
  | .ktp ws => ∃ (a : Addr) (vs : List V) (o : Obj) (its : Array Value) (n : Nat), mg x = some (.ref a) ∧ K.lookup a = some o ∧ o.cls = .type "tuple" ∧ o.data = .seq its n ∧ its.size ≤ sizeLine ∧ Vals vs its.toList ∧ FlatL ws vs
  | _ => False
structure GoodX (c : Ct) (k : Nat) (X : Cx) : Prop where
  lam : ∀ p L, c.lam = some (p, L) → HasL X.prog X.w X.K X.mg X.base k p 3 L
  fnL : ∀ x F, c.fnL.lookup x = some F → FnL X.prog X.w X.K X.mg k c.lj x F
  fnJ : ∀ x n F, c.fns.lookup x = some (n, F) → c.lfn.contains x = true → ∀ base, ModB X.K X.mg base → Has X.prog X.w X.K X.mg base c.lj x n F
  at' : c.top = true → c.self ∈ lamDefs → ∃ P, LamAt X c.self P
structure Good (c : Ct) (k : Nat) (X : Cx) : Prop where
  N : X.N = c.N
  sc : X.env.scope.names = c.names
  nd : c.N.Nodup
  un : X.A.units + 64 < cLine
  free : c.free = true → Room k X.A ∧ X.calm = true
  loop : c.loop = true → X.calm = true ∧ PassesOwn (model X.prog X.w) X.A X.env X.xe
  cst : ∀ x w, c.consts.lookup x = some w → CstOk X.K X.mg x w
  bl : ∀ x, c.bl.contains x = true → X.mg x = none
  fns : ∀ x n F, c.fns.lookup x = some (n, F) → Has X.prog X.w X.K X.mg X.base k x n F
  stk : c.top = true → Stk X
  fn : c.top = true → ∀ x, X.fn x = true
  kind : X.env.scope.kind = .function
  tab : TabOk X.K c.tb c.tt c.tc
  cls : ∀ x, c.clss.contains x = true → ∃ C, X.mg x = some (.ref C) ∧ ExcC X.K x C
  cln : ∀ x, c.cln.contains x = true → ∃ C, X.mg x = some (.ref C) ∧ ClsAt X.K x C
  dcs : ∀ x kvs, c.dcs.lookup x = some kvs → DcAt X.K X.w X.mg x kvs
  rm : RoomU k X.A
  fnu : ∀ x n F, c.fnu.contains x = true → c.fns.lookup x = some (n, F) → HasU X.prog X.w X.K X.mg X.base k x n F
  x : GoodX c k X
  fr : FrOk X
  hd : HdC X
theorem room_un {k : Nat} {A : Around} (hr : Room k A) : A.units + 64 < cLine := by have := hr.un; omega
def Ct.inTry (c : Ct) : Ct := { c with loop := false }
def Ct.inSuite (c : Ct) : Ct := { c with loop := false, free := false }
abbrev Ct.un (c : Ct) : Ct := c.inSuite
theorem Good.body {c : Ct} {k : Nat} {X : Cx} (G : Good c k X) (hf : c.free = true) (pn : List (Addr × Obj)) (E : Value → Shared → Prop) : Good c.inTry k (reX X X.A true pn E) :=
  ⟨G.N, G.sc, G.nd, G.un, fun _ => ⟨(G.free hf).1, rfl⟩, (fun z => by cases z), G.cst, G.bl, G.fns, fun z => ⟨(G.stk z).st, (G.stk z).fr, (G.stk z).ex⟩, G.fn, G.kind, G.tab, G.cls, G.cln, G.dcs, ⟨G.rm.d, G.rm.u⟩, G.fnu, ⟨G.x.lam, G.x.fnL, G.x.fnJ, fun t m => (G.x.at' t m).imp fun P L => ⟨L.code, L.qual, L.tab, L.mem, L.uniq, L.bm⟩⟩, G.fr, G.hd⟩
theorem Good.suite {c : Ct} {k : Nat} {X : Cx} (G : Good c k X) {a : Addr} {o : Obj} {u : HO} (nx : NoCx o) (pn : List (Addr × Obj)) (E : Value → Shared → Prop) : Good c.inSuite k (suX X a (.frz o u) pn E) :=
  ⟨G.N, G.sc, G.nd, G.un, (fun z => by cases z), (fun z => by cases z), G.cst, G.bl, G.fns, fun z => ⟨(G.stk z).st, (G.stk z).fr, (G.stk z).ex⟩, G.fn, G.kind, G.tab, G.cls, G.cln, G.dcs, ⟨G.rm.d, G.rm.u⟩, G.fnu, ⟨G.x.lam, G.x.fnL, G.x.fnJ, fun t m => (G.x.at' t m).imp fun P L => ⟨L.code, L.qual, L.tab, L.mem, L.uniq, L.bm⟩⟩, G.fr, .inr ⟨a, o, u, rfl, nx, upd_same⟩⟩
theorem boot_tyV : bootBuiltins "ValueError" = some (.type "ValueError") := by decide +kernel
def tyOf (x : Str) : Option String :=
  if x = "int" then some "int" else if x = "str" then some "str" else if x = "bool" then some "bool" else if x = "tuple" then some "tuple" else if x = "list" then some "list" else if x = "ValueError" then some "ValueError" else none
theorem tyOf_ok {x : Str} {T : String} (h : tyOf x = some T) : bootBuiltins x = some (.type T) := by
  unfold tyOf at h
  by_cases e : x = "int"
  · rw [if_pos e] at h; cases h; subst e; exact boot_tyI
  rw [if_neg e] at h
  by_cases e : x = "str"
  · rw [if_pos e] at h; cases h; subst e; exact boot_tyS
  rw [if_neg e] at h
  by_cases e : x = "bool"
  · rw [if_pos e] at h; cases h; subst e; exact boot_tyB
  rw [if_neg e] at h
  by_cases e : x = "tuple"
  · rw [if_pos e] at h; cases h; subst e; exact boot_tyT
  rw [if_neg e] at h
  by_cases e : x = "list"
  · rw [if_pos e] at h; cases h; subst e; exact boot_tyL
  rw [if_neg e] at h
  by_cases e : x = "ValueError"
  · rw [if_pos e] at h; cases h; subst e; exact boot_tyV
  rw [if_neg e] at h
  cases h
section
variable {X : Cx}
def oBad : Op2 := fun _ _ _ => .bad
theorem ow_bad {f : Value → Value → Sem Value} : OpW X f oBad := ⟨fun _ _ _ _ => False, fun _ _ _ _ _ _ _ _ _ _ _ _ h => h.elim, fun _ _ _ _ _ _ _ _ _ _ _ p => p⟩
noncomputable def binO : Operator → Op2
  | .Add => oAdd
  | .Sub => oSub
  | .Mult => oMulL
  | .FloorDiv => oFdiv
  | .Mod => oMod
  | .Pow => oPow
  | _ => oBad
theorem binO_ok (o : Operator) : OpW X (binaryOp o) (binO o) := by
  cases o <;> first | exact ow_add | exact ow_sub | exact ow_mulL1 | exact ow_fdiv | exact ow_mod | exact ow_pow | exact ow_bad
def cmpO : CmpOp → Op2
  | .Eq => oEq
  | .NotEq => oNe
  | .Lt => oLt
  | .LtE => oLe
  | .Gt => oGt
  | .GtE => oGe
  | .Is => oIs
  | .IsNot => oIsNot
  | .In => oIn2
  | .NotIn => oNotIn2
theorem cmpO_ok (hu : X.A.units + 64 < cLine) (o : CmpOp) : OpW X (compareOp o) (cmpO o) := by
  cases o <;> first | exact ow_eq hu | exact ow_ne hu | exact ow_ltT hu | exact ow_leT hu | exact ow_gt | exact ow_ge | exact ow_is | exact ow_isnot | exact ow_in2 | exact ow_notIn2
def cName (c : Ct) (x : Str) : GE := if okN x = true then
    match c.names.lookup x with
    | some .local => (match ixOf x c.N with | some i => gVar i | none => gBad)
    | some .cell => (match ixOf x c.N with | some i => gVar i | none => gBad)
    | some .free => (match ixOf x c.N with | some i => gVar i | none => gBad)
    | some .globalImplicit => (match c.consts.lookup x with
      | some w => gC w
      | none => if c.clss.contains x = true then gC (.cls x) else if c.cln.contains x = true then gC (.cls x) else if c.bl.contains x = true then (match tyOf x with | some T => gC (.ty T) | none => gBad) else gBad)
    | _ => gBad
  else gBad
theorem cName_ok {c : Ct} {k : Nat} (G : Good c k X) (x : Str) (pos : Pos) : JE X (.Name x pos) (cName c x) := by
  unfold cName
  by_cases hx : okN x = true
  · rw [if_pos hx]
    cases e : c.names.lookup x with
    | none => exact je_bad
    | some kd =>
      have el : X.env.scope.names.lookup x = some kd := by rw [G.sc]; exact e
      cases kd with
      | «local» =>
        dsimp only
        cases e2 : ixOf x c.N with
        | none => exact je_bad
        | some i => exact je_var i (by rw [G.N]; exact ixOf_get e2) (Or.inl el) (okN_d hx) (okN_c hx)
      | cell =>
        dsimp only
        cases e2 : ixOf x c.N with
        | none => exact je_bad
        | some i => exact je_var i (by rw [G.N]; exact ixOf_get e2) (Or.inr (Or.inl el)) (okN_d hx) (okN_c hx)
      | free =>
        dsimp only
        cases e2 : ixOf x c.N with
        | none => exact je_bad
        | some i => exact je_var i (by rw [G.N]; exact ixOf_get e2) (Or.inr (Or.inr el)) (okN_d hx) (okN_c hx)
      | globalImplicit =>
        dsimp only
        have hg : Gl X x := el
        cases e2 : c.consts.lookup x with
        | some w =>
          have q := G.cst x w e2
          cases w with
          | int i => obtain ⟨t, q⟩ := q; exact je_globI hg q (okN_d hx)
          | str y => obtain ⟨⟨t, q⟩, z⟩ := q; exact je_globS hg q z (okN_d hx)
          | ktp ws =>
            obtain ⟨a, vs, o, its, n, q1, q2, q3, q4, q5, q6, q7⟩ := q
            exact JE.of (pe_glob (v := .ref a) hg q1 rfl (okN_d hx)) fun ρ st σ H m Q S R p => p (.ref a) m H Ext.refl S (by unfold RelW; exact ⟨a, vs, rfl, ⟨o, its, n, q2, q3, q4, q5, q6⟩, q7.rel⟩)
          | _ => exact False.elim q
        | none =>
          dsimp only
          by_cases e5 : c.clss.contains x = true
          · rw [if_pos e5]
            obtain ⟨C, q1, q2⟩ := G.cls x e5
            exact JE.of (pe_glob (v := .ref C) hg q1 rfl (okN_d hx)) fun ρ st σ H m Q S R p => p (.ref C) m H Ext.refl S (by unfold RelW; exact ⟨C, rfl, q2.cls⟩)
          rw [if_neg e5]
          by_cases e6 : c.cln.contains x = true
          · rw [if_pos e6]
            obtain ⟨C, q1, q2⟩ := G.cln x e6
            exact JE.of (pe_glob (v := .ref C) hg q1 rfl (okN_d hx)) fun ρ st σ H m Q S R p => p (.ref C) m H Ext.refl S (by unfold RelW; exact ⟨C, rfl, q2⟩)
          rw [if_neg e6]
          by_cases e3 : c.bl.contains x = true
          · rw [if_pos e3]
            cases e4 : tyOf x with
            | none => exact je_bad
            | some T => exact je_ty hg (G.bl x e3) (tyOf_ok e4) (okN_n hx) (okN_d hx)
          · rw [if_neg e3]; exact je_bad
      | _ => exact je_bad
  · rw [if_neg hx]; exact je_bad
def cConst : Const → GE
  | .none => gC .non
  | .bool b => gC (.bl b)
  | .int i => gC (.int i)
  | .str x => if PyData.strOk x = true then gC (.str x) else gBad
  | _ => gBad
theorem cConst_ok (k : Const) (j : Nat) (pos : Pos) : JE X (.Constant k j pos) (cConst k) := by
  cases k with
  | none => exact je_non
  | bool b => exact je_bl
  | int i => exact je_int
  | str x =>
    show JE X _ (if PyData.strOk x = true then gC (.str x) else gBad)
    by_cases h : PyData.strOk x = true
    · rw [if_pos h]; exact je_str h
    · rw [if_neg h]; exact je_bad
  | _ => exact je_bad
def plain : Expr → Bool
  | .Starred .. => false
  | _ => true
theorem star_plain {e : Expr} {es : List Expr} {env : Env} (h : plain e = true) : starEach (e :: es) env = (false, eval e env) :: starEach es env := by
  cases e <;> first | rfl | cases h
theorem any_plain {pos : Pos} {env : Env} : ∀ {es : List Expr}, es.all plain = true → (backTo pos (starEach es env)).any (·.1) = false
  | [], _ => rfl
  | e :: es, h => by
    rw [List.all_cons, Bool.and_eq_true] at h
    rw [star_plain h.1]
    have q := any_plain (pos := pos) (env := env) h.2
    unfold backTo at q ⊢
    rw [List.map_cons, List.any_cons, q]
    rfl
def argsG (f : Expr → GE) : List Expr → GA
  | [] => gNil
  | e :: es => gCons (f e) (argsG f es)
theorem args_ok {f : Expr → GE} (h : ∀ e, JE X e (f e)) : ∀ es : List Expr, es.all plain = true → JA X es (argsG f es)
  | [], _ => ja_nil
  | e :: es, g => by
    rw [List.all_cons, Bool.and_eq_true] at g
    exact ja_cons (h e) (args_ok h es g.2) (star_plain g.1)
def blO (c : Ct) (x : Str) : Option (Value × (List Wv → Hs → Re Wv)) :=
  if x = "len" then some (.builtin "len", oLen) else if x = "abs" then some (.builtin "abs", oAbs) else if x = "isinstance" then some (.builtin "isinstance", oIsA c.tb c.tt) else if x = "int" then some (.type "int", oInt2) else if x = "list" ∧ c.free = true then some (.type "list", oListD) else if x = "max" ∧ c.free = true then some (.builtin "max", oMax2) else if x = "min" ∧ c.free = true then some (.builtin "min", oMin2) else if x = "sum" ∧ c.free = true then some (.builtin "sum", oSum) else if x = "sorted" then some (.builtin "sorted", oSrt2) else none
theorem boot_max' : bootBuiltins "max" = some (.builtin "max") := by decide +kernel
theorem boot_min' : bootBuiltins "min" = some (.builtin "min") := by decide +kernel
theorem boot_sum' : bootBuiltins "sum" = some (.builtin "sum") := by decide +kernel
theorem boot_srt' : bootBuiltins "sorted" = some (.builtin "sorted") := by decide +kernel
theorem blO_ok {c : Ct} {x : Str} {v : Value} {op : List Wv → Hs → Re Wv} (O : TabOk X.K c.tb c.tt c.tc) (hc : c.free = true → X.calm = true) (h : blO c x = some (v, op)) : bootBuiltins x = some v ∧ CallW X v op ∧ ((∃ id, v = .builtin id) ∨ ∃ T, v = .type T) := by
  unfold blO at h
  by_cases e : x = "len"
  · rw [if_pos e] at h; cases h; subst e; exact ⟨boot_lenJ, cw_len, .inl ⟨_, rfl⟩⟩
  rw [if_neg e] at h
  by_cases e : x = "abs"
  · rw [if_pos e] at h; cases h; subst e; exact ⟨boot_absJ, cw_abs, .inl ⟨_, rfl⟩⟩
  rw [if_neg e] at h
  by_cases e : x = "isinstance"
  · rw [if_pos e] at h; cases h; subst e; exact ⟨boot_isI, cw_isA O, .inl ⟨_, rfl⟩⟩
  rw [if_neg e] at h
  by_cases e : x = "int"
  · rw [if_pos e] at h; cases h; subst e; exact ⟨boot_tyI, cw_int2, .inr ⟨_, rfl⟩⟩
  rw [if_neg e] at h
  by_cases e : x = "list" ∧ c.free = true
  · rw [if_pos e] at h; cases h; obtain ⟨rfl, e2⟩ := e; exact ⟨boot_tyL, cw_listD (hc e2), .inr ⟨_, rfl⟩⟩
  rw [if_neg e] at h
  by_cases e : x = "max" ∧ c.free = true
  · rw [if_pos e] at h; cases h; obtain ⟨rfl, e2⟩ := e; exact ⟨boot_max', cw_max2 (hc e2), .inl ⟨_, rfl⟩⟩
  rw [if_neg e] at h
  by_cases e : x = "min" ∧ c.free = true
  · rw [if_pos e] at h; cases h; obtain ⟨rfl, e2⟩ := e; exact ⟨boot_min', cw_min2 (hc e2), .inl ⟨_, rfl⟩⟩
  rw [if_neg e] at h
  by_cases e : x = "sum" ∧ c.free = true
  · rw [if_pos e] at h; cases h; obtain ⟨rfl, e2⟩ := e; exact ⟨boot_sum', cw_sum (hc e2), .inl ⟨_, rfl⟩⟩
  rw [if_neg e] at h
  by_cases e : x = "sorted"
  · rw [if_pos e] at h; cases h; subst e; exact ⟨boot_srt', cw_srt2, .inl ⟨_, rfl⟩⟩
  rw [if_neg e] at h
  cases h
noncomputable def cCallN (c : Ct) (fE : Expr → GE) (x : Str) (es : List Expr) : GE := if okN x = true ∧ es.all plain = true ∧ c.names.lookup x = some .globalImplicit then
      (match c.fns.lookup x with
      | some (n, F) => if c.free = true then gCall n F (argsG fE es) else gBad
      | none => if c.bl.contains x = true then (match blO c x with | some (_, op) => gCallB op (argsG fE es) | none => gBad) else gBad)
    else gBad
def cMeth (fE : Expr → GE) (o : Expr) (name : Str) (e : Expr) (apos cpos : Pos) : GE := if plain e = true ∧ (apos.endLine == cpos.line) = true then
      (if name = "append" then gMeth mApp (fE o) (fE e) else gBad)
    else gBad
def dcOf (c : Ct) (x : Str) : Option Dc := if okN x = true ∧ c.names.lookup x = some .globalImplicit then c.dcs.lookup x else none
theorem dcOf_ok {c : Ct} {k : Nat} (G : Good c k X) {x : Str} {kvs : Dc} (h : dcOf c x = some kvs) : Gl X x ∧ (x == ("__debug__" : Str)) = false ∧ DcAt X.K X.w X.mg x kvs := by
  unfold dcOf at h
  by_cases g : okN x = true ∧ c.names.lookup x = some .globalImplicit
  · rw [if_pos g] at h
    refine ⟨?_, okN_d g.1, G.dcs x kvs h⟩
    show X.env.scope.names.lookup x = _
    rw [G.sc]; exact g.2
  · rw [if_neg g] at h; cases h
noncomputable def cCall (c : Ct) (fE : Expr → GE) (cpos : Pos) : Expr → List Expr → List Keyword → GE
  | .Name x _, e :: es, [] => cCallN c fE x (e :: es)
  | .Attribute (.Name x p) name apos, [e], [] => if name = "append" ∨ name = "extend" then cMeth fE (.Name x p) name e apos cpos else gBad
  | _, _, _ => gBad
theorem cCallN_ok {c : Ct} {k : Nat} (G : Good c k X) {fE : Expr → GE} (h : ∀ e, JE X e (fE e)) (x : Str) (e : Expr) (es : List Expr) (p pos : Pos) : JE X (.Call (.Name x p) (e :: es) [] pos) (cCallN c fE x (e :: es)) := by
  unfold cCallN
  by_cases g : okN x = true ∧ (e :: es).all plain = true ∧ c.names.lookup x = some .globalImplicit
  · rw [if_pos g]
    obtain ⟨g1, g2, g3⟩ := g
    have hg : Gl X x := by
      show X.env.scope.names.lookup x = _
      rw [G.sc]; exact g3
    have gp : plain e = true ∧ es.all plain = true := by rw [List.all_cons, Bool.and_eq_true] at g2; exact g2
    have ha := args_ok h (e :: es) g2
    cases e1 : c.fns.lookup x with
    | some nF =>
      obtain ⟨n, F⟩ := nF
      dsimp only
      by_cases cf : c.free = true
      · rw [if_pos cf]
        obtain ⟨a, fd, ps, G1, G2, G3, G4⟩ := G.fns x n F e1
        exact je_call G1 (G.free cf).1 G2 G3 G4 ha hg (okN_d g1) (star_plain gp.1) (any_plain gp.2)
      · rw [if_neg cf]
        exact je_bad
    | none =>
      dsimp only
      by_cases e3 : c.bl.contains x = true
      · rw [if_pos e3]
        cases e4 : blO c x with
        | none => exact je_bad
        | some io =>
          obtain ⟨v, op⟩ := io
          obtain ⟨b1, b2, b3⟩ := blO_ok (X := X) G.tab (fun z => (G.free z).2) e4
          rcases b3 with ⟨id, rfl⟩ | ⟨T, rfl⟩
          · exact je_callB b2 hg (G.bl x e3) b1 ha (okN_n g1) (okN_d g1) (star_plain gp.1) (any_plain gp.2)
          · exact je_callTy b2 hg (G.bl x e3) b1 ha (okN_n g1) (okN_d g1) (star_plain gp.1) (any_plain gp.2)
      · rw [if_neg e3]
        exact je_bad
  · rw [if_neg g]; exact je_bad
theorem cMeth_ok {fE : Expr → GE} (h : ∀ e, JE X e (fE e)) (x name : Str) (e : Expr) (p apos cpos : Pos) : JE X (.Call (.Attribute (.Name x p) name apos) [e] [] cpos) (cMeth fE (.Name x p) name e apos cpos) := by
  unfold cMeth
  by_cases g : plain e = true ∧ (apos.endLine == cpos.line) = true
  · rw [if_pos g]
    by_cases n1 : name = "append"
    · rw [if_pos n1]
      subst n1
      exact je_meth mw_app PySem.F.slot_list_append PySem.F.type_list_append (h _) (h e) (star_plain g.1) g.2
    rw [if_neg n1]
    exact je_bad
  · rw [if_neg g]; exact je_bad
theorem cCall_ok {c : Ct} {k : Nat} (G : Good c k X) {fE : Expr → GE} (h : ∀ e, JE X e (fE e)) (f : Expr) (as : List Expr) (ks : List Keyword) (pos : Pos) : JE X (.Call f as ks pos) (cCall c fE pos f as ks) := by
  unfold cCall
  split
  · exact cCallN_ok G h _ _ _ _ _
  · rename_i x p name apos e
    by_cases g : name = "append" ∨ name = "extend"
    · rw [if_pos g]; exact cMeth_ok h _ _ _ _ _ _
    · rw [if_neg g]
      exact je_bad
  · exact je_bad
def isSl : Expr → Bool
  | .Slice .. => true
  | _ => false
def partG (f : Expr → GE) : Option Expr → GO
  | none => gNoPart
  | some e => gPart (f e)
theorem part_ok {f : Expr → GE} (h : ∀ e, JE X e (f e)) (o : Option Expr) : JO X o (partG f o) := by
  cases o with
  | none => exact jo_none
  | some e => exact jo_some (h e)
def subG (f : Expr → GE) (a : Expr) : Expr → GE
  | .Slice lo hi none _ => gSlice2 (f a) (partG f lo) (partG f hi)
  | .Slice .. => gBad
  | b => gBin oIx (f a) (f b)
theorem sub_ok {f : Expr → GE} (h : ∀ e, JE X e (f e)) (a b : Expr) (pos : Pos) : JE X (.Subscript a b pos) (subG f a b) := by
  unfold subG
  split
  · exact je_slice2 (h a) (part_ok h _) (part_ok h _)
  · exact je_bad
  · rename_i n1 n2
    refine je_ix (h a) (h b) ?_
    intro o i
    cases b <;> first | rfl | (rename_i lo hi st p; exact (n2 _ _ _ _ rfl).elim)
def cmpG (f : Expr → GE) (a : Expr) : List CmpOp → List Expr → GE
  | [o], [b] => if behindInMarks o b = false then gBin (cmpO o) (f a) (f b) else gBad
  | [o, o'], [b, b'] => if lastMarks [o, o'] [b, b'] = false then gChain (cmpO o) (cmpO o') (f a) (f b) (f b') else gBad
  | _, _ => gBad
theorem cmp_ok (hu : X.A.units + 64 < cLine) {f : Expr → GE} (h : ∀ e, JE X e (f e)) (a : Expr) (os : List CmpOp) (bs : List Expr) (pos : Pos) : JE X (.Compare a os bs pos) (cmpG f a os bs) := by
  unfold cmpG
  split
  · rename_i o b
    by_cases g : behindInMarks o b = false
    · rw [if_pos g]; exact je_cmp (cmpO_ok hu o) (h a) (h b) g
    · rw [if_neg g]; exact je_bad
  · rename_i o o' b b'
    by_cases g : lastMarks [o, o'] [b, b'] = false
    · rw [if_pos g]; exact je_chain (cmpO_ok hu o) (cmpO_ok hu o') (h a) (h b) (h b') g
    · rw [if_neg g]; exact je_bad
  · exact je_bad
def cmpT (f : Expr → GE) (a : Expr) : List CmpOp → List Expr → GT
  | [o], [b] => if behindInMarks o b = false then gTst (gBin (cmpO o) (f a) (f b)) else gBadT
  | [o, o'], [b, b'] => if lastMarks [o, o'] [b, b'] = false then gTst (gChain (cmpO o) (cmpO o') (f a) (f b) (f b')) else gBadT
  | _, _ => gBadT
theorem cmpT_ok (hu : X.A.units + 64 < cLine) {f : Expr → GE} (h : ∀ e, JE X e (f e)) (a : Expr) (os : List CmpOp) (bs : List Expr) (pos : Pos) : JT X (.Compare a os bs pos) (cmpT f a os bs) := by
  unfold cmpT
  split
  · rename_i o b
    by_cases g : behindInMarks o b = false
    · rw [if_pos g]; exact jt_cmp (cmpO_ok hu o) (h a) (h b) g
    · rw [if_neg g]; exact jt_bad
  · rename_i o o' b b'
    by_cases g : lastMarks [o, o'] [b, b'] = false
    · rw [if_pos g]; exact jt_chain (cmpO_ok hu o) (cmpO_ok hu o') (h a) (h b) (h b') g
    · rw [if_neg g]; exact jt_bad
  · exact jt_bad
def subD (c : Ct) (f : Expr → GE) : Expr → Expr → GE
  | .Name x p, b => (match dcOf c x with | some kvs => if isSl b = false then gDcIx kvs (f b) else gBad | none => subG f (.Name x p) b)
  | a, b => subG f a b
theorem subD_ok {c : Ct} {k : Nat} (G : Good c k X) {f : Expr → GE} (h : ∀ e, JE X e (f e)) (a b : Expr) (pos : Pos) : JE X (.Subscript a b pos) (subD c f a b) := by
  unfold subD
  split
  · rename_i x p
    cases e : dcOf c x with
    | none =>
      dsimp only
      exact sub_ok h _ b pos
    | some kvs =>
      dsimp only
      by_cases g : isSl b = false
      · rw [if_pos g]
        obtain ⟨g1, g2, g3⟩ := dcOf_ok G e
        refine je_dcIx (h b) ?_ g1 g2 g3
        intro o i
        cases b <;> first | rfl | cases g
      · rw [if_neg g]; exact je_bad
  · exact sub_ok h _ b pos
def pairsOf (f : Expr → GE) : List (Option Expr) → List Expr → Option (List (GE × GE))
  | [], [] => some []
  | some k :: ks, v :: vs => (match pairsOf f ks vs with | some r => some ((f k, f v) :: r) | none => none)
  | _, _ => none
def andV (f : Expr → GE) : List Expr → GE
  | [] => gBad
  | [a] => f a
  | a :: b :: r => gAndV (f a) (andV f (b :: r))
def orV (f : Expr → GE) : List Expr → GE
  | [] => gBad
  | [a] => f a
  | a :: b :: r => gOrV (f a) (orV f (b :: r))
theorem andV_ok {f : Expr → GE} (h : ∀ e, JE X e (f e)) (pos : Pos) : ∀ es, JE X (.BoolOp .And es pos) (andV f es)
  | [] => je_bad
  | [a] => je_one (h a)
  | a :: b :: r => je_and (h a) (andV_ok h pos (b :: r))
theorem orV_ok {f : Expr → GE} (h : ∀ e, JE X e (f e)) (pos : Pos) : ∀ es, JE X (.BoolOp .Or es pos) (orV f es)
  | [] => je_bad
  | [a] => je_one (h a)
  | a :: b :: r => je_or (h a) (orV_ok h pos (b :: r))
def andT (f : Expr → GT) : List Expr → GT
  | [] => gBadT
  | [a] => f a
  | a :: b :: r => gAnd (f a) (andT f (b :: r))
def orT (f : Expr → GT) : List Expr → GT
  | [] => gBadT
  | [a] => f a
  | a :: b :: r => gOr (f a) (orT f (b :: r))
theorem jw_bad {e : Expr} : JW X e gBadT := fun ρ st σ H m Q S R p => False.elim p
theorem andT_ok {f : Expr → GT} (h : ∀ e, JT X e (f e)) (pos : Pos) : ∀ es, JW X (.BoolOp .And es pos) (andT f es)
  | [] => jw_bad
  | [a] => jw_and1 (h a)
  | a :: b :: r => jw_and (h a) (andT_ok h pos (b :: r))
theorem orT_ok {f : Expr → GT} (h : ∀ e, JT X e (f e)) (pos : Pos) : ∀ es, JW X (.BoolOp .Or es pos) (orT f es)
  | [] => jw_bad
  | [a] => jw_or1 (h a)
  | a :: b :: r => jw_or (h a) (orT_ok h pos (b :: r))
def unG (f : Expr → GE) : UnaryOp → Expr → GE
  | .USub, a => gUn opNeg (f a)
  | .Not, a => gNotV (f a)
  | _, _ => gBad
def seqG (f : Expr → GE) (g : GA → GE) (es : List Expr) : GE := if es.all plain = true then g (argsG f es) else gBad
def isSet : Expr → Bool
  | .Set .. => true
  | _ => false
theorem fold_no {e : Expr} {env : Env} (h : isSet e = false) (x : Value) : foldedSetIterable e env x = pure x := by
  cases e <;> first | rfl | cases h
def isRange (c : Ct) (x : Str) : Bool := decide (x = "range") && decide (c.names.lookup x = some .globalImplicit) && c.bl.contains x && (match c.fns.lookup x with | some _ => false | none => true)
theorem range_ok {c : Ct} {k : Nat} (G : Good c k X) (y : Str) (hy : isRange c y = true) : y = "range" ∧ Gl X y ∧ X.mg y = none := by
  unfold isRange at hy
  simp only [Bool.and_eq_true, decide_eq_true_eq] at hy
  refine ⟨hy.1.1.1, ?_, G.bl y hy.1.2⟩
  show X.env.scope.names.lookup y = _
  rw [G.sc]; exact hy.1.1.2
noncomputable def iterG (c : Ct) (f : Expr → GE) : Expr → GI
  | .Call (.Name x p) [a] [] q => if isRange c x = true then (if plain a = true then giR1 (argsG f [a]) else gBadI) else giSeq2 (f (.Call (.Name x p) [a] [] q))
  | e => if isSet e = false then giSeq2 (f e) else gBadI
theorem iter_ok {c : Ct} {k : Nat} (G : Good c k X) {f : Expr → GE} (h : ∀ e, JE X e (f e)) (tg e : Expr) : JI X tg e (iterG c f e) := by
  unfold iterG
  split
  · rename_i y p a q
    by_cases g : isRange c y = true
    · rw [if_pos g]
      obtain ⟨rfl, g2, g3⟩ := range_ok G y g
      by_cases ga : plain a = true
      · rw [if_pos ga]
        exact ji_r1 g2 g3 (args_ok h [a] (by simp [ga])) (star_plain ga)
      · rw [if_neg ga]; exact ji_bad
    · rw [if_neg g]; exact ji_seq2 (h _)
  · by_cases g : isSet e = false
    · rw [if_pos g]; exact ji_seq2 (h _)
    · rw [if_neg g]; exact ji_bad
def capsL (c : Ct) : List (Str × NameKind) → Option Caps
  | [] => some []
  | (n, .free) :: r => if c.names.lookup n = some .cell ∨ c.names.lookup n = some .free then (match ixOf n c.N, capsL c r with | some i, some l => some ((n, i) :: l) | _, _ => none) else none
  | _ :: r => capsL c r
theorem capsL_ok {c : Ct} : ∀ {ns : List (Str × NameKind)} {cs : Caps}, capsL c ns = some cs → (∀ y ∈ ns, y.2 = .free → c.names.lookup y.1 = some .cell ∨ c.names.lookup y.1 = some .free) ∧ ∀ p ∈ cs, (p.1, NameKind.free) ∈ ns ∧ c.N[p.2]? = some p.1
  | [], cs, h => by cases h; exact ⟨(fun _ z => by cases z), (fun _ z => by cases z)⟩
  | (n, k) :: r, cs, h => by
    unfold capsL at h
    split at h
    · cases ‹_ :: _ = []›
    · rename_i n' r' he
      cases he
      by_cases g : c.names.lookup n = some .cell ∨ c.names.lookup n = some .free
      · rw [if_pos g] at h
        cases e1 : ixOf n c.N with
        | none => rw [e1] at h; cases h
        | some i =>
          cases e2 : capsL c r with
          | none => rw [e1, e2] at h; cases h
          | some l =>
            rw [e1, e2] at h
            cases h
            obtain ⟨q1, q2⟩ := capsL_ok e2
            refine ⟨fun y hy e => ?_, fun p hp => ?_⟩
            · rcases List.mem_cons.mp hy with z | z
              · subst z; exact g
              · exact q1 y z e
            · rcases List.mem_cons.mp hp with z | z
              · subst z; exact ⟨List.mem_cons_self, ixOf_get e1⟩
              · exact ⟨List.mem_cons_of_mem _ (q2 p z).1, (q2 p z).2⟩
      · rw [if_neg g] at h; cases h
    · rename_i kk r' hk he
      cases he
      obtain ⟨q1, q2⟩ := capsL_ok h
      refine ⟨fun y hy e => ?_, fun p hp => ⟨List.mem_cons_of_mem _ (q2 p hp).1, (q2 p hp).2⟩⟩
      rcases List.mem_cons.mp hy with z | z
      · subst z
        have e' : k = .free := e
        subst e'
        exact (hk n rfl).elim
      · exact q1 y z e
def relabN (c : Ct) (ns : List (Str × NameKind)) : List (Str × NameKind) := ns.map fun (n, k) => if (k == .free && c.names.lookup n == some .cell) then (n, .cell) else (n, k)
def isFnK : ScopeKind → Bool
  | .function => true
  | _ => false
def scopeOk (scope : Scope) (x : Str) : Bool := isFnK scope.kind && scope.names.all (fun y => decide (scope.names.lookup y.1 = some y.2)) && scope.names.all (fun y => decide (y.2 ≠ .cell)) && decide (scope.names.lookup x = some .local)
def Ct.block (c : Ct) (scope : Scope) (x : Str) (cs : Caps) : Ct := { c with N := x :: cs.map (·.1), names := relabN c scope.names, loop := false, top := false }
noncomputable def compC (c : Ct) (sub : Ct → (Expr → GE) × (Expr → GT)) (f : Expr → GE) (elt : Expr) (x : Str) (iter : Expr) (gts : Ct → GT) (scope : Scope) : GE :=
  if scopeOk scope x = true ∧ c.free = true ∧ isSet iter = false then (match capsL c scope.names with
    | some cs => if (x :: cs.map (·.1)).Nodup then gComp cs (iterG c f iter) (gts (c.block scope x cs)) ((sub (c.block scope x cs)).1 elt) else gBad
    | none => gBad) else gBad
noncomputable def coG (c : Ct) (sub : Ct → (Expr → GE) × (Expr → GT)) (f : Expr → GE) (elt : Expr) (scope : Scope) : List Comprehension → GE
  | [⟨.Name x _, iter, [], 0⟩] => compC c sub f elt x iter (fun _ => fun _ st => .ok true st) scope
  | [⟨.Name x _, iter, [q], 0⟩] => compC c sub f elt x iter (fun c' => (sub c').2 q) scope
  | _ => gBad
theorem block_good {c : Ct} {k : Nat} (G : Good c k X) {scope : Scope} {x : Str} {cs : Caps} (hs : scopeOk scope x = true) (nd : (x :: cs.map (·.1)).Nodup) (C : Addr) (s0 : Shared) (H0 : Hp) (fp : List Addr) (pn : List (Addr × Obj)) (E : Value → Shared → Prop) (hA : HdA X.A H0) :
    Good (c.block scope x cs) k (compX X scope x cs C s0 H0 fp pn E) := by
  unfold scopeOk at hs
  simp only [Bool.and_eq_true, decide_eq_true_eq] at hs
  have hk : scope.kind = .function := by
    have := hs.1.1.1
    revert this
    cases scope.kind <;> intro z <;> first | rfl | cases z
  refine ⟨rfl, ?_, nd, G.un, G.free, (fun z => by cases z), G.cst, G.bl, G.fns, (fun z => by cases z), (fun z => by cases z), hk, G.tab, G.cls, G.cln, G.dcs, ⟨G.rm.d, G.rm.u⟩, G.fnu, ⟨G.x.lam, G.x.fnL, G.x.fnJ, (fun z => by cases z)⟩, G.fr, hA⟩
  show (relabel scope X.env).names = relabN c scope.names
  unfold relabel relabN Env.kindOf
  rw [G.kind, G.sc]
  simp
theorem scope_cs {c : Ct} {k : Nat} (G : Good c k X) {scope : Scope} {x : Str} {cs : Caps} (hs : scopeOk scope x = true) (hcs : capsL c scope.names = some cs) (nd : (x :: cs.map (·.1)).Nodup) : CScope X scope x cs := by
  unfold scopeOk at hs
  simp only [Bool.and_eq_true, decide_eq_true_eq, List.all_eq_true] at hs
  obtain ⟨⟨⟨h1, h2⟩, h3⟩, h4⟩ := hs
  have hk : scope.kind = .function := by
    revert h1
    cases scope.kind <;> intro z <;> first | rfl | cases z
  obtain ⟨q1, q2⟩ := capsL_ok hcs
  refine ⟨hk, h2, h3, h4, fun y hy e => ?_, fun p hp => ⟨by rw [G.N]; exact (q2 p hp).2, h2 _ (q2 p hp).1⟩, nd⟩
  show X.env.scope.names.lookup y.1 = _ ∨ X.env.scope.names.lookup y.1 = _
  rw [G.sc]; exact q1 y hy e
def JAs (X : Cx) (e : Expr) (g : GE) : Prop := ∀ (i : Nat) (y : Str) (py spos : Pos), X.N.Nodup → X.N[i]? = some y → Loc X.env.scope y → (X.fn y = true ∨ X.env.scope.names.lookup y = some .local) → JS X (.Assign [.Name y py] e spos) (gSet i g)
theorem js_setBad {i : Nat} {s : Stmt} : JS X s (gSet i gBad) := fun ρ st σ H m D S R p => False.elim p
theorem jas_bad {e : Expr} : JAs X e gBad := fun i y py spos _ _ _ _ => js_setBad
theorem co_both {c : Ct} {k : Nat} (G : Good c k X) {sub : Ct → (Expr → GE) × (Expr → GT)} (hb : ∀ c X, Good c k X → (∀ e, JE X e ((sub c).1 e)) ∧ ∀ e, JT X e ((sub c).2 e)) {f : Expr → GE} (h : ∀ e, JE X e (f e)) (elt : Expr) (scope : Scope) (gens : List Comprehension) (pos : Pos) :
    JE X (.ListComp elt gens scope pos) (coG c sub f elt scope gens) ∧ JAs X (.ListComp elt gens scope pos) (coG c sub f elt scope gens) := by
  have core : ∀ (x : Str) (px : Pos) (iter : Expr) (ifs : List Expr) (gts : Ct → GT), (∀ c X, Good c k X → JTs X ifs (gts c)) →
      JE X (.ListComp elt [⟨.Name x px, iter, ifs, 0⟩] scope pos) (compC c sub f elt x iter gts scope) ∧ JAs X (.ListComp elt [⟨.Name x px, iter, ifs, 0⟩] scope pos) (compC c sub f elt x iter gts scope) := by
    intro x px iter ifs gts hg
    unfold compC
    by_cases g : scopeOk scope x = true ∧ c.free = true ∧ isSet iter = false
    · rw [if_pos g]
      obtain ⟨g1, g2, g3⟩ := g
      cases ec : capsL c scope.names with
      | none => exact ⟨je_bad, jas_bad⟩
      | some cs =>
        dsimp only
        by_cases nd : (x :: cs.map (·.1)).Nodup
        · rw [if_pos nd]
          have CS := scope_cs G g1 ec nd
          have hE : ∀ C s0 H0 fp pn E, HdA X.A H0 → JE (compX X scope x cs C s0 H0 fp pn E) elt ((sub (c.block scope x cs)).1 elt) := fun C s0 H0 fp pn E z => (hb _ _ (block_good G g1 nd C s0 H0 fp pn E z)).1 elt
          have hT : ∀ C s0 H0 fp pn E, HdA X.A H0 → JTs (compX X scope x cs C s0 H0 fp pn E) ifs (gts (c.block scope x cs)) := fun C s0 H0 fp pn E z => hg _ _ (block_good G g1 nd C s0 H0 fp pn E z)
          exact ⟨je_comp G.fr CS (yin_calm (G.free g2).2) G.hd (iter_ok G h _ iter).y hE hT (fold_no g3), fun i y py spos hN hi hl hf => js_setC i hN G.fr CS (yin_calm (G.free g2).2) G.hd (iter_ok G h _ iter).y hE hT (fold_no g3) hi hl hf⟩
        · rw [if_neg nd]; exact ⟨je_bad, jas_bad⟩
    · rw [if_neg g]; exact ⟨je_bad, jas_bad⟩
  unfold coG
  split
  · exact core _ _ _ _ _ fun _ _ _ => jts_nil
  · exact core _ _ _ _ _ fun c X G' => jts_one ((hb c X G').2 _)
  · exact ⟨je_bad, jas_bad⟩
noncomputable def stepE (c : Ct) (sub : Ct → (Expr → GE) × (Expr → GT)) (f : Expr → GE) (t : Expr → GT) : Expr → GE
  | .Name x _ => cName c x
  | .Constant k _ _ => cConst k
  | .BinOp a o b _ => gBin (binO o) (f a) (f b)
  | .UnaryOp o a _ => unG f o a
  | .BoolOp .And es _ => andV f es
  | .BoolOp .Or es _ => orV f es
  | .Compare a os bs _ => cmpG f a os bs
  | .IfExp q a b _ => gIfE (t q) (f a) (f b)
  | .Tuple es _ _ => seqG f gTup es
  | .List es _ => seqG f gLst es
  | .Subscript a b _ => subD c f a b
  | .Call g as ks p => cCall c f p g as ks
  | .ListComp elt gens scope _ => coG c sub f elt scope gens
  | _ => gBad
def stepT (c : Ct) (f : Expr → GE) (t : Expr → GT) : Expr → GT
  | .UnaryOp .Not a _ => gNot (t a)
  | .BoolOp .And es _ => andT t es
  | .BoolOp .Or es _ => orT t es
  | .Compare a os bs _ => cmpT f a os bs
  | .Name x p => gTru (f (.Name x p))
  | .Call g as ks p => gTru (f (.Call g as ks p))
  | .Subscript a b p => gTru (f (.Subscript a b p))
  | .Constant k j p => gTru (f (.Constant k j p))
  | .BinOp a o b p => gTru (f (.BinOp a o b p))
  | _ => gBadT
theorem stepE_ok {c : Ct} {k : Nat} (G : Good c k X) {sub : Ct → (Expr → GE) × (Expr → GT)} (hb : ∀ k c X, Good c k X → (∀ e, JE X e ((sub c).1 e)) ∧ ∀ e, JT X e ((sub c).2 e)) {f : Expr → GE} {t : Expr → GT} (h : ∀ e, JE X e (f e)) (ht : ∀ e, JT X e (t e)) (e : Expr) : JE X e (stepE c sub f t e) := by
  have hu : X.A.units + 64 < cLine := G.un
  cases e with
  | Name x p => exact cName_ok G x p
  | Constant v j p => exact cConst_ok v j p
  | BinOp a o b p => exact je_bin (binO_ok o) (h a) (h b)
  | UnaryOp o a p =>
    cases o with
    | USub => exact je_neg (h a)
    | Not => exact je_not (h a)
    | _ => exact je_bad
  | BoolOp o es p =>
    cases o with
    | And => exact andV_ok h p es
    | Or => exact orV_ok h p es
  | Compare a os bs p => exact cmp_ok G.un h a os bs p
  | IfExp q a b p => exact je_if (ht q) (h a) (h b)
  | Tuple es j p =>
    show JE X _ (seqG f gTup es)
    unfold seqG
    by_cases g : es.all plain = true
    · rw [if_pos g]; exact je_tup (args_ok h es g)
    · rw [if_neg g]; exact je_bad
  | List es p =>
    show JE X _ (seqG f gLst es)
    unfold seqG
    by_cases g : es.all plain = true
    · rw [if_pos g]; exact je_lst (args_ok h es g)
    · rw [if_neg g]; exact je_bad
  | Subscript a b p => exact subD_ok G h a b p
  | Call g as ks p => exact cCall_ok G h g as ks p
  | ListComp elt gens scope p => exact (co_both G (hb k) h elt scope gens p).1
  | _ => exact je_bad
def isCo : Expr → Bool
  | .ListComp .. => true
  | .SetComp .. => true
  | .DictComp .. => true
  | .Set .. => true
  | _ => false
theorem swap_no {e : Expr} {t : Option Expr} {n : Nat} {env : Env} (h : isCo e = false) : swapsWith e t n env = pure false := by
  cases e <;> first | rfl | cases h
theorem stepE_as {c : Ct} {k : Nat} (G : Good c k X) {sub : Ct → (Expr → GE) × (Expr → GT)} (hb : ∀ k c X, Good c k X → (∀ e, JE X e ((sub c).1 e)) ∧ ∀ e, JT X e ((sub c).2 e)) {f : Expr → GE} {t : Expr → GT} (h : ∀ e, JE X e (f e)) (ht : ∀ e, JT X e (t e)) (e : Expr) : JAs X e (stepE c sub f t e) := by
  by_cases g : isCo e = false
  · exact fun i y py spos hN hi hl hf => js_set i hN (stepE_ok G hb h ht e) hi hl (swap_no g) hf
  · cases e with
    | ListComp elt gens scope p => exact (co_both G (hb k) h elt scope gens p).2
    | SetComp => exact jas_bad
    | DictComp => exact jas_bad
    | Set => exact jas_bad
    | _ => exact absurd rfl g
theorem stepT_ok {c : Ct} {k : Nat} (G : Good c k X) {f : Expr → GE} {t : Expr → GT} (h : ∀ e, JE X e (f e)) (ht : ∀ e, JT X e (t e)) (e : Expr) : JT X e (stepT c f t e) := by
  have hu : X.A.units + 64 < cLine := G.un
  cases e with
  | UnaryOp o a p =>
    cases o with
    | Not => exact jt_not (ht a)
    | _ => exact jt_bad
  | BoolOp o es p =>
    cases o with
    | And => exact (andT_ok ht p es).jt
    | Or => exact (orT_ok ht p es).jt
  | Compare a os bs p => exact cmpT_ok G.un h a os bs p
  | Name x p => exact jt_tru (h _) (fun _ => rfl)
  | Call g as ks p => exact jt_tru (h _) (fun _ => rfl)
  | Subscript a b p => exact jt_tru (h _) (fun _ => rfl)
  | Constant v j p => exact jt_tru (h _) (fun _ => rfl)
  | BinOp a o b p => exact jt_tru (h _) (fun _ => rfl)
  | _ => exact jt_bad
end
noncomputable def compE : Nat → Ct → (Expr → GE) × (Expr → GT)
  | 0, _ => (fun _ => gBad, fun _ => gBadT)
  | n + 1, c => (stepE c (compE n) (compE n c).1 (compE n c).2, stepT c (compE n c).1 (compE n c).2)
section
variable {X : Cx}
theorem compE_ok : ∀ (n : Nat) (k : Nat) (c : Ct) (X : Cx), Good c k X → (∀ e, JE X e ((compE n c).1 e)) ∧ ∀ e, JT X e ((compE n c).2 e)
  | 0, _, _, _, _ => ⟨fun _ => je_bad, fun _ => jt_bad⟩
  | n + 1, k, c, X, G => ⟨fun e => stepE_ok G (fun k c X G => compE_ok n k c X G) (compE_ok n k c X G).1 (compE_ok n k c X G).2 e, fun e => stepT_ok G (compE_ok n k c X G).1 (compE_ok n k c X G).2 e⟩
theorem compE_as {k : Nat} : ∀ (n : Nat) (c : Ct) (X : Cx), Good c k X → ∀ e, JAs X e ((compE n c).1 e)
  | 0, _, _, _, _ => jas_bad
  | n + 1, c, X, G, e => stepE_as G (fun k c X G => compE_ok n k c X G) (compE_ok n k c X G).1 (compE_ok n k c X G).2 e
def slot (c : Ct) (x : Str) : Option Nat := if c.names.lookup x = some .local ∨ (c.names.lookup x = some .cell ∧ c.top = true) then ixOf x c.N else none
theorem slot_ok {c : Ct} {k : Nat} (G : Good c k X) {x : Str} {i : Nat} (h : slot c x = some i) : X.N[i]? = some x ∧ (Loc X.env.scope x ∧ (X.fn x = true ∨ X.env.scope.names.lookup x = some .local)) := by
  unfold slot at h
  by_cases e : c.names.lookup x = some .local ∨ (c.names.lookup x = some .cell ∧ c.top = true)
  · rw [if_pos e] at h
    refine ⟨by rw [G.N]; exact ixOf_get h, ?_⟩
    rcases e with e | ⟨e, e2⟩
    · have q : X.env.scope.names.lookup x = some .local := by rw [G.sc]; exact e
      exact ⟨.inl q, .inr q⟩
    · have q : X.env.scope.names.lookup x = some .cell := by rw [G.sc]; exact e
      exact ⟨.inr q, .inl (G.fn e2 x)⟩
  · rw [if_neg e] at h; cases h
def slots (c : Ct) : List Expr → Option (List Nat)
  | [] => some []
  | .Name x _ :: es => (match slot c x, slots c es with | some i, some is => some (i :: is) | _, _ => none)
  | _ => none
def asgG (c : Ct) (f : Expr → GE) (v : Expr) : List Expr → GS
  | [.Name x _] => (match slot c x with | some i => gSet i (f v) | none => gNever)
  | [.Subscript o i _] => if isCo v = false ∧ isSl i = false then gSetI (f v) (f o) (f i) else gNever
  | _ => gNever
theorem asg_ok {c : Ct} {k : Nat} (G : Good c k X) {f : Expr → GE} (h : ∀ e, JE X e (f e)) (ha : ∀ e, JAs X e (f e)) (v : Expr) (ts : List Expr) (pos : Pos) : JS X (.Assign ts v pos) (asgG c f v ts) := by
  unfold asgG
  split
  · rename_i x p
    cases e : slot c x with
    | none => exact js_never
    | some i =>
      obtain ⟨e1, e2⟩ := slot_ok G e
      dsimp only
      exact ha v i x _ _ (by rw [G.N]; exact G.nd) e1 e2.1 e2.2
  · rename_i o i p
    by_cases g : isCo v = false ∧ isSl i = false
    · rw [if_pos g]
      have g2 := g.2
      refine js_setI (h v) (h o) (h i) (by unfold swapsWithSole; exact swap_no g.1) ?_ rfl ?_
      · cases v <;> rfl
      · intro _
        cases i <;> first | rfl | cases g2
    · rw [if_neg g]; exact js_never
  · exact js_never
noncomputable def forG (c : Ct) (f : Expr → GE) (i : Nat) (gb : GS) : Expr → GS
  | .Call (.Name x p) [a] [] q => if isRange c x = true then (if plain a = true then gForR1 i (argsG f [a]) gb else gNever) else gFor i (f (.Call (.Name x p) [a] [] q)) gb
  | .Call (.Name x p) [a, b, d] [] q => if isRange c x = true then (if [a, b, d].all plain = true then gForR3 i (argsG f [a, b, d]) gb else gNever) else gFor i (f (.Call (.Name x p) [a, b, d] [] q)) gb
  | e => if isSet e = false then gFor i (f e) gb else gNever
theorem for_ok {c : Ct} {k : Nat} (G : Good c k X) (hl : c.loop = true) {f : Expr → GE} (h : ∀ e, JE X e (f e)) {x : Str} {i : Nat} (hx : slot c x = some i) {body : List Stmt} {gb : GS} (hb : JSs X body gb) (e : Expr) (pos pos' : Pos) : JS X (.For (.Name x pos') e body [] pos) (forG c f i gb e) := by
  have nd : X.N.Nodup := by rw [G.N]; exact G.nd
  obtain ⟨e1, e2⟩ := slot_ok G hx
  have rg := range_ok G
  unfold forG
  split
  · rename_i y p a q
    by_cases g : isRange c y = true
    · rw [if_pos g]
      obtain ⟨rfl, g2, g3⟩ := rg y g
      by_cases ga : plain a = true
      · rw [if_pos ga]
        exact js_forR1 i nd (G.loop hl).2 (G.loop hl).1 g2 g3 (args_ok h [a] (by simp [ga])) hb e1 e2.1 e2.2 (star_plain ga)
      · rw [if_neg ga]; exact js_never
    · rw [if_neg g]; exact js_for i nd (G.loop hl).2 (G.loop hl).1 (h _) hb e1 e2.1 e2.2 (fold_no rfl)
  · rename_i y p a b d q
    by_cases g : isRange c y = true
    · rw [if_pos g]
      obtain ⟨rfl, g2, g3⟩ := rg y g
      by_cases ga : [a, b, d].all plain = true
      · rw [if_pos ga]
        have gp : plain a = true ∧ [b, d].all plain = true := by rw [List.all_cons, Bool.and_eq_true] at ga; exact ga
        exact js_forR3 i nd (G.loop hl).2 (G.loop hl).1 g2 g3 (args_ok h [a, b, d] ga) hb e1 e2.1 e2.2 (star_plain gp.1) (any_plain gp.2)
      · rw [if_neg ga]; exact js_never
    · rw [if_neg g]; exact js_for i nd (G.loop hl).2 (G.loop hl).1 (h _) hb e1 e2.1 e2.2 (fold_no rfl)
  · by_cases g : isSet e = false
    · rw [if_pos g]; exact js_for i nd (G.loop hl).2 (G.loop hl).1 (h _) hb e1 e2.1 e2.2 (fold_no g)
    · rw [if_neg g]; exact js_never
noncomputable def stepS (c : Ct) (f : Expr → GE) (t : Expr → GT) (b : Ct → List Stmt → GS) : Stmt → GS
  | .Return (some e) _ => gRet (f e)
  | .Return none _ => gRet (gC .non)
  | .Expr e _ => if isCo e = false then gExpr (f e) else gNever
  | .If q x y _ => gIf (t q) (b c x) (b c y)
  | .Assign ts v _ => asgG c f v ts
  | .For (.Name x _) e body [] _ => if c.loop = true then (match slot c x with | some i => forG c f i (b c body) e | none => gNever) else gNever
  | _ => gNever
theorem stepS_ok {c : Ct} {k : Nat} (G : Good c k X) {f : Expr → GE} {t : Expr → GT} {b : Ct → List Stmt → GS} (h : ∀ e, JE X e (f e)) (ha : ∀ e, JAs X e (f e)) (ht : ∀ e, JT X e (t e)) (hb : ∀ c X, Good c k X → ∀ s, JSs X s (b c s)) (s : Stmt) : JS X s (stepS c f t b s) := by
  unfold stepS
  split
  · exact js_ret (h _)
  · exact js_retN
  · rename_i e p
    by_cases g : isCo e = false
    · rw [if_pos g]; exact js_expr (h _) (swap_no g)
    · rw [if_neg g]; exact js_never
  · exact js_if (ht _) (hb c X G _) (hb c X G _)
  · exact asg_ok G h ha _ _ _
  · rename_i x p e body q
    by_cases g : c.loop = true
    · rw [if_pos g]
      cases e1 : slot c x with
      | none => exact js_never
      | some i => exact for_ok G g h e1 (hb c X G body) e _ _
    · rw [if_neg g]; exact js_never
  · exact js_never
end
def stmtsG (f : Stmt → GS) : List Stmt → GS
  | [] => gNext
  | [s] => f s
  | s :: s' :: r => gSeq (f s) (stmtsG f (s' :: r))
theorem stmts_ok {X : Cx} {f : Stmt → GS} (h : ∀ s, JS X s (f s)) : ∀ ss, JSs X ss (stmtsG f ss)
  | [] => jss_nil
  | [s] => jss_one (h s)
  | s :: s' :: r => jss_cons (h s) (stmts_ok h (s' :: r))
noncomputable def compS : Nat → Ct → List Stmt → GS
  | 0, _ => fun _ => gNever
  | n + 1, c => stmtsG (stepS c (compE 40 c).1 (compE 40 c).2 (compS n))
theorem compS_ok {k : Nat} : ∀ (n : Nat) (c : Ct) (X : Cx), Good c k X → ∀ ss : List Stmt, JSs X ss (compS n c ss)
  | 0, _, _, _, _ => jss_never
  | n + 1, c, X, G, ss => stmts_ok (fun s => stepS_ok G (compE_ok 40 k c X G).1 (compE_as 40 c X G) (compE_ok 40 k c X G).2 (compS_ok n) s) ss
structure LamK (K : PySem.W.Frag) (mg : Str → Option Value) (q : Str) (P : Addr) : Prop where
  tab : tabFree K q = some P
  code : ∃ c o vs file tf flags tg inF text tt, PySem.W.tabIn K q = some (c, P) ∧ K.lookup c = some o ∧ o.cls = .type "code" ∧ o.data = .fields vs ∧ vs[11]? = some (.ref P) ∧ vs.getD 11 .none = .ref P ∧ vs.getD 18 .none = .str file tf ∧
    vs.getD 7 .none = .int flags tg ∧ vs.getD 9 .none = .bool inF ∧ vs.getD 10 .none = .int text tt ∧ c ≠ P
  mem : q ∈ lamDefs
  uniq : ∀ q', q' ∈ lamDefs → tabFree K q' = some P → q' = q
theorem LamK.at' {X : Cx} {q : Str} {P f : Addr} {cdv : Value} (h : LamK X.K X.mg q P) (M : ModB X.K X.mg X.base) (hn : PySem.W.nsIn X.K mainGlobals q = some (some (.ref f))) (hc : CodeOf X.K f cdv) (e1 : X.env.code = cdv) (e2 : X.env.qual = q ++ ".<locals>.") : LamAt X q P := by
  obtain ⟨c, o, vs, file, tf, flags, tg, inF, text, tt, t, l, r⟩ := h.code
  refine ⟨⟨c, ?_, o, vs, file, tf, flags, tg, inF, text, tt, M.1.kin _ _ l, r⟩, e2, h.tab, h.mem, h.uniq, M.2⟩
  · obtain ⟨of, lf, fd, d, cd⟩ := hc
    rw [e1, ← cd]
    unfold PySem.W.tabIn at t
    rw [hn] at t
    dsimp only at t
    rw [lf] at t
    obtain ⟨oc, od, da, sl⟩ := of
    dsimp only at d
    subst d
    dsimp only at t
    cases q1 : fd.code with
    | ref c2 =>
      rw [q1] at t
      dsimp only at t
      split at t
      · split at t
        · cases t; rfl
        · cases t
      · cases t
    | _ => rw [q1] at t; cases t
structure TopX (c : Ct) (k : Nat) (P : Program) (w : World) (K : PySem.W.Frag) (mg : Str → Option Value) (base : Heap) : Prop where
  lam : ∀ p L, c.lam = some (p, L) → HasL P w K mg base k p 3 L
  fnL : ∀ x F, c.fnL.lookup x = some F → FnL P w K mg k c.lj x F
  fnJ : ∀ x n F, c.fns.lookup x = some (n, F) → c.lfn.contains x = true → ∀ base, ModB K mg base → Has P w K mg base c.lj x n F
  at' : c.self ∈ lamDefs → ∃ P, LamK K mg c.self P
theorem TopX.no {c : Ct} {k : Nat} {P : Program} {w : World} {K : PySem.W.Frag} {mg : Str → Option Value} {base : Heap} (h1 : c.lam = none) (h2 : c.fnL = []) (h3 : c.lfn = []) (h4 : c.self = "") : TopX c k P w K mg base :=
  ⟨(fun p L e => by rw [h1] at e; cases e), (fun x F e => by rw [h2] at e; cases e), (fun x n F _ e => by rw [h3] at e; cases e), (fun e => by rw [h4] at e; exact absurd e (by decide))⟩
structure TopOk (c : Ct) (k : Nat) (P : Program) (w : World) (K : PySem.W.Frag) (mg : Str → Option Value) (base : Heap) : Prop where
  cst : ∀ x w, c.consts.lookup x = some w → CstOk K mg x w
  bl : ∀ x, c.bl.contains x = true → mg x = none
  fns : ∀ x n F, c.fns.lookup x = some (n, F) → Has P w K mg base k x n F
  tab : TabOk K c.tb c.tt c.tc
  cls : ∀ x, c.clss.contains x = true → ∃ C, mg x = some (.ref C) ∧ ExcC K x C
  cln : ∀ x, c.cln.contains x = true → ∃ C, mg x = some (.ref C) ∧ ClsAt K x C
  dcs : ∀ x kvs, c.dcs.lookup x = some kvs → DcAt K w mg x kvs
  fnu : ∀ x n F, c.fnu.contains x = true → c.fns.lookup x = some (n, F) → HasU P w K mg base k x n F
  x : TopX c k P w K mg base
theorem has_def {P : Program} {w : World} {K : PySem.W.Frag} {mg : Str → Option Value} {base : Heap} {h : Heap} {k : Nat} {c : Ct} {x : Str} {st : Stmt} {ps : List Str} {g : GS} (KX : K.In h) (NS : h.Ns mainGlobals mg) (D : DefAt K x st) (T : TopOk c k P w K mg base)
    (S : FnScope c.N ps (defScope st)) (hn : (defScope st).names = c.names) (hg : compS 30 c (defBody st) = g)
    (hb : ∀ (kV doc pm : Value) (an : Option Addr) (cdv ct : Value) (us : List Value), us.length = ps.length → bindArgs (PySem.W.fnOf x x (defArgs st) (defBody st) (defScope st) .none kV doc pm an cdv ct) ⟨us, []⟩ = pure (ps.zip us)) (hM : c.self ∈ lamDefs → ModB K mg base ∧ c.self = x := by exact fun z => absurd (show ("" : Str) ∈ lamDefs from z) (by decide)) :
    Has P w K mg base (k + 1) x ps.length (fnF c.N.length g) := by
  obtain ⟨f, fd, a, F⟩ := D
  refine ⟨f, fd, ps, ?_, PySem.W.mg_of KX NS a, F.kp, F.binds hb⟩
  subst hg
  refine fn_ok F S fun cdv hcdv A outer s H E hr => ?_
  refine compS_ok (k := k) 30 c _ ⟨rfl, hn, S.nd, room_un hr, fun _ => ⟨hr, rfl⟩, fun _ => ⟨rfl, PassesOwn.leaving⟩, T.cst, T.bl, T.fns, fun _ => ⟨rfl, rfl, rfl⟩, fun _ _ => rfl, S.kind, T.tab, T.cls, T.cln, T.dcs, RoomU.of hr, T.fnu, ⟨T.x.lam, T.x.fnL, T.x.fnJ, fun _ z => ?_⟩, ⟨_, _, _, rfl, rfl, rfl⟩, .inl hr.hd⟩ _
  obtain ⟨P', L⟩ := T.x.at' z
  obtain ⟨M, e⟩ := hM z
  exact ⟨P', LamK.at' L M (by rw [e]; exact a) hcdv rfl (by rw [e]; rfl)⟩
theorem law_has {P : Program} {w : World} {K : PySem.W.Frag} {mg : Str → Option Value} {h : Heap} {k : Nat} {F : List Wv → Hs → Re Wv} {fa : Addr} {st : Stmt} (KX : K.In h) (NS : h.Ns mainGlobals mg) (hmg : mg "law" = some (.ref fa)) (D : DefAt K "law" st)
    (hp : ∀ (kV doc pm : Value) (an : Option Addr) (cdv ct : Value) (s : Shared) (u : Value), BindsTo s (PySem.W.fnOf "law" "law" (defArgs st) (defBody st) (defScope st) .none kV doc pm an cdv ct) ⟨[u], []⟩ [("script", u)])
    (FN : ∀ (f : Addr) (fd : FuncData), Fun K "law" "law" st f fd → ∀ base : Heap, K.In base → base.Ns mainGlobals mg → FnOk P w K mg base (CXJ P w) k f fd ["script"] (spW K 1 F)) :
    ∃ fd : FuncData, (∀ (s : Shared) (u : Value), BindsTo s fd ⟨[u], []⟩ [("script", u)]) ∧ ∀ base : Heap, K.In base → base.Ns mainGlobals mg → FnOk P w K mg base (CXJ P w) k fa fd ["script"] (spW K 1 F) := by
  obtain ⟨f, fd, a, Fu⟩ := D
  have e := hmg.symm.trans (PySem.W.mg_of KX NS a)
  cases e
  refine ⟨fd, fun s u => ?_, FN fa fd Fu⟩
  obtain ⟨oc, od, kV, doc, pm, an, cdv, ct, osl, rfl, lk, hcd⟩ := Fu.ex
  exact hp kV doc pm an cdv ct s u
theorem fn_def {P : Program} {w : World} {K : PySem.W.Frag} {mg : Str → Option Value} {base : Heap} {k : Nat} {c : Ct} {x : Str} {st : Stmt} {ps : List Str} {g : GS} {f : Addr} {fd : FuncData} (F : Fun K x x st f fd) (T : TopOk c k P w K mg base)
    (S : FnScope c.N ps (defScope st)) (hn : (defScope st).names = c.names) (hg : compS 30 c (defBody st) = g) (hs : c.self ∉ lamDefs := by exact (show ("" : Str) ∉ lamDefs by decide)) : FnOk P w K mg base (CXJ P w) (k + 1) f fd ps (spW K ps.length (fnF c.N.length g)) := by
  subst hg
  refine fn_ok F S fun cdv _ A outer s H E hr => ?_
  exact compS_ok (k := k) 30 c _ ⟨rfl, hn, S.nd, room_un hr, fun _ => ⟨hr, rfl⟩, fun _ => ⟨rfl, PassesOwn.leaving⟩, T.cst, T.bl, T.fns, fun _ => ⟨rfl, rfl, rfl⟩, fun _ _ => rfl, S.kind, T.tab, T.cls, T.cln, T.dcs, RoomU.of hr, T.fnu, ⟨T.x.lam, T.x.fnL, T.x.fnJ, fun _ z => absurd z hs⟩, ⟨_, _, _, rfl, rfl, rfl⟩, .inl hr.hd⟩ _
end J
namespace J
open PySem PySem.Spec PyProof.Rows L2
def AllP {α : Type} (P : α → Prop) : List α → Prop
  | [] => True
  | a :: l => P a ∧ AllP P l
theorem AllP.look {κ β : Type} [BEq κ] [LawfulBEq κ] {P : κ × β → Prop} : ∀ {l : List (κ × β)} {x : κ} {b : β}, AllP P l → l.lookup x = some b → P (x, b)
  | [], _, _, _, h => by cases h
  | (y, c) :: l, x, b, a, h => by
    rw [List.lookup_cons] at h
    cases e : x == y with
    | true =>
      rw [e] at h
      cases h
      have e' := eq_of_beq e
      subst e'
      exact a.1
    | false => rw [e] at h; exact AllP.look a.2 h
theorem AllP.mem {P : Str → Prop} : ∀ {l : List Str} {x : Str}, AllP P l → l.contains x = true → P x
  | [], _, _, h => by cases h
  | y :: l, x, a, h => by
    rw [List.contains_cons, Bool.or_eq_true] at h
    rcases h with e | h
    · have e' := eq_of_beq e
      subst e'
      exact a.1
    · exact AllP.mem a.2 h
theorem cls_one {K : PySem.W.Frag} {c : PySem.Str} {C D : Addr} (h : ClsAt K c C) (k : ClsAt K c D) : C = D := by
  unfold ClsAt at h k
  rw [h] at k
  cases k
  rfl
theorem tab_mk {K : PySem.W.Frag} {tb : Tab} {tt : TabT} {tc : Tab} (h : AllP (fun p => ∃ C D, ClsAt K p.1.1 C ∧ ClsAt K p.1.2 D ∧ ExcK K C ∧ PySem.W.kitOne K (.ref C) (.ref D) = some p.2) tb)
    (g : AllP (fun p => ∃ C, ClsAt K p.1.1 C ∧ ExcK K C ∧ PySem.W.kitOne K (.ref C) (.type p.1.2) = some p.2) tt)
    (f : AllP (fun p => ∃ C D, ClsAt K p.1.1 C ∧ ClsAt K p.1.2 D ∧ PySem.W.excIn K C bmV nwV = true ∧ PySem.W.excIn K D bmV nwV = true ∧ PySem.W.mroIn K C (.ref D) = some p.2) tc) : TabOk K tb tt tc :=
  ⟨fun c d b C D e hC hD => by
    obtain ⟨C', D', q1, q2, r⟩ := AllP.look h e
    cases cls_one hC q1
    cases cls_one hD q2
    exact r, fun c d b C D e hC hD => by
    obtain ⟨C', D', q1, q2, r⟩ := AllP.look f e
    cases cls_one hC q1
    cases cls_one hD q2
    exact r, fun c T b C e hC => by
    obtain ⟨C', q1, r⟩ := AllP.look g e
    cases cls_one hC q1
    exact r⟩
theorem topOk_mk {c : Ct} {k : Nat} {P : Program} {w : World} {K : PySem.W.Frag} {mg : Str → Option Value} {base : Heap} (hc : AllP (fun p => CstOk K mg p.1 p.2) c.consts) (hb : AllP (fun x => mg x = none) c.bl) (hf : AllP (fun p => Has P w K mg base k p.1 p.2.1 p.2.2) c.fns)
    (ht : TabOk K c.tb c.tt c.tc) (hk : AllP (fun x => ∃ C, mg x = some (.ref C) ∧ ExcC K x C) c.clss) (hn : AllP (fun x => ∃ C, mg x = some (.ref C) ∧ ClsAt K x C) c.cln) (hd : AllP (fun p => DcAt K w mg p.1 p.2) c.dcs)
    (hu : AllP (fun x => ∀ n F, c.fns.lookup x = some (n, F) → HasU P w K mg base k x n F) c.fnu := by exact trivial) (hx : TopX c k P w K mg base := by exact TopX.no rfl rfl rfl rfl) : TopOk c k P w K mg base :=
  ⟨fun _ _ h => hc.look h, fun _ h => hb.mem h, fun x n F h => hf.look (b := (n, F)) h, ht, fun _ h => hk.mem h, fun _ h => hn.mem h, fun x kvs h => hd.look (b := kvs) h, fun x n F h k => hu.mem h n F k, hx⟩
end J
namespace J
open PySem PySem.Spec PyProof.Rows L2
theorem HasL.mono {P : Program} {w : World} {K : PySem.W.Frag} {mg : Str → Option Value} {base : Heap} {j k : Nat} {p : Lm} {n : Nat} {L : LF} (h : HasL P w K mg base j p n L) (l : j ≤ k) : HasL P w K mg base k p n L := by
  obtain ⟨fd, ps, ob, G, r⟩ := h
  exact ⟨fd, ps, ob, G.mono l, r⟩
end J
namespace J
open PySem PySem.Spec PyProof.Rows L2
def Rs.sq (r : Rs) (h : GS) : Rs := match r with
  | .nx ρ st => h ρ st
  | r => r
section
variable {α β : Type} {ρ ρ' : Rho} {st : Hs} {h g ga' gb' : GS} {ga gb gc : GE} {gt gu : GT} {w : Wv} {c : PySem.Str} {f : α → Hs → Re β} {k : α → Hs → Rs} {a : α} {i : Nat}
@[simp] theorem sq_nx : (Rs.nx ρ st).sq h = h ρ st := rfl
@[simp] theorem sq_rt : (Rs.rt w st).sq h = .rt w st := rfl
@[simp] theorem sq_bk : (Rs.bk ρ st).sq h = .bk ρ st := rfl
@[simp] theorem sq_ct : (Rs.ct ρ st).sq h = .ct ρ st := rfl
@[simp] theorem sq_err : (Rs.err c ρ st).sq h = .err c ρ st := rfl
@[simp] theorem sq_bad : Rs.bad.sq h = .bad := rfl
@[simp] theorem bind_ok : (Re.ok a st).bind f = f a st := rfl
@[simp] theorem bind_err : (Re.err c st).bind f = .err c st := rfl
@[simp] theorem bind_bad : (Re.bad : Re α).bind f = .bad := rfl
@[simp] theorem thn_ok : (Re.ok a st).thn ρ k = k a st := rfl
@[simp] theorem thn_err : (Re.err c st : Re α).thn ρ k = .err c ρ st := rfl
@[simp] theorem nox_ok : (Re.ok a st).nox = .ok a st := rfl
@[simp] theorem nox_bad : (Re.bad : Re α).nox = .bad := rfl
@[simp] theorem thn_bad : (Re.bad : Re α).thn ρ k = .bad := rfl
@[simp] theorem e_seq : gSeq g h ρ st = (g ρ st).sq h := by unfold gSeq Rs.sq; cases g ρ st <;> rfl
@[simp] theorem e_next : gNext ρ st = .nx ρ st := rfl
@[simp] theorem e_ret : gRet ga ρ st = (ga ρ st).thn ρ fun w st' => .rt w st' := rfl
@[simp] theorem e_expr : gExpr ga ρ st = (ga ρ st).thn ρ fun _ st' => .nx ρ st' := rfl
@[simp] theorem e_set : gSet i ga ρ st = (ga ρ st).thn ρ fun w st' => .nx (ρ.set i (some w)) st' := rfl
def kIf (ga gb : GS) (ρ : Rho) : Bool → Hs → Rs := fun b st' => if b = true then ga ρ st' else gb ρ st'
@[simp] theorem kIf_t : kIf g h ρ true st = g ρ st := rfl
@[simp] theorem kIf_f : kIf g h ρ false st = h ρ st := rfl
@[simp] theorem e_if : gIf gt g h ρ st = (gt ρ st).thn ρ (kIf g h ρ) := rfl
def rdV (o : Option (Option Wv)) (st : Hs) : Re Wv := match o with
  | some (some w) => .ok w st
  | _ => .bad
@[simp] theorem rdV_s : rdV (some (some w)) st = .ok w st := rfl
@[simp] theorem e_var : gVar i ρ st = rdV ρ[i]? st := rfl
@[simp] theorem e_c : gC w ρ st = .ok w st := rfl
def kB (op : Op2) (gb : GE) (ρ : Rho) : Wv → Hs → Re Wv := fun x st1 => (gb ρ st1).bind fun y st2 => (op x y st2).nox
@[simp] theorem kB_d {op : Op2} {x : Wv} : kB op gb ρ x st = (gb ρ st).bind fun y st2 => (op x y st2).nox := rfl
@[simp] theorem e_bin {op : Op2} : gBin op ga gb ρ st = (ga ρ st).bind (kB op gb ρ) := rfl
@[simp] theorem e_tst : gTst ga ρ st = (ga ρ st).bind tst := rfl
@[simp] theorem tst_b {b : Bool} : tst (.bl b) st = .ok b st := rfl
@[simp] theorem e_tru : gTru ga ρ st = (ga ρ st).bind truW := rfl
@[simp] theorem truW_b {b : Bool} : truW (.bl b) st = .ok b st := rfl
@[simp] theorem e_not : gNot gt ρ st = (gt ρ st).bind fun b st1 => .ok (!b) st1 := rfl
def kAnd (gb : GT) (ρ : Rho) : Bool → Hs → Re Bool := fun b st1 => if b = true then gb ρ st1 else .ok false st1
@[simp] theorem kAnd_t : kAnd gu ρ true st = gu ρ st := rfl
@[simp] theorem kAnd_f : kAnd gu ρ false st = .ok false st := rfl
def kOr (gb : GT) (ρ : Rho) : Bool → Hs → Re Bool := fun b st1 => if b = true then .ok true st1 else gb ρ st1
@[simp] theorem kOr_t : kOr gu ρ true st = .ok true st := rfl
@[simp] theorem kOr_f : kOr gu ρ false st = gu ρ st := rfl
@[simp] theorem e_or : gOr gt gu ρ st = (gt ρ st).bind (kOr gu ρ) := rfl
def kAndV (gb : GE) (ρ : Rho) : Wv → Hs → Re Wv := fun w st1 => match w with
  | .bl true => gb ρ st1
  | .bl false => .ok (.bl false) st1
  | _ => .bad
@[simp] theorem kAndV_t : kAndV gb ρ (.bl true) st = gb ρ st := rfl
@[simp] theorem kAndV_f : kAndV gb ρ (.bl false) st = .ok (.bl false) st := rfl
@[simp] theorem e_andV : gAndV ga gb ρ st = (ga ρ st).bind (kAndV gb ρ) := rfl
def kNotV : Wv → Hs → Re Wv := fun w st1 => match w with
  | .bl b => .ok (.bl (!b)) st1
  | _ => .bad
@[simp] theorem kNotV_b {b : Bool} : kNotV (.bl b) st = .ok (.bl (!b)) st := rfl
def kIfE (ga gb : GE) (ρ : Rho) : Bool → Hs → Re Wv := fun b st1 => if b = true then ga ρ st1 else gb ρ st1
@[simp] theorem kIfE_t : kIfE ga gb ρ true st = ga ρ st := rfl
@[simp] theorem kIfE_f : kIfE ga gb ρ false st = gb ρ st := rfl
@[simp] theorem e_ifE : gIfE gt ga gb ρ st = (gt ρ st).bind (kIfE ga gb ρ) := rfl
@[simp] theorem e_nil : gNil ρ st = .ok [] st := rfl
def kCons (gr : GA) (ρ : Rho) : Wv → Hs → Re (List Wv) := fun x st1 => (gr ρ st1).bind fun xs st2 => .ok (x :: xs) st2
@[simp] theorem kCons_d {gr : GA} {x : Wv} : kCons gr ρ x st = (gr ρ st).bind fun xs st2 => .ok (x :: xs) st2 := rfl
@[simp] theorem e_cons {gr : GA} : gCons ga gr ρ st = (ga ρ st).bind (kCons gr ρ) := rfl
def kTup : List Wv → Hs → Re Wv := fun ws st1 => if ws.length ≤ lim then .ok (.tup ws) st1 else .bad
theorem kTup_d {ws : List Wv} (hl : ws.length ≤ lim) : kTup ws st = .ok (.tup ws) st := if_pos hl
@[simp] theorem e_tup {gr : GA} : gTup gr ρ st = (gr ρ st).bind kTup := rfl
def kLst : List Wv → Hs → Re Wv := fun ws st1 => if ws.length ≤ lim then .ok (.ref st1.length) (st1 ++ [.lst ws]) else .bad
theorem kLst_d {ws : List Wv} (hl : ws.length ≤ lim) : kLst ws st = .ok (.ref st.length) (st ++ [.lst ws]) := if_pos hl
@[simp] theorem e_lst {gr : GA} : gLst gr ρ st = (gr ρ st).bind kLst := rfl
section
variable {x x0 x1 x2 x3 x4 x5 x6 x7 : Wv}
@[simp] theorem kTup_2 : kTup [x0, x1] st = .ok (.tup [x0, x1]) st := kTup_d (by simp [lim])
@[simp] theorem kLst_0 : kLst [] st = .ok (.ref st.length) (st ++ [.lst []]) := kLst_d (by simp [lim])
@[simp] theorem kLst_1 : kLst [x0] st = .ok (.ref st.length) (st ++ [.lst [x0]]) := kLst_d (by simp [lim])
@[simp] theorem kLst_2 : kLst [x0, x1] st = .ok (.ref st.length) (st ++ [.lst [x0, x1]]) := kLst_d (by simp [lim])
@[simp] theorem kLst_4 : kLst [x0, x1, x2, x3] st = .ok (.ref st.length) (st ++ [.lst [x0, x1, x2, x3]]) := kLst_d (by simp [lim])
@[simp] theorem kLst_5 : kLst [x0, x1, x2, x3, x4] st = .ok (.ref st.length) (st ++ [.lst [x0, x1, x2, x3, x4]]) := kLst_d (by simp [lim])
@[simp] theorem kLst_6 : kLst [x0, x1, x2, x3, x4, x5] st = .ok (.ref st.length) (st ++ [.lst [x0, x1, x2, x3, x4, x5]]) := kLst_d (by simp [lim])
end
def kCall (n : Nat) (F : List Wv → Hs → Re Wv) : List Wv → Hs → Re Wv := fun ws st1 => if ws.length = n then F ws st1 else .bad
section
variable {F : List Wv → Hs → Re Wv} {x0 x1 x2 x3 : Wv} {gr : GA}
@[simp] theorem kCall_1 : kCall 1 F [x0] st = F [x0] st := rfl
@[simp] theorem kCall_2 : kCall 2 F [x0, x1] st = F [x0, x1] st := rfl
@[simp] theorem kCall_3 : kCall 3 F [x0, x1, x2] st = F [x0, x1, x2] st := rfl
@[simp] theorem kCall_4 : kCall 4 F [x0, x1, x2, x3] st = F [x0, x1, x2, x3] st := rfl
@[simp] theorem e_call {n : Nat} : gCall n F gr ρ st = (gr ρ st).bind (kCall n F) := rfl
@[simp] theorem e_callB {op : List Wv → Hs → Re Wv} : gCallB op gr ρ st = (gr ρ st).bind fun ws st1 => (op ws st1).nox := rfl
end
@[simp] theorem e_un {op : Wv → Hs → Re Wv} : gUn op ga ρ st = (ga ρ st).bind op := rfl
@[simp] theorem neg_i {i : Int} : opNeg (.int i) st = .ok (.int (-i)) st := rfl
@[simp] theorem add_i {i j : Int} : oAdd (.int i) (.int j) st = .ok (.int (i + j)) st := rfl
@[simp] theorem sub_i {i j : Int} : oSub (.int i) (.int j) st = .ok (.int (i - j)) st := rfl
@[simp] theorem lt_i {i j : Int} : oLt (.int i) (.int j) st = .ok (.bl (decide (i < j))) st := rfl
@[simp] theorem le_i {i j : Int} : oLe (.int i) (.int j) st = .ok (.bl (decide (i ≤ j))) st := rfl
@[simp] theorem gt_i {i j : Int} : oGt (.int i) (.int j) st = .ok (.bl (decide (j < i))) st := rfl
@[simp] theorem ge_i {i j : Int} : oGe (.int i) (.int j) st = .ok (.bl (decide (j ≤ i))) st := rfl
@[simp] theorem eq_i {i j : Int} : oEq (.int i) (.int j) st = .ok (.bl (i == j)) st := rfl
@[simp] theorem ne_i {i j : Int} : oNe (.int i) (.int j) st = .ok (.bl (!(i == j))) st := rfl
@[simp] theorem eq_s {i j : PySem.Str} : oEq (.str i) (.str j) st = .ok (.bl (i == j)) st := rfl
@[simp] theorem ne_s {i j : PySem.Str} : oNe (.str i) (.str j) st = .ok (.bl (!(i == j))) st := rfl
@[simp] theorem eq_b {i j : Bool} : oEq (.bl i) (.bl j) st = .ok (.bl (i == j)) st := by cases i <;> cases j <;> rfl
@[simp] theorem ne_b {i j : Bool} : oNe (.bl i) (.bl j) st = .ok (.bl (!(i == j))) st := by cases i <;> cases j <;> rfl
theorem fdiv_i {i j : Int} (h : j ≠ 0 ∧ j.natAbs.log2 < 9000) : oFdiv (.int i) (.int j) st = .ok (.int (i.fdiv j)) st := by show (if _ then _ else _) = _; rw [if_pos h]
theorem mod_i {i j : Int} (h : j ≠ 0) : oMod (.int i) (.int j) st = .ok (.int (i.fmod j)) st := by show (if _ then _ else _) = _; rw [if_pos h]
theorem mul_i {i j : Int} (h : IntMulOk i j) : oMulL (.int i) (.int j) st = .ok (.int (i * j)) st := by show (if _ then _ else _) = _; rw [if_pos h]
theorem pow_i {i j : Int} (h : 0 ≤ j ∧ j ≤ 1000000 ∧ i.natAbs < 2 ^ 64) : oPow (.int i) (.int j) st = .ok (.int (i ^ j.toNat)) st := by show (if _ then _ else _) = _; rw [if_pos h]
theorem ix_l {l : Nat} {i : Int} {ws : List Wv} {v : Wv} (h : lstOf st l = some ws) (h2 : atI ws i = some v) : oIx (.ref l) (.int i) st = .ok v st := by
  show (match lstOf st l with | some ws => (match atI ws i with | some w => Re.ok w st | none => .bad) | none => .bad) = _
  rw [h]
  dsimp only
  rw [h2]
theorem add_l {l k : Nat} {xs ys : List Wv} (h1 : lstOf st l = some xs) (h2 : lstOf st k = some ys) (hl : xs.length + ys.length ≤ lim) : oAdd (.ref l) (.ref k) st = .ok (.ref st.length) (st ++ [.lst (xs ++ ys)]) := by
  show (match lstOf st l, lstOf st k with | some i, some j => if i.length + j.length ≤ lim then Re.ok (Wv.ref st.length) (st ++ [Ob.lst (i ++ j)]) else .bad | _, _ => .bad) = _
  rw [h1, h2]
  exact if_pos hl
end
theorem fn_rt {n : Nat} {g : GS} {ws : List Wv} {st st' : Hs} {w : Wv} (h : g (ws.map some ++ List.replicate (n - ws.length) none) st = .rt w st') : fnF n g ws st = .ok w st' := by unfold fnF; rw [h]
section
variable {ρ : Rho} {st : Hs} {ga gb gc : GE} {gl gh : GO}
def kSl (gl gh : GO) (ρ : Rho) : Wv → Hs → Re Wv := fun x st1 => (gl ρ st1).bind fun lo st2 => (gh ρ st2).bind fun hi st3 => oSl2 x lo hi st3
@[simp] theorem e_slice : gSlice2 ga gl gh ρ st = (ga ρ st).bind (kSl gl gh ρ) := rfl
@[simp] theorem kSl_d {x : Wv} : kSl gl gh ρ x st = (gl ρ st).bind fun lo st2 => (gh ρ st2).bind fun hi st3 => oSl2 x lo hi st3 := rfl
@[simp] theorem e_nopart : gNoPart ρ st = .ok none st := rfl
def kPart : Wv → Hs → Re (Option Int) := fun w st1 => match w with
  | .int i => .ok (some i) st1
  | _ => .bad
@[simp] theorem e_part : gPart ga ρ st = (ga ρ st).bind kPart := rfl
@[simp] theorem kPart_i {i : Int} : kPart (.int i) st = .ok (some i) st := rfl
theorem len_l {l : Nat} {ws : List Wv} (h : lstOf st l = some ws) : oLen [.ref l] st = .ok (.int ws.length) st := by
  show (match lstOf st l with | some ws => Re.ok (Wv.int ws.length) st | none => .bad) = _
  rw [h]
def kCh2 (op' : Op2) (gc : GE) (y : Wv) (ρ : Rho) : Wv → Hs → Re Wv := fun z st3 => match z with
  | .bl true => (gc ρ st3).bind fun u st4 => (op' y u st4).nox
  | .bl false => .ok (.bl false) st3
  | _ => .bad
def kCh3 (op' op'' : Op2) (gc gd : GE) (y : Wv) (ρ : Rho) : Wv → Hs → Re Wv := fun z st3 => match z with
  | .bl true => (gc ρ st3).bind fun u st4 => (op' y u st4).nox.bind (kCh2 op'' gd u ρ)
  | .bl false => .ok (.bl false) st3
  | _ => .bad
@[simp] theorem kCh3_f {op' op'' : Op2} {gd : GE} {y : Wv} : kCh3 op' op'' gc gd y ρ (.bl false) st = .ok (.bl false) st := rfl
def kTryN (cat : PySem.Str → Option Bool) (gs : GS) (r : Rs) : Rs := match r with
  | .err c ρ' st' => (match cat c with
    | some true => (match gs ρ' st' with
      | .nx ρ2 st2 => .nx ρ2 st2
      | .rt w st2 => .rt w st2
      | _ => .bad)
    | _ => .bad)
  | r => r
@[simp] theorem kTryN_nx {cat : PySem.Str → Option Bool} {gs : GS} : kTryN cat gs (.nx ρ st) = .nx ρ st := rfl
@[simp] theorem kTryN_rt {cat : PySem.Str → Option Bool} {gs : GS} {w : Wv} : kTryN cat gs (.rt w st) = .rt w st := rfl
end
theorem lstOf_new {st : Hs} {ws : List Wv} : lstOf (st ++ [.lst ws]) st.length = some ws := by unfold lstOf; simp
theorem lstOf_lt {st : Hs} {l : Nat} {ws : List Wv} (h : lstOf st l = some ws) : l < st.length := by
  unfold lstOf at h
  cases e : st[l]? with
  | none => rw [e] at h; cases h
  | some o => exact (List.getElem?_eq_some_iff.mp e).1
def Keep (l : Nat) (st st' : Hs) : Prop := st.length ≤ st'.length ∧ ∀ k, k < st.length → k ≠ l → st'[k]? = st[k]?
theorem Keep.refl {l : Nat} {st : Hs} : Keep l st st := ⟨Nat.le_refl _, fun _ _ _ => rfl⟩
theorem Keep.trans {l : Nat} {a b c : Hs} (h : Keep l a b) (k : Keep l b c) : Keep l a c := ⟨Nat.le_trans h.1 k.1, fun j h1 h2 => (k.2 j (Nat.lt_of_lt_of_le h1 h.1) h2).trans (h.2 j h1 h2)⟩
theorem Keep.push {l : Nat} {st : Hs} {o : Ob} : Keep l st (st ++ [o]) := ⟨by simp, fun k h _ => List.getElem?_append_left h⟩
theorem Keep.set {l : Nat} {st : Hs} {o : Ob} : Keep l st (st.set l o) := ⟨by simp, fun k _ h => List.getElem?_set_ne (fun z => h z.symm)⟩
theorem Keep.lst {l : Nat} {st st' : Hs} (k : Keep l st st') {j : Nat} {ws : List Wv} (h : lstOf st j = some ws) (hj : j ≠ l) : lstOf st' j = some ws := by
  unfold lstOf at h ⊢
  rw [k.2 j (lstOf_lt (st := st) (ws := ws) (by unfold lstOf; exact h)) hj]
  exact h
def kMeth (mt : Wv → Wv → Hs → Re Wv) (ga : GE) (ρ : Rho) : Wv → Hs → Re Wv := fun o st1 => match o with
  | .ref l => (match lstOf st1 l with
    | some _ => (ga ρ st1).bind fun v st2 => (mt o v st2).nox
    | none => .bad)
  | _ => .bad
@[simp] theorem e_meth {mt : Wv → Wv → Hs → Re Wv} {go ga : GE} {ρ : Rho} {st : Hs} : gMeth mt go ga ρ st = (go ρ st).bind (kMeth mt ga ρ) := rfl
theorem kMeth_l {mt : Wv → Wv → Hs → Re Wv} {ga : GE} {ρ : Rho} {st : Hs} {l : Nat} {ws : List Wv} (h : lstOf st l = some ws) : kMeth mt ga ρ (.ref l) st = (ga ρ st).bind fun v st2 => (mt (.ref l) v st2).nox := by
  show (match lstOf st l with | some _ => (ga ρ st).bind fun v st2 => (mt (.ref l) v st2).nox | none => .bad) = _
  rw [h]
theorem app_l {st : Hs} {l : Nat} {v : Wv} {ws : List Wv} (h : st[l]? = some (.lst ws)) (hl : ws.length < lim) : mApp (.ref l) v st = .ok .non (st.set l (.lst (ws ++ [v]))) := by
  show (match st[l]? with | some (.lst ws) => if ws.length < lim then Re.ok Wv.non (st.set l (.lst (ws ++ [v]))) else .bad | _ => .bad) = _
  rw [h]
  exact if_pos hl
noncomputable def kFor (i : Nat) (gb : GS) (ρ : Rho) : Wv → Hs → Rs := fun w st1 => match w with
  | .ref l => (match lstOf st1 l with | some ws => forL i gb l ws ws ρ st1 | none => .bad)
  | .tup ws => forT i gb ws ρ st1
  | .ktp ws => forT i gb ws ρ st1
  | _ => .bad
@[simp] theorem e_for {i : Nat} {ga : GE} {gb : GS} {ρ : Rho} {st : Hs} : gFor i ga gb ρ st = (ga ρ st).thn ρ (kFor i gb ρ) := rfl
theorem kFor_l {i : Nat} {gb : GS} {ρ : Rho} {st : Hs} {l : Nat} {ws : List Wv} (h : lstOf st l = some ws) : kFor i gb ρ (.ref l) st = forL i gb l ws ws ρ st := by
  show (match lstOf st l with | some ws => forL i gb l ws ws ρ st | none => .bad) = _
  rw [h]
@[simp] theorem kFor_t {i : Nat} {gb : GS} {ρ : Rho} {st : Hs} {ws : List Wv} : kFor i gb ρ (.tup ws) st = forT i gb ws ρ st := rfl
@[simp] theorem str2_i {i : Int} {st : Hs} : oStr2 [.int i] st = oStr [.int i] st := rfl
@[simp] theorem e_comp {cs : Caps} {gi : GI} {gt : GT} {ge : GE} {ρ : Rho} {st : Hs} : gComp cs gi gt ge ρ st = (gi ρ st).bind (compRun cs gt ge ρ) := rfl
@[simp] theorem e_giSeq {g : GE} {ρ : Rho} {st : Hs} : giSeq2 g ρ st = (g ρ st).bind seqW2 := rfl
@[simp] theorem e_giR1 {g : GA} {ρ : Rho} {st : Hs} : giR1 g ρ st = (g ρ st).bind rng1W := rfl
@[simp] theorem e_giR2 {g : GA} {ρ : Rho} {st : Hs} : giR2 g ρ st = (g ρ st).bind rng2W := rfl
theorem seqW_l {l : Nat} {st : Hs} {ws : List Wv} (h : lstOf st l = some ws) : seqW2 (.ref l) st = .ok (some l, ws) st := by
  show (match lstOf st l with | some ws => Re.ok (some l, ws) st | none => .bad) = _
  rw [h]
@[simp] theorem seqW_s {st : Hs} {z : PySem.Str} : seqW2 (.str z) st = .ok (none, signsW z) st := rfl
@[simp] theorem seqW_t {st : Hs} {ws : List Wv} : seqW2 (.tup ws) st = .ok (none, ws) st := rfl
theorem app_new {st : Hs} {acc : List Wv} {v : Wv} (h : acc.length < lim) : mApp (.ref st.length) v (st ++ [.lst acc]) = .ok .non (st ++ [.lst (acc ++ [v])]) := by
  rw [app_l (ws := acc) (by simp) h]
  congr 1
  simp
theorem compG_pure {w : Wk} {gt : Wv → Hs → Re Bool} {ge : Wv → Hs → Re Wv} {st : Hs} {t : Wv → Bool} {f : Wv → Wv} (ck : ckOf w st) : ∀ (ws acc : List Wv), (∀ v ∈ ws, ∀ acc, gt v (st ++ [.lst acc]) = .ok (t v) (st ++ [.lst acc])) →
    (∀ v ∈ ws, t v = true → ∀ acc, ge v (st ++ [.lst acc]) = .ok (f v) (st ++ [.lst acc])) → acc.length + ws.length < lim → compG (ckOf w) gt ge st.length ws (st ++ [.lst acc]) = some (st ++ [.lst (acc ++ (ws.filter t).map f)])
  | [], acc, _, _, _ => by simp [compG]
  | v :: r, acc, h1, h2, hl => by
    have hl' : acc.length + (r.length + 1) < lim := hl
    unfold compG
    rw [h1 v List.mem_cons_self acc]
    cases e : t v with
    | false =>
      dsimp only
      rw [if_pos (ckOf_app ck), compG_pure ck r acc (fun v hv => h1 v (List.mem_cons_of_mem _ hv)) (fun v hv => h2 v (List.mem_cons_of_mem _ hv)) (by omega), List.filter_cons_of_neg (by simp [e])]
    | true =>
      dsimp only
      rw [h2 v List.mem_cons_self e acc]
      dsimp only
      rw [app_new (by omega)]
      dsimp only
      rw [if_pos (ckOf_app ck), compG_pure ck r (acc ++ [f v]) (fun v hv => h1 v (List.mem_cons_of_mem _ hv)) (fun v hv => h2 v (List.mem_cons_of_mem _ hv)) (by simp; omega), List.filter_cons_of_pos e]
      simp
theorem comp_pure {cs : Caps} {gt : GT} {ge : GE} {ρ : Rho} {w : Wk} {st : Hs} {t : Wv → Bool} {f : Wv → Wv} (ck : ckOf w st) (h1 : ∀ v ∈ w.2, ∀ acc, gt (some v :: capR cs ρ) (st ++ [.lst acc]) = .ok (t v) (st ++ [.lst acc]))
    (h2 : ∀ v ∈ w.2, t v = true → ∀ acc, ge (some v :: capR cs ρ) (st ++ [.lst acc]) = .ok (f v) (st ++ [.lst acc])) (hl : w.2.length < lim) : compRun cs gt ge ρ w st = .ok (.ref st.length) (st ++ [.lst ((w.2.filter t).map f)]) := by
  unfold compRun
  rw [compG_pure ck w.2 [] h1 h2 (by simpa using hl)]
  simp
end J
namespace J
open PySem PySem.Spec PyProof.Rows L2
theorem atI_some {α : Type} {ws : List α} {d : Int} (h0 : 0 ≤ d) (h1 : d < ws.length) : ∃ v, L2.atI ws d = some v ∧ v ∈ ws := by
  have hk : d.toNat < ws.length := by omega
  have ek : d = ((d.toNat : Nat) : Int) := by omega
  refine ⟨ws[d.toNat], ?_, List.getElem_mem hk⟩
  have q := L2.atI_nat (List.getElem?_eq_getElem hk)
  rw [← ek] at q
  exact q
theorem set_get {st : Hs} {l : Nat} {o o' : Ob} (h : st[l]? = some o) : (st.set l o')[l]? = some o' := List.getElem?_set_self (List.getElem?_eq_some_iff.mp h).1
theorem push_get {st : Hs} {l : Nat} {o o' : Ob} (h : st[l]? = some o) : (st ++ [o'])[l]? = some o := by rw [List.getElem?_append_left (List.getElem?_eq_some_iff.mp h).1]; exact h
theorem lst_get {st : Hs} {l : Nat} {ws : List Wv} (h : st[l]? = some (.lst ws)) : lstOf st l = some ws := by unfold lstOf; rw [h]
theorem get_lt {st : Hs} {l : Nat} {o : Ob} (h : st[l]? = some o) : l < st.length := (List.getElem?_eq_some_iff.mp h).1
theorem new_get {st : Hs} {o : Ob} : (st ++ [o])[st.length]? = some o := by simp
@[simp] theorem abs_i {i : Int} {st : Hs} : oAbs [.int i] st = .ok (.int (if i < 0 then -i else i)) st := rfl
@[simp] theorem sum_l {l : Nat} {st : Hs} {ns : List Int} (h : lstOf st l = some (ns.map Wv.int)) : oSum [.ref l] st = .ok (.int ns.sum) st := by
  show (match lstOf st l with | some ws => (match intsOf ws with | some ns => Re.ok (Wv.int ns.sum) st | none => .bad) | none => .bad) = _
  rw [h]
  dsimp only
  rw [intsOf_map]
@[simp] theorem kCall_0 {F : List Wv → Hs → Re Wv} {st : Hs} : kCall 0 F [] st = F [] st := rfl
def Gr (st st' : Hs) : Prop := st.length ≤ st'.length ∧ ∀ k, k < st.length → st'[k]? = st[k]?
theorem Gr.refl {st : Hs} : Gr st st := ⟨Nat.le_refl _, fun _ _ => rfl⟩
theorem Gr.trans {a b c : Hs} (h : Gr a b) (k : Gr b c) : Gr a c := ⟨Nat.le_trans h.1 k.1, fun j h1 => (k.2 j (Nat.lt_of_lt_of_le h1 h.1)).trans (h.2 j h1)⟩
theorem Gr.push {st : Hs} {o : Ob} : Gr st (st ++ [o]) := ⟨by simp, fun k h => List.getElem?_append_left h⟩
theorem Gr.lst {st st' : Hs} (k : Gr st st') {j : Nat} {ws : List Wv} (h : lstOf st j = some ws) : lstOf st' j = some ws := by
  unfold lstOf at h ⊢
  rw [k.2 j (lstOf_lt (st := st) (ws := ws) (by unfold lstOf; exact h))]
  exact h
theorem Gr.get {st st' : Hs} (k : Gr st st') {j : Nat} {o : Ob} (h : st[j]? = some o) : st'[j]? = some o := by rw [k.2 j (get_lt h)]; exact h
theorem Gr.keep {st st' : Hs} {l : Nat} (k : Gr st st') : Keep l st st' := ⟨k.1, fun j h _ => k.2 j h⟩
theorem Keep.gr {st st' : Hs} {l : Nat} (h : st.length ≤ l) (k : Keep l st st') : Gr st st' := ⟨k.1, fun j h1 => k.2 j h1 (by omega)⟩
theorem Gr.keepAt {st s1 s2 : Hs} {l : Nat} (h : st.length ≤ l) (g : Gr st s1) (k : Keep l s1 s2) : Gr st s2 := ⟨Nat.le_trans g.1 k.1, fun j h1 => (k.2 j (Nat.lt_of_lt_of_le h1 g.1) (by omega)).trans (g.2 j h1)⟩
theorem forL_map {α : Type} (f : α → Wv) {i : Nat} {gb : GS} {l : Nat} {all : List Wv} (full : List α) (P : List α → Rho → Hs → Prop)
    (step : ∀ a pre post ρ st, full = pre ++ a :: post → P pre ρ st → lstOf st l = some all → ∃ ρ' st', gb (ρ.set i (some (f a))) st = .nx ρ' st' ∧ lstOf st' l = some all ∧ P (pre ++ [a]) ρ' st') :
    ∀ (post pre : List α) (ρ : Rho) (st : Hs), full = pre ++ post → P pre ρ st → lstOf st l = some all → ∃ ρ' st', forL i gb l all (post.map f) ρ st = .nx ρ' st' ∧ P full ρ' st' ∧ lstOf st' l = some all
  | [], pre, ρ, st, hf, h, hl => ⟨ρ, st, rfl, by rw [hf]; simpa using h, hl⟩
  | a :: r, pre, ρ, st, hf, h, hl => by
    obtain ⟨ρ1, st1, e1, l1, p1⟩ := step a pre r ρ st hf h hl
    obtain ⟨ρ2, st2, e2, p2, l2⟩ := forL_map f full P step r (pre ++ [a]) ρ1 st1 (by rw [hf]; simp) p1 l1
    refine ⟨ρ2, st2, ?_, p2, l2⟩
    rw [List.map_cons]
    unfold forL
    rw [e1]
    simp only [if_pos l1]
    exact e2
theorem eqv_i {i : Int} : PyData.eqv (.int i) (.int i) = true := by simp [PyData.eqv]
theorem eqv_s {x : PySem.Str} : PyData.eqv (.str x) (.str x) = true := by simp [PyData.eqv]
theorem eqv_ss {x y : PySem.Str} : PyData.eqv (.tuple [.str x, .str y]) (.tuple [.str x, .str y]) = true := by simp [PyData.eqv, PyData.eqvAll]
theorem ne_dat {st : Hs} {x y : Wv} {d : PyData} (h1 : datum st 20 x = some d) (h2 : datum st 20 y = some d) (h : PyData.eqv d d = true) : oNe x y st = .ok (.bl false) st := by
  unfold oNe
  rw [h1, h2]
  show Re.ok (Wv.bl (!PyData.eqv d d)) st = _
  rw [h]
  rfl
theorem eq_dat {st : Hs} {x y : Wv} {d : PyData} (h1 : datum st 20 x = some d) (h2 : datum st 20 y = some d) (h : PyData.eqv d d = true) : oEq x y st = .ok (.bl true) st := by
  unfold oEq
  rw [h1, h2]
  show Re.ok (Wv.bl (PyData.eqv d d)) st = _
  rw [h]
theorem dat_l {st : Hs} {n l : Nat} {ws : List Wv} (h : lstOf st l = some ws) : datum st (n + 1) (.ref l) = (mapO (datum st n) ws).map PyData.list := by
  show (match lstOf st l with | some ws => (mapO (datum st n) ws).map PyData.list | none => none) = _
  rw [h]
theorem srt_l {l : Nat} {st : Hs} {ns : List Int} (h : lstOf st l = some (ns.map Wv.int)) (hn : ns.length < 4096) : oSrt [.ref l] st = .ok (.ref st.length) (st ++ [.lst ((srtI ns).map Wv.int)]) := by
  unfold oSrt
  simp only [h, intsOf_map]
  rw [if_pos hn]
theorem max_l {l : Nat} {st : Hs} {n : Int} {ns : List Int} (h : lstOf st l = some ((n :: ns).map Wv.int)) : oMax2 [.ref l] st = .ok (.int (mxI n ns)) st := by
  unfold oMax2
  simp only [h, intsOf_map]
theorem min_l {l : Nat} {st : Hs} {n : Int} {ns : List Int} (h : lstOf st l = some ((n :: ns).map Wv.int)) : oMin2 [.ref l] st = .ok (.int (mnI n ns)) st := by
  unfold oMin2
  simp only [h, intsOf_map]
@[simp] theorem max_2 {i j : Int} {st : Hs} : oMax2 [.int i, .int j] st = .ok (.int (if j > i then j else i)) st := rfl
@[simp] theorem min_2 {i j : Int} {st : Hs} : oMin2 [.int i, .int j] st = .ok (.int (if j < i then j else i)) st := rfl
theorem sum_perm {a b : List Int} (h : a.Perm b) : a.sum = b.sum := by
  induction h with
  | nil => rfl
  | cons x _ ih => simp [ih]
  | swap x y l => simp only [List.sum_cons]; omega
  | trans _ _ h1 h2 => exact h1.trans h2
theorem srt_head {n : Int} {r : List Int} {a : Int} {t : List Int} (h : srtI (n :: r) = a :: t) : a = mnI n r := by
  have hp := srtI_perm (n :: r)
  have hs := srtI_srt (n :: r)
  rw [h] at hp hs
  rw [List.pairwise_cons] at hs
  refine mn_eq (hp.mem_iff.mp List.mem_cons_self) fun b hb => ?_
  rcases List.mem_cons.mp (hp.mem_iff.mpr hb) with z | z
  · omega
  · exact hs.1 b z
theorem srt_last {n : Int} {r : List Int} {a : Int} {t : List Int} (h : srtI (n :: r) = t ++ [a]) : a = mxI n r := by
  have hp := srtI_perm (n :: r)
  have hs := srtI_srt (n :: r)
  rw [h] at hp hs
  rw [List.pairwise_append] at hs
  refine mx_eq (hp.mem_iff.mp (by simp)) fun b hb => ?_
  rcases List.mem_append.mp (hp.mem_iff.mpr hb) with z | z
  · exact hs.2.2 b z a (by simp)
  · simp at z; omega
theorem atI_0 {α : Type} {a : α} {r : List α} : L2.atI (a :: r) 0 = some a := L2.atI_nat (j := 0) rfl
theorem atI_last {α : Type} {t : List α} {a : α} : L2.atI (t ++ [a]) (-1) = some a := by
  unfold L2.atI L2.ixN
  simp
  rw [if_pos (by omega)]
  have e : (-1 + ((t.length : Int) + 1)).toNat = t.length := by omega
  simp [e]
end J
namespace J
open PySem L2
theorem tb_none {K : PySem.W.Frag} {H : Hp} (h1 : PySem.W.nsIn K mainGlobals "form_of" = some none) (h2 : PySem.W.nsIn K mainGlobals "formula_by" = some none) (h3 : PySem.W.nsIn K mainGlobals "turned" = some none) : TbOk K H := fun q P hq e => by
  have no : ∀ q, PySem.W.nsIn K mainGlobals q = some none → tabFree K q = none := fun q h => by
    unfold tabFree PySem.W.tabIn
    rw [h]
  simp only [lamDefs, List.mem_cons, List.not_mem_nil, or_false] at hq
  rcases hq with rfl | rfl | rfl
  · rw [no _ h1] at e; cases e
  · rw [no _ h2] at e; cases e
  · rw [no _ h3] at e; cases e
theorem ln1 {fd : FuncData} {ps : List Str} (us : List Value) (hl : us.length = 1) (h : ∀ a0 : Value, bindArgs fd { pos := [a0] } = pure (ps.zip [a0])) : bindArgs fd { pos := us } = pure (ps.zip us) := match us, hl with | [a0], _ => h a0
theorem ln2 {fd : FuncData} {ps : List Str} (us : List Value) (hl : us.length = 2) (h : ∀ a0 a1 : Value, bindArgs fd { pos := [a0, a1] } = pure (ps.zip [a0, a1])) : bindArgs fd { pos := us } = pure (ps.zip us) := match us, hl with | [a0, a1], _ => h a0 a1
theorem ln4 {fd : FuncData} {ps : List Str} (us : List Value) (hl : us.length = 4) (h : ∀ a0 a1 a2 a3 : Value, bindArgs fd { pos := [a0, a1, a2, a3] } = pure (ps.zip [a0, a1, a2, a3])) : bindArgs fd { pos := us } = pure (ps.zip us) := match us, hl with | [a0, a1, a2, a3], _ => h a0 a1 a2 a3
theorem ln7 {fd : FuncData} {ps : List Str} (us : List Value) (hl : us.length = 7) (h : ∀ a0 a1 a2 a3 a4 a5 a6 : Value, bindArgs fd { pos := [a0, a1, a2, a3, a4, a5, a6] } = pure (ps.zip [a0, a1, a2, a3, a4, a5, a6])) : bindArgs fd { pos := us } = pure (ps.zip us) := match us, hl with | [a0, a1, a2, a3, a4, a5, a6], _ => h a0 a1 a2 a3 a4 a5 a6
end J
namespace K16
open PySem J
open L2 (defScope defBody defArgs FnScope CX0 FnOk XK Hp)
def top (i : Nat) : Stmt := PySem.Challenge.pw_onelook_k16_worths_gathered.main.body.getD i (.Pass ⟨0, 0, 0, 0⟩)
def tbl : Tab := []
def tblT : TabT := []
def tblC : Tab := []
abbrev s__law_digit : Stmt := top 10
noncomputable def g__law_digit : GS := (gSeq (gSet 2 (gBin oMod (gBin oIx (gVar 0) (gC (.int 0))) (gVar 1)))
  (gSeq (gSetI (gBin oFdiv (gBin oIx (gVar 0) (gC (.int 0))) (gVar 1)) (gVar 0) (gC (.int 0)))
  (gRet (gVar 2))))
noncomputable def F__law_digit : List Wv → Hs → Re Wv := fnF 3 g__law_digit
noncomputable def c__law_digit : Ct where
  N := ["row", "many", "digit"]
  names := (defScope s__law_digit).names
  consts := []
  bl := []
  fns := []
  tb := tbl
  tt := tblT
  tc := tblC
  clss := []
  cln := []
  dcs := []
  dts := []
  dks := []
theorem r__law_digit : compS 30 (c__law_digit) (defBody s__law_digit) = g__law_digit := by kernel_rfl
theorem sc__law_digit : FnScope (c__law_digit).N ["row", "many"] (defScope s__law_digit) := ⟨rfl, rfl, rfl, by decide +kernel, rfl, by decide +kernel, by decide +kernel⟩
abbrev s__law_worth : Stmt := top 11
noncomputable def g__law_worth : GS := (gSeq (gSet 1 (gCall 2 F__law_digit (gCons (gVar 0) (gCons (gC (.int 8)) gNil))))
  (gSeq (gIf (gTst (gBin oEq (gVar 1) (gC (.int 0)))) (gRet (gC .non)) gNext)
  (gSeq (gIf (gTst (gBin oEq (gVar 1) (gC (.int 1)))) (gRet (gTup (gCons (gC (.str "fault")) (gCons (gBin oIx (gLst (gCons (gC (.str "kind")) (gCons (gC (.str "great")) (gCons (gC (.str "nought")) (gCons (gC (.str "none")) (gCons (gC (.str "lost")) gNil)))))) (gCall 2 F__law_digit (gCons (gVar 0) (gCons (gC (.int 5)) gNil)))) gNil)))) gNext)
  (gSeq (gIf (gTst (gBin oEq (gVar 1) (gC (.int 2)))) (gRet (gBin oIx (gLst (gCons (gC (.str "")) (gCons (gC (.str "a")) (gCons (gC (.str "b7")) (gCons (gC (.str "no")) (gCons (gBin oMulL (gC (.str "a")) (gC (.int 199))) (gCons (gC (.str "-1")) gNil))))))) (gCall 2 F__law_digit (gCons (gVar 0) (gCons (gC (.int 6)) gNil))))) gNext)
  (gSeq (gIf (gTst (gBin oEq (gVar 1) (gC (.int 3)))) (gRet (gBin oSub (gCall 2 F__law_digit (gCons (gVar 0) (gCons (gBin oAdd (gBin oMulL (gC (.int 2)) (gBin oPow (gC (.int 10)) (gC (.int 60)))) (gC (.int 1))) gNil))) (gBin oPow (gC (.int 10)) (gC (.int 60))))) gNext)
  (gSeq (gIf (gTst (gBin oEq (gVar 1) (gC (.int 4)))) (gRet (gBin oIx (gLst (gCons (gBin oPow (gC (.int 10)) (gC (.int 60))) (gCons (gUn opNeg (gBin oPow (gC (.int 10)) (gC (.int 60)))) (gCons (gBin oPow (gC (.int 10)) (gC (.int 30))) (gCons (gBin oSub (gC (.int 1)) (gBin oPow (gC (.int 10)) (gC (.int 60)))) gNil))))) (gCall 2 F__law_digit (gCons (gVar 0) (gCons (gC (.int 4)) gNil))))) gNext)
  (gRet (gBin oSub (gCall 2 F__law_digit (gCons (gVar 0) (gCons (gC (.int 7)) gNil))) (gC (.int 3))))))))))
noncomputable def F__law_worth : List Wv → Hs → Re Wv := fnF 2 g__law_worth
noncomputable def c__law_worth : Ct where
  N := ["row", "way"]
  names := (defScope s__law_worth).names
  consts := []
  bl := []
  fns := [("_law_digit", 2, F__law_digit)]
  tb := tbl
  tt := tblT
  tc := tblC
  clss := []
  cln := []
  dcs := []
  dts := []
  dks := []
theorem r__law_worth : compS 30 (c__law_worth) (defBody s__law_worth) = g__law_worth := by kernel_rfl
theorem sc__law_worth : FnScope (c__law_worth).N ["row"] (defScope s__law_worth) := ⟨rfl, rfl, rfl, by decide +kernel, rfl, by decide +kernel, by decide +kernel⟩
abbrev s__law_same : Stmt := top 12
noncomputable def g__law_same : GS := (gSeq (gIf (gOr (gTru (gCallB (oIsA tbl tblT) (gCons (gVar 0) (gCons (gC (.ty "bool")) gNil)))) (gTru (gCallB (oIsA tbl tblT) (gCons (gVar 1) (gCons (gC (.ty "bool")) gNil))))) (gRet (gC (.bl false))) gNext)
  (gSeq (gIf (gOr (gTst (gBin oNe (gCallB (oIsA tbl tblT) (gCons (gVar 0) (gCons (gC (.ty "int")) gNil))) (gCallB (oIsA tbl tblT) (gCons (gVar 1) (gCons (gC (.ty "int")) gNil))))) (gTst (gBin oNe (gCallB (oIsA tbl tblT) (gCons (gVar 0) (gCons (gC (.ty "str")) gNil))) (gCallB (oIsA tbl tblT) (gCons (gVar 1) (gCons (gC (.ty "str")) gNil)))))) (gRet (gC (.bl false))) gNext)
  (gRet (gAndV (gBin oEq (gCallB (oIsA tbl tblT) (gCons (gVar 0) (gCons (gC (.ty "tuple")) gNil))) (gCallB (oIsA tbl tblT) (gCons (gVar 1) (gCons (gC (.ty "tuple")) gNil)))) (gBin oEq (gVar 0) (gVar 1))))))
noncomputable def F__law_same : List Wv → Hs → Re Wv := fnF 2 g__law_same
noncomputable def c__law_same : Ct where
  N := ["one", "other"]
  names := (defScope s__law_same).names
  consts := []
  bl := ["isinstance", "bool", "int", "str", "tuple"]
  fns := []
  tb := tbl
  tt := tblT
  tc := tblC
  clss := []
  cln := []
  dcs := []
  dts := []
  dks := []
theorem r__law_same : compS 30 (c__law_same) (defBody s__law_same) = g__law_same := by kernel_rfl
theorem sc__law_same : FnScope (c__law_same).N ["one", "other"] (defScope s__law_same) := ⟨rfl, rfl, rfl, by decide +kernel, rfl, by decide +kernel, by decide +kernel⟩
abbrev s_is_great : Stmt := top 3
noncomputable def g_is_great : GS := (gRet (gBin oGt (gCallB oAbs (gCons (gVar 0) gNil)) (gBin oPow (gC (.int 10)) (gC (.int 60)))))
noncomputable def F_is_great : List Wv → Hs → Re Wv := fnF 1 g_is_great
noncomputable def c_is_great : Ct where
  N := ["number"]
  names := (defScope s_is_great).names
  consts := []
  bl := ["abs"]
  fns := []
  tb := tbl
  tt := tblT
  tc := tblC
  clss := []
  cln := []
  dcs := []
  dts := []
  dks := []
theorem r_is_great : compS 30 (c_is_great) (defBody s_is_great) = g_is_great := by kernel_rfl
theorem sc_is_great : FnScope (c_is_great).N ["number"] (defScope s_is_great) := ⟨rfl, rfl, rfl, by decide +kernel, rfl, by decide +kernel, by decide +kernel⟩
abbrev s_fault : Stmt := top 1
noncomputable def g_fault : GS := (gRet (gTup (gCons (gC (.str "fault")) (gCons (gVar 0) gNil))))
noncomputable def F_fault : List Wv → Hs → Re Wv := fnF 1 g_fault
noncomputable def c_fault : Ct where
  N := ["word"]
  names := (defScope s_fault).names
  consts := []
  bl := []
  fns := []
  tb := tbl
  tt := tblT
  tc := tblC
  clss := []
  cln := []
  dcs := []
  dts := []
  dks := []
theorem r_fault : compS 30 (c_fault) (defBody s_fault) = g_fault := by kernel_rfl
theorem sc_fault : FnScope (c_fault).N ["word"] (defScope s_fault) := ⟨rfl, rfl, rfl, by decide +kernel, rfl, by decide +kernel, by decide +kernel⟩
abbrev s_bounded : Stmt := top 4
noncomputable def g_bounded : GS := (gRet (gIfE (gTru (gCall 1 F_is_great (gCons (gVar 0) gNil))) (gCall 1 F_fault (gCons (gC (.str "great")) gNil)) (gVar 0)))
noncomputable def F_bounded : List Wv → Hs → Re Wv := fnF 1 g_bounded
noncomputable def c_bounded : Ct where
  N := ["number"]
  names := (defScope s_bounded).names
  consts := []
  bl := []
  fns := [("is_great", 1, F_is_great), ("fault", 1, F_fault)]
  tb := tbl
  tt := tblT
  tc := tblC
  clss := []
  cln := []
  dcs := []
  dts := []
  dks := []
theorem r_bounded : compS 30 (c_bounded) (defBody s_bounded) = g_bounded := by kernel_rfl
theorem sc_bounded : FnScope (c_bounded).N ["number"] (defScope s_bounded) := ⟨rfl, rfl, rfl, by decide +kernel, rfl, by decide +kernel, by decide +kernel⟩
abbrev s_is_fault : Stmt := top 2
noncomputable def g_is_fault : GS := (gRet (gAndV (gCallB (oIsA tbl tblT) (gCons (gVar 0) (gCons (gC (.ty "tuple")) gNil))) (gBin oEq (gSlice2 (gVar 0) gNoPart (gPart (gC (.int 1)))) (gTup (gCons (gC (.str "fault")) gNil)))))
noncomputable def F_is_fault : List Wv → Hs → Re Wv := fnF 1 g_is_fault
noncomputable def c_is_fault : Ct where
  N := ["worth"]
  names := (defScope s_is_fault).names
  consts := []
  bl := ["isinstance", "tuple"]
  fns := []
  tb := tbl
  tt := tblT
  tc := tblC
  clss := []
  cln := []
  dcs := []
  dts := []
  dks := []
theorem r_is_fault : compS 30 (c_is_fault) (defBody s_is_fault) = g_is_fault := by kernel_rfl
theorem sc_is_fault : FnScope (c_is_fault).N ["worth"] (defScope s_is_fault) := ⟨rfl, rfl, rfl, by decide +kernel, rfl, by decide +kernel, by decide +kernel⟩
abbrev s_gathered : Stmt := top 5
noncomputable def g_gathered_C1t : GT := (gTru (gCallB (oIsA tbl tblT) (gCons (gVar 0) (gCons (gC (.ty "int")) gNil))))
noncomputable def g_gathered_C1e : GE := (gVar 0)
noncomputable def g_gathered_C2t : GT := (gTru (gCall 1 F_is_fault (gCons (gVar 0) gNil)))
noncomputable def g_gathered_C2e : GE := (gVar 0)
noncomputable def g_gathered : GS := (gSeq (gSet 2 (gComp [] (giSeq2 (gVar 1)) g_gathered_C2t g_gathered_C2e))
  (gSeq (gIf (gTru (gVar 2)) (gRet (gBin oIx (gVar 2) (gC (.int 0)))) gNext)
  (gSeq (gSet 3 (gComp [] (giSeq2 (gVar 1)) g_gathered_C1t g_gathered_C1e))
  (gSeq (gIf (gTst (gBin oEq (gVar 0) (gC (.str "sum")))) (gRet (gCall 1 F_bounded (gCons (gCallB oSum (gCons (gVar 3) gNil)) gNil))) gNext)
  (gSeq (gIf (gTst (gBin oEq (gVar 0) (gC (.str "count")))) (gRet (gCallB oLen (gCons (gVar 3) gNil))) gNext)
  (gSeq (gIf (gNot (gTru (gVar 3))) (gRet (gCall 1 F_fault (gCons (gC (.str "none")) gNil))) gNext)
  (gRet (gCall 1 F_bounded (gCons (gIfE (gTst (gBin oEq (gVar 0) (gC (.str "least")))) (gCallB oMin2 (gCons (gVar 3) gNil)) (gCallB oMax2 (gCons (gVar 3) gNil))) gNil)))))))))
noncomputable def F_gathered : List Wv → Hs → Re Wv := fnF 4 g_gathered
noncomputable def c_gathered : Ct where
  N := ["word", "worths", "faults", "numbers"]
  names := (defScope s_gathered).names
  consts := []
  bl := ["len", "isinstance", "int", "sum", "min", "max"]
  fns := [("bounded", 1, F_bounded), ("fault", 1, F_fault), ("is_fault", 1, F_is_fault)]
  tb := tbl
  tt := tblT
  tc := tblC
  clss := []
  cln := []
  dcs := []
  dts := []
  dks := []
theorem r_gathered : compS 30 (c_gathered) (defBody s_gathered) = g_gathered := by kernel_rfl
theorem sc_gathered : FnScope (c_gathered).N ["word", "worths"] (defScope s_gathered) := ⟨rfl, rfl, rfl, by decide +kernel, rfl, by decide +kernel, by decide +kernel⟩
abbrev s__law_due : Stmt := top 13
noncomputable def g__law_due_L1 : GS := (gSet 4 (gBin oAdd (gVar 4) (gVar 5)))
noncomputable def g__law_due_C1t : GT := (gTru (gCallB (oIsA tbl tblT) (gCons (gVar 0) (gCons (gC (.ty "int")) gNil))))
noncomputable def g__law_due_C1e : GE := (gVar 0)
noncomputable def g__law_due_C2t : GT := (gTru (gCallB (oIsA tbl tblT) (gCons (gVar 0) (gCons (gC (.ty "tuple")) gNil))))
noncomputable def g__law_due_C2e : GE := (gVar 0)
noncomputable def g__law_due : GS := (gSeq (gSet 2 (gComp [] (giSeq2 (gVar 1)) g__law_due_C2t g__law_due_C2e))
  (gSeq (gIf (gTst (gBin oNe (gVar 2) (gLst gNil))) (gRet (gBin oIx (gVar 2) (gC (.int 0)))) gNext)
  (gSeq (gSet 3 (gCallB oSrt2 (gCons (gComp [] (giSeq2 (gVar 1)) g__law_due_C1t g__law_due_C1e) gNil)))
  (gSeq (gIf (gTst (gBin oEq (gVar 0) (gC (.str "sum")))) (gSeq (gSet 4 (gC (.int 0)))
    (gSeq (gFor 5 (gVar 3) g__law_due_L1)
    (gSeq (gIf (gOr (gTst (gBin oGt (gVar 4) (gBin oPow (gC (.int 10)) (gC (.int 60))))) (gTst (gBin oLt (gVar 4) (gUn opNeg (gBin oPow (gC (.int 10)) (gC (.int 60))))))) (gRet (gTup (gCons (gC (.str "fault")) (gCons (gC (.str "great")) gNil)))) gNext)
    (gRet (gVar 4))))) gNext)
  (gSeq (gIf (gTst (gBin oEq (gVar 0) (gC (.str "count")))) (gRet (gCallB oLen (gCons (gVar 3) gNil))) gNext)
  (gSeq (gIf (gTst (gBin oEq (gVar 3) (gLst gNil))) (gRet (gTup (gCons (gC (.str "fault")) (gCons (gC (.str "none")) gNil)))) gNext)
  (gRet (gBin oIx (gVar 3) (gBin oSub (gC (.int 0)) (gCallB oInt2 (gCons (gBin oEq (gVar 0) (gC (.str "greatest"))) gNil)))))))))))
noncomputable def F__law_due : List Wv → Hs → Re Wv := fnF 6 g__law_due
noncomputable def c__law_due : Ct where
  N := ["word", "worths", "faults", "numbers", "total", "number"]
  names := (defScope s__law_due).names
  consts := []
  bl := ["sorted", "len", "isinstance", "tuple", "int"]
  fns := []
  tb := tbl
  tt := tblT
  tc := tblC
  clss := []
  cln := []
  dcs := []
  dts := []
  dks := []
theorem r__law_due : compS 30 (c__law_due) (defBody s__law_due) = g__law_due := by kernel_rfl
theorem sc__law_due : FnScope (c__law_due).N ["word", "worths"] (defScope s__law_due) := ⟨rfl, rfl, rfl, by decide +kernel, rfl, by decide +kernel, by decide +kernel⟩
abbrev s_law : Stmt := top 14
noncomputable def g_law_L2 : GS := (gIf (gOr (gNot (gTru (gCall 2 F__law_same (gCons (gCall 2 F_gathered (gCons (gVar 8) (gCons (gVar 7) gNil))) (gCons (gCall 2 F__law_due (gCons (gVar 8) (gCons (gVar 6) gNil))) gNil))))) (gTst (gBin oNe (gVar 7) (gVar 6)))) (gRet (gC (.bl false))) gNext)
noncomputable def g_law_L1 : GS := (gSeq (gSet 7 (gCallB oListD (gCons (gVar 6) gNil)))
  (gFor 8 (gLst (gCons (gC (.str "sum")) (gCons (gC (.str "count")) (gCons (gC (.str "least")) (gCons (gC (.str "greatest")) gNil))))) g_law_L2))
noncomputable def g_law_C1t : GT := (gTru (gCallB (oIsA tbl tblT) (gCons (gVar 0) (gCons (gC (.ty "int")) gNil))))
noncomputable def g_law_C1e : GE := (gVar 0)
noncomputable def g_law_C2t : GT := (gNot (gTru (gCallB (oIsA tbl tblT) (gCons (gVar 0) (gCons (gC (.ty "tuple")) gNil)))))
noncomputable def g_law_C2e : GE := (gVar 0)
noncomputable def g_law_L3 : GS := (gExpr (gMeth mApp (gVar 1) (gCall 1 F__law_worth (gCons (gLst (gCons (gBin oMod (gVar 2) (gBin oMulL (gBin oPow (gC (.int 10)) (gC (.int 64))) (gBin oPow (gC (.int 10)) (gC (.int 64))))) gNil)) gNil))))
noncomputable def g_law : GS := (gSeq (gSet 1 (gLst gNil))
  (gSeq (gFor 2 (gVar 0) g_law_L3)
  (gSeq (gSet 3 (gComp [] (giSeq2 (gVar 1)) g_law_C2t g_law_C2e))
  (gSeq (gSet 4 (gComp [] (giSeq2 (gVar 1)) g_law_C1t g_law_C1e))
  (gSeq (gSet 5 (gBin oAdd (gBin oAdd (gBin oMulL (gLst (gCons (gBin oPow (gC (.int 10)) (gC (.int 60))) gNil)) (gBin oMod (gCallB oLen (gCons (gVar 0) gNil)) (gC (.int 5)))) (gVar 4)) (gBin oMulL (gLst (gCons (gUn opNeg (gBin oPow (gC (.int 10)) (gC (.int 60)))) gNil)) (gBin oMod (gCallB oLen (gCons (gVar 0) gNil)) (gC (.int 5))))))
  (gSeq (gFor 6 (gLst (gCons (gVar 1) (gCons (gVar 3) (gCons (gVar 4) (gCons (gVar 5) (gCons (gLst gNil) (gCons (gLst (gCons (gC .non) (gCons (gC (.str "a")) gNil))) gNil))))))) g_law_L1)
  (gRet (gC (.bl true)))))))))
noncomputable def F_law : List Wv → Hs → Re Wv := fnF 9 g_law
noncomputable def c_law : Ct where
  N := ["script", "worths", "cell", "plain", "numbers", "far", "some", "handed", "word"]
  names := (defScope s_law).names
  consts := []
  bl := ["list", "isinstance", "int", "tuple", "len"]
  fns := [("_law_worth", 1, F__law_worth), ("_law_same", 2, F__law_same), ("gathered", 2, F_gathered), ("_law_due", 2, F__law_due)]
  tb := tbl
  tt := tblT
  tc := tblC
  clss := []
  cln := []
  dcs := []
  dts := []
  dks := []
theorem r_law : compS 30 (c_law) (defBody s_law) = g_law := by kernel_rfl
theorem sc_law : FnScope (c_law).N ["script"] (defScope s_law) := ⟨rfl, rfl, rfl, by decide +kernel, rfl, by decide +kernel, by decide +kernel⟩
end K16
namespace K16
open PySem J
inductive Wo where
  | non
  | int (i : Int)
  | txt (x : PySem.Str)
  | flt (x : PySem.Str)
def Wo.w : Wo → Wv
  | .non => .non
  | .int i => .int i
  | .txt x => .str x
  | .flt x => .tup [.str "fault", .str x]
def Wo.f : Wo → Bool
  | .flt _ => true
  | _ => false
def Wo.n : Wo → Bool
  | .int _ => true
  | _ => false
theorem isf (a : Wo) (st : Hs) : F_is_fault [a.w] st = .ok (.bl a.f) st := by cases a <;> rfl
def nums : List Wo → List Int
  | [] => []
  | .int i :: r => i :: nums r
  | _ :: r => nums r
def flts : List Wo → List PySem.Str
  | [] => []
  | .flt x :: r => x :: flts r
  | _ :: r => flts r
theorem nums_app : ∀ (a b : List Wo), nums (a ++ b) = nums a ++ nums b
  | [], b => rfl
  | x :: r, b => by cases x <;> simp [nums, nums_app r b]
theorem flts_app : ∀ (a b : List Wo), flts (a ++ b) = flts a ++ flts b
  | [], b => rfl
  | x :: r, b => by cases x <;> simp [flts, flts_app r b]
theorem nums_len : ∀ a : List Wo, (nums a).length ≤ a.length
  | [] => Nat.le_refl _
  | x :: r => by
    have := nums_len r
    cases x <;> simp [nums] <;> omega
theorem nums_flt : ∀ a : List Wo, (a.map Wo.w).filter (fun v => match v with | .int _ => true | _ => false) = (nums a).map Wv.int
  | [] => rfl
  | x :: r => by
    have := nums_flt r
    cases x <;> simp [nums, Wo.w, this]
theorem flts_flt : ∀ a : List Wo, (a.map Wo.w).filter (fun v => match v with | .tup _ => true | _ => false) = (flts a).map fun x => Wv.tup [.str "fault", .str x]
  | [] => rfl
  | x :: r => by
    have := flts_flt r
    cases x <;> simp [flts, Wo.w, this]
def P60 : Int := 10 ^ (60 : Int).toNat
theorem p60 {st : Hs} : oPow (.int 10) (.int 60) st = .ok (.int P60) st := pow_i (by decide)
def bnd (i : Int) : Wv := if P60 < (if i < 0 then -i else i) then .tup [.str "fault", .str "great"] else .int i
theorem bounded {i : Int} {st : Hs} : F_bounded [.int i] st = .ok (bnd i) st := by
  have g : F_is_great [.int i] st = .ok (.bl (decide (P60 < (if i < 0 then -i else i)))) st := by
    unfold F_is_great fnF g_is_great
    simp [p60]
  have f : F_fault [.str "great"] st = .ok (.tup [.str "fault", .str "great"]) st := rfl
  unfold F_bounded fnF g_bounded bnd
  by_cases c : P60 < (if i < 0 then -i else i)
  · simp [g, f, c]
  · simp [g, f, c]
inductive Word where
  | sum | count | least | greatest
def Word.s : Word → PySem.Str
  | .sum => "sum"
  | .count => "count"
  | .least => "least"
  | .greatest => "greatest"
def due (wd : Word) (ws : List Wo) : Wv := match flts ws with
  | x :: _ => .tup [.str "fault", .str x]
  | [] => match wd with
    | .sum => bnd (nums ws).sum
    | .count => .int (nums ws).length
    | .least => (match nums ws with | [] => .tup [.str "fault", .str "none"] | n :: r => bnd (mnI n r))
    | .greatest => (match nums ws with | [] => .tup [.str "fault", .str "none"] | n :: r => bnd (mxI n r))
theorem s_ss : (("sum" : PySem.Str) == "sum") = true := rfl
theorem s_cs : (("count" : PySem.Str) == "sum") = false := rfl
theorem s_ls : (("least" : PySem.Str) == "sum") = false := rfl
theorem s_gs : (("greatest" : PySem.Str) == "sum") = false := rfl
theorem s_cc : (("count" : PySem.Str) == "count") = true := rfl
theorem s_lc : (("least" : PySem.Str) == "count") = false := rfl
theorem s_gc : (("greatest" : PySem.Str) == "count") = false := rfl
theorem s_ll : (("least" : PySem.Str) == "least") = true := rfl
theorem s_gl : (("greatest" : PySem.Str) == "least") = false := rfl
theorem isI (a : Wo) (st : Hs) : oIsA tbl tblT [a.w, .ty "int"] st = .ok (.bl a.n) st := by cases a <;> rfl
theorem isT (a : Wo) (st : Hs) : oIsA tbl tblT [a.w, .ty "tuple"] st = .ok (.bl a.f) st := by cases a <;> rfl
theorem gather {wd : Word} {ws : List Wo} {l : Nat} {st : Hs} (h : lstOf st l = some (ws.map Wo.w)) (hl : ws.length < 100) : ∃ st', F_gathered [.str wd.s, .ref l] st = .ok (due wd ws) st' ∧ Gr st st' := by
  have c1 : ∀ st : Hs, lstOf st l = some (ws.map Wo.w) → ∀ ρ, compRun [] g_gathered_C2t g_gathered_C2e ρ (some l, ws.map Wo.w) st = .ok (.ref st.length) (st ++ [.lst ((flts ws).map fun x => Wv.tup [.str "fault", .str x])]) := by
    intro st h ρ
    rw [comp_pure (w := (some l, ws.map Wo.w)) (t := fun v => match v with | .tup _ => true | _ => false) (f := id) h]
    · rw [List.map_id, flts_flt]
    · intro v hv acc
      obtain ⟨a, _, rfl⟩ := List.mem_map.mp hv
      unfold g_gathered_C2t
      simp [isf]
      cases a <;> rfl
    · intro v hv _ acc
      rfl
    · simp; unfold lim; omega
  have c2 : ∀ st : Hs, lstOf st l = some (ws.map Wo.w) → ∀ ρ, compRun [] g_gathered_C1t g_gathered_C1e ρ (some l, ws.map Wo.w) st = .ok (.ref st.length) (st ++ [.lst ((nums ws).map Wv.int)]) := by
    intro st h ρ
    rw [comp_pure (w := (some l, ws.map Wo.w)) (t := fun v => match v with | .int _ => true | _ => false) (f := id) h]
    · rw [List.map_id, nums_flt]
    · intro v hv acc
      obtain ⟨a, _, rfl⟩ := List.mem_map.mp hv
      unfold g_gathered_C1t
      simp [isI]
      cases a <;> rfl
    · intro v hv _ acc
      rfl
    · simp; unfold lim; omega
  have l1 := lstOf_new (st := st) (ws := (flts ws).map fun x => Wv.tup [.str "fault", .str x])
  cases e2 : flts ws with
  | cons x r =>
    have q : due wd ws = .tup [.str "fault", .str x] := by unfold due; rw [e2]
    rw [e2] at l1
    refine ⟨st ++ [.lst ((flts ws).map fun x => Wv.tup [.str "fault", .str x])], ?_, Gr.push⟩
    rw [q]
    have i := ix_l (st := st ++ [.lst ((flts ws).map fun x => Wv.tup [.str "fault", .str x])]) (l := st.length) (i := 0) (ws := (x :: r).map fun x => Wv.tup [.str "fault", .str x]) (v := .tup [.str "fault", .str x]) (by rw [e2]; exact l1) (by rw [List.map_cons]; exact atI_0)
    have tr : truW (.ref st.length) (st ++ [.lst ((flts ws).map fun x => Wv.tup [.str "fault", .str x])]) = .ok true (st ++ [.lst ((flts ws).map fun x => Wv.tup [.str "fault", .str x])]) := by
      unfold truW
      simp only [e2, l1]
      rfl
    unfold F_gathered fnF g_gathered
    simp [seqW_l h, c1 _ h, tr, i]
  | nil =>
    rw [e2] at l1
    have h2 : lstOf (st ++ [.lst []]) l = some (ws.map Wo.w) := Gr.push.lst h
    have l3 := lstOf_new (st := st ++ [.lst []]) (ws := (nums ws).map Wv.int)
    have cc1 := c1 _ h
    rw [e2] at cc1
    simp only [List.map_nil] at cc1
    have cc2 := c2 _ h2
    have tr : truW (.ref st.length) (st ++ [.lst []]) = .ok false (st ++ [.lst []]) := by
      unfold truW
      simp only [show lstOf (st ++ [.lst []]) st.length = some [] from l1]
      rfl
    refine ⟨st ++ [.lst []] ++ [.lst ((nums ws).map Wv.int)], ?_, Gr.push.trans Gr.push⟩
    generalize st ++ [.lst []] = s1 at tr h2 l3 cc2 cc1
    generalize hs2 : s1 ++ [.lst ((nums ws).map Wv.int)] = s2 at l3 cc2
    have f : F_fault [.str "none"] s2 = .ok (.tup [.str "fault", .str "none"]) s2 := rfl
    have sm := sum_l l3
    have ln : oLen [.ref s1.length] s2 = .ok (.int (nums ws).length) s2 := by
      have := len_l l3
      rwa [List.length_map] at this
    have tr2 : truW (.ref s1.length) s2 = .ok (!((nums ws).map Wv.int).isEmpty) s2 := by
      unfold truW
      simp only [l3]
    unfold due
    rw [e2]
    unfold F_gathered fnF g_gathered
    cases en : nums ws with
    | nil =>
      rw [en] at sm ln tr2
      cases wd <;> simp [seqW_l h, cc1, tr, seqW_l h2, cc2, sm, ln, tr2, f, Word.s, s_ss, s_cs, s_ls, s_gs, s_cc, s_lc, s_gc, s_ll, s_gl, bounded]
    | cons n r =>
      rw [en] at sm ln tr2 l3
      cases wd <;> simp [seqW_l h, cc1, tr, seqW_l h2, cc2, sm, ln, tr2, f, Word.s, s_ss, s_cs, s_ls, s_gs, s_cc, s_lc, s_gc, s_ll, s_gl, bounded, max_l l3, min_l l3]
theorem digit {st : Hs} {l : Nat} {n many : Int} (h : st[l]? = some (.lst [.int n])) (hm : many ≠ 0 ∧ many.natAbs.log2 < 9000) :
    F__law_digit [.ref l, .int many] st = .ok (.int (n.fmod many)) (st.set l (.lst [.int (n.fdiv many)])) := by
  have hl : lstOf st l = some [.int n] := by unfold lstOf; rw [h]
  have h0 : L2.atI [Wv.int n] 0 = some (.int n) := rfl
  unfold F__law_digit fnF g__law_digit
  simp [ix_l hl h0, mod_i hm.1, fdiv_i hm, gSetI, oSet, h, L2.ixN]
theorem pick {st : Hs} {l : Nat} {n many : Int} {ws : List Wv} (h : st[l]? = some (.lst [.int n])) (hm : many ≠ 0 ∧ many.natAbs.log2 < 9000) (hp : 0 < many) (hw : (ws.length : Int) = many) :
    ∃ v st', v ∈ ws ∧ F__law_digit [.ref l, .int many] (st ++ [.lst ws]) = .ok (.int (n.fmod many)) st' ∧ oIx (.ref st.length) (.int (n.fmod many)) st' = .ok v st' ∧ Keep l st st' ∧ st'[l]? = some (.lst [.int (n.fdiv many)]) := by
  have hl : l < st.length := (List.getElem?_eq_some_iff.mp h).1
  obtain ⟨v, e1, e2⟩ := atI_some (ws := ws) (d := n.fmod many) (Int.fmod_nonneg_of_pos _ hp) (by rw [hw]; exact Int.fmod_lt_of_pos _ hp)
  refine ⟨v, _, e2, digit (push_get h) hm, ix_l (ws := ws) ?_ e1, Keep.push.trans Keep.set, set_get (push_get h)⟩
  have k : Keep l (st ++ [Ob.lst ws]) ((st ++ [Ob.lst ws]).set l (.lst [.int (n.fdiv many)])) := Keep.set
  exact k.lst lstOf_new (by omega)
def P30 : Int := 10 ^ (30 : Int).toNat
theorem p30 {st : Hs} : oPow (.int 10) (.int 30) st = .ok (.int P30) st := pow_i (by decide)
theorem m60 {st : Hs} : oMulL (.int 2) (.int P60) st = .ok (.int (2 * P60)) st := mul_i (by decide +kernel)
def A199 : PySem.Str := repS (199 : Int).toNat "a"
theorem a199 {st : Hs} : oMulL (.str "a") (.int 199) st = .ok (.str A199) st := by
  have c : CMulS "a" 199 := by decide +kernel
  show (if (199 : Int) = 0 ∨ (199 : Int) = 1 then Re.ok (Wv.str (if (199 : Int) = 0 then PySem.Str.empty else "a")) st else oMulS (.str "a") (.int 199) st) = _
  rw [if_neg (by decide)]
  show (if CMulS "a" 199 then Re.ok (Wv.str (repS (199 : Int).toNat "a")) st else .bad) = _
  rw [if_pos c]
  rfl
def Wo.Ok : Wo → Prop
  | .int i => -P60 ≤ i ∧ i ≤ P60
  | .txt x => x.length ≤ 200
  | _ => True
theorem worth {st : Hs} {l : Nat} {n : Int} (h : st[l]? = some (.lst [.int n])) : ∃ (a : Wo) (st' : Hs) (n' : Int), F__law_worth [.ref l] st = .ok a.w st' ∧ Keep l st st' ∧ st'[l]? = some (.lst [.int n']) ∧ a.Ok := by
  have d8 := digit (many := 8) h (by decide)
  have h1 := set_get (o' := .lst [.int (n.fdiv 8)]) h
  have k1 : Keep l st (st.set l (.lst [.int (n.fdiv 8)])) := Keep.set
  generalize st.set l (.lst [.int (n.fdiv 8)]) = st1 at d8 h1 k1
  generalize n.fdiv 8 = n1 at h1
  generalize hw : n.fmod 8 = way at d8
  unfold F__law_worth fnF g__law_worth
  by_cases w0 : way = 0
  · subst w0
    exact ⟨.non, st1, n1, by simp [d8, Wo.w], k1, h1, trivial⟩
  by_cases w1 : way = 1
  · subst w1
    obtain ⟨v, st2, hv, e1, e2, k2, h2⟩ := pick (many := 5) (ws := [.str "kind", .str "great", .str "nought", .str "none", .str "lost"]) h1 (by decide) (by decide) rfl
    obtain ⟨x, rfl⟩ : ∃ x, v = .str x := by simp at hv; rcases hv with rfl | rfl | rfl | rfl | rfl <;> exact ⟨_, rfl⟩
    exact ⟨.flt x, st2, _, by simp [d8, e1, e2, Wo.w], k1.trans k2, h2, trivial⟩
  by_cases w2 : way = 2
  · subst w2
    obtain ⟨v, st2, hv, e1, e2, k2, h2⟩ := pick (many := 6) (ws := [.str "", .str "a", .str "b7", .str "no", .str A199, .str "-1"]) h1 (by decide) (by decide) rfl
    obtain ⟨x, rfl, hx⟩ : ∃ x, v = .str x ∧ x.length ≤ 200 := by simp at hv; rcases hv with rfl | rfl | rfl | rfl | rfl | rfl <;> exact ⟨_, rfl, by decide +kernel⟩
    exact ⟨.txt x, st2, _, by simp [d8, e1, e2, a199, Wo.w], k1.trans k2, h2, hx⟩
  by_cases w3 : way = 3
  · subst w3
    exact ⟨.int (n1.fmod (2 * P60 + 1) - P60), _, n1.fdiv (2 * P60 + 1), by simp [d8, p60, m60, digit h1 (many := 2 * P60 + 1) (by decide +kernel), Wo.w], k1.trans Keep.set, set_get h1, by
      have q1 := Int.fmod_nonneg_of_pos n1 (b := 2 * P60 + 1) (by decide +kernel)
      have q2 := Int.fmod_lt_of_pos n1 (b := 2 * P60 + 1) (by decide +kernel)
      exact ⟨by omega, by omega⟩⟩
  by_cases w4 : way = 4
  · subst w4
    obtain ⟨v, st2, hv, e1, e2, k2, h2⟩ := pick (many := 4) (ws := [.int P60, .int (-P60), .int P30, .int (1 - P60)]) h1 (by decide) (by decide) rfl
    obtain ⟨x, rfl, hx⟩ : ∃ x, v = .int x ∧ -P60 ≤ x ∧ x ≤ P60 := by simp at hv; rcases hv with rfl | rfl | rfl | rfl <;> exact ⟨_, rfl, by decide +kernel, by decide +kernel⟩
    exact ⟨.int x, st2, _, by simp [d8, e1, e2, p60, p30, Wo.w], k1.trans k2, h2, hx⟩
  · have v0 : (way == 0) = false := beq_false_of_ne w0
    have v1 : (way == 1) = false := beq_false_of_ne w1
    have v2 : (way == 2) = false := beq_false_of_ne w2
    have v3 : (way == 3) = false := beq_false_of_ne w3
    have v4 : (way == 4) = false := beq_false_of_ne w4
    exact ⟨.int (n1.fmod 7 - 3), _, n1.fdiv 7, by simp [d8, v0, v1, v2, v3, v4, digit h1 (many := 7) (by decide), Wo.w], k1.trans Keep.set, set_get h1, by
      have q1 := Int.fmod_nonneg_of_pos n1 (b := 7) (by decide)
      have q2 := Int.fmod_lt_of_pos n1 (b := 7) (by decide)
      have q3 : (10 : Int) ≤ P60 := by decide +kernel
      exact ⟨by omega, by omega⟩⟩
theorem pairs_i {n : Int} {r : List Wv} : pairsW (.int n :: r) = none := by unfold pairsW; rfl
theorem srt2_i {l : Nat} {st : Hs} {ns : List Int} (h : lstOf st l = some (ns.map Wv.int)) (hn : ns.length < 4096) : oSrt2 [.ref l] st = .ok (.ref st.length) (st ++ [.lst ((srtI ns).map Wv.int)]) := by
  have e := srt_l h hn
  unfold oSrt2
  simp only [h]
  match ns, h, e with
  | [], h, e => exact e
  | [n], h, e => rfl
  | n :: m :: r, h, e =>
    simp only [List.map_cons, pairs_i]
    exact e
theorem dat_w (st : Hs) (n : Nat) (a : Wo) : ∃ d, datum st (n + 1) a.w = some d ∧ PyData.eqv d d = true := by
  cases a with
  | non => exact ⟨.none, rfl, rfl⟩
  | int i => exact ⟨.int i, rfl, eqv_i⟩
  | txt x => exact ⟨.str x, rfl, eqv_s⟩
  | flt x => exact ⟨.tuple [.str "fault", .str x], by cases n <;> rfl, eqv_ss⟩
theorem dat_ws (st : Hs) (n : Nat) : ∀ ws : List Wo, ∃ ds, mapO (datum st (n + 1)) (ws.map Wo.w) = some ds ∧ PyData.eqvAll ds ds = true
  | [] => ⟨[], rfl, rfl⟩
  | a :: r => by
    obtain ⟨d, h1, h2⟩ := dat_w st n a
    obtain ⟨ds, k1, k2⟩ := dat_ws st n r
    refine ⟨d :: ds, ?_, ?_⟩
    · rw [List.map_cons]
      unfold mapO
      rw [h1, k1]
    · simp [PyData.eqvAll, h2, k2]
theorem ne_ws {ws : List Wo} {a b : Nat} {st : Hs} (h1 : lstOf st a = some (ws.map Wo.w)) (h2 : lstOf st b = some (ws.map Wo.w)) : oNe (.ref a) (.ref b) st = .ok (.bl false) st := by
  obtain ⟨ds, k1, k2⟩ := dat_ws st 18 ws
  refine ne_dat (d := .list ds) ?_ ?_ ?_
  · rw [dat_l h1, k1]; rfl
  · rw [dat_l h2, k1]; rfl
  · simpa [PyData.eqv] using k2
theorem cmp_nil {ws : List Wo} {a b : Nat} {st : Hs} (h1 : lstOf st a = some (ws.map Wo.w)) (h2 : lstOf st b = some []) : oEq (.ref a) (.ref b) st = .ok (.bl ws.isEmpty) st ∧ oNe (.ref a) (.ref b) st = .ok (.bl (!ws.isEmpty)) st := by
  obtain ⟨ds, k1, k2⟩ := dat_ws st 18 ws
  have e1 : datum st 20 (.ref a) = some (.list ds) := by rw [dat_l h1, k1]; rfl
  have e2 : datum st 20 (.ref b) = some (.list []) := by rw [dat_l h2]; rfl
  have ev : PyData.eqv (.list ds) (.list []) = ws.isEmpty := by
    cases ws with
    | nil =>
      rw [List.map_nil] at k1
      cases k1
      rfl
    | cons w r =>
      obtain ⟨d, q1, _⟩ := dat_w st 18 w
      obtain ⟨es, q2, _⟩ := dat_ws st 18 r
      rw [List.map_cons, mapO, q1, q2] at k1
      cases k1
      rfl
  unfold oEq oNe
  rw [e1, e2]
  dsimp only
  rw [ev]
  exact ⟨rfl, rfl⟩
theorem nums_w (ns : List Int) : ns.map Wv.int = (ns.map Wo.int).map Wo.w := by rw [List.map_map]; rfl
theorem flts_w (xs : List PySem.Str) : (xs.map fun x => Wv.tup [.str "fault", .str x]) = (xs.map Wo.flt).map Wo.w := by rw [List.map_map]; rfl
theorem bnd_i {i : Int} (h : -P60 ≤ i ∧ i ≤ P60) : bnd i = .int i := by
  unfold bnd
  rw [if_neg]
  split <;> omega
theorem forL_sum {l : Nat} {all : List Wv} {b : Option Wv} {o0 o1 o2 o3 : Option Wv} {st : Hs} (hl : lstOf st l = some all) : ∀ (ns : List Int) (t : Int) (o5 : Option Wv), ∃ o5', forL 5 g__law_due_L1 l all (ns.map Wv.int) [o0, o1, o2, o3, some (.int t), o5] st = .nx [o0, o1, o2, o3, some (.int (t + ns.sum)), o5'] st
  | [], t, o5 => ⟨o5, by rw [List.sum_nil, Int.add_zero]; rfl⟩
  | n :: r, t, o5 => by
    obtain ⟨o5', e⟩ := forL_sum (b := b) (o0 := o0) (o1 := o1) (o2 := o2) (o3 := o3) hl r (t + n) (some (.int n))
    refine ⟨o5', ?_⟩
    have e1 : g__law_due_L1 [o0, o1, o2, o3, some (.int t), some (.int n)] st = .nx [o0, o1, o2, o3, some (.int (t + n)), some (.int n)] st := by
      unfold g__law_due_L1
      simp
    rw [List.map_cons, forL]
    have e2 : g__law_due_L1 ([o0, o1, o2, o3, some (.int t), o5].set 5 (some (.int n))) st = .nx [o0, o1, o2, o3, some (.int (t + n)), some (.int n)] st := e1
    rw [e2]
    simp only [if_pos hl]
    rw [e, List.sum_cons, Int.add_assoc]
theorem nums_ok : ∀ {ws : List Wo}, (∀ a ∈ ws, a.Ok) → ∀ i ∈ nums ws, -P60 ≤ i ∧ i ≤ P60
  | [], _, i, hi => by cases hi
  | a :: r, h, i, hi => by
    have ih := nums_ok (ws := r) fun b hb => h b (List.mem_cons_of_mem _ hb)
    cases a with
    | int j =>
      rcases List.mem_cons.mp hi with z | z
      · rw [z]; exact h _ List.mem_cons_self
      · exact ih i z
    | _ => exact ih i hi
theorem srt_cons (n : Int) (r : List Int) : ∃ a t, srtI (n :: r) = a :: t := by
  cases es : srtI (n :: r) with
  | nil =>
    have := (srtI_perm (n :: r)).length_eq
    rw [es] at this
    simp at this
  | cons a t => exact ⟨a, t, rfl⟩
theorem due_is {wd : Word} {ws : List Wo} {l : Nat} {st : Hs} (h : lstOf st l = some (ws.map Wo.w)) (hl : ws.length < 100) (hok : ∀ a ∈ ws, a.Ok) : ∃ st', F__law_due [.str wd.s, .ref l] st = .ok (due wd ws) st' ∧ Gr st st' := by
  have c1 : ∀ ρ, compRun [] g__law_due_C2t g__law_due_C2e ρ (some l, ws.map Wo.w) st = .ok (.ref st.length) (st ++ [.lst ((flts ws).map fun x => Wv.tup [.str "fault", .str x])]) := by
    intro ρ
    rw [comp_pure (w := (some l, ws.map Wo.w)) (t := fun v => match v with | .tup _ => true | _ => false) (f := id) h]
    · rw [List.map_id]; exact congrArg (fun z => Re.ok (Wv.ref st.length) (st ++ [Ob.lst z])) (flts_flt ws)
    · intro v hv acc
      obtain ⟨a, _, rfl⟩ := List.mem_map.mp hv
      unfold g__law_due_C2t
      simp [isT]
      cases a <;> rfl
    · intro v hv _ acc
      rfl
    · simp; unfold lim; omega
  have c2 : ∀ st : Hs, lstOf st l = some (ws.map Wo.w) → ∀ ρ, compRun [] g__law_due_C1t g__law_due_C1e ρ (some l, ws.map Wo.w) st = .ok (.ref st.length) (st ++ [.lst ((nums ws).map Wv.int)]) := by
    intro st h ρ
    rw [comp_pure (w := (some l, ws.map Wo.w)) (t := fun v => match v with | .int _ => true | _ => false) (f := id) h]
    · rw [List.map_id]; exact congrArg (fun z => Re.ok (Wv.ref st.length) (st ++ [Ob.lst z])) (nums_flt ws)
    · intro v hv acc
      obtain ⟨a, _, rfl⟩ := List.mem_map.mp hv
      unfold g__law_due_C1t
      simp [isI]
      cases a <;> rfl
    · intro v hv _ acc
      rfl
    · simp; unfold lim; omega
  have ok2 : ∀ i ∈ nums ws, -P60 ≤ i ∧ i ≤ P60 := nums_ok hok
  have k0 : ∀ st : Hs, kLst [] st = .ok (.ref st.length) (st ++ [.lst []]) := fun _ => kLst_0
  have l1 := lstOf_new (st := st) (ws := (flts ws).map fun x => Wv.tup [.str "fault", .str x])
  have h1 : lstOf (st ++ [.lst ((flts ws).map fun x => Wv.tup [.str "fault", .str x])]) l = some (ws.map Wo.w) := Gr.push.lst h
  have g1 : Gr st (st ++ [.lst ((flts ws).map fun x => Wv.tup [.str "fault", .str x])]) := Gr.push
  generalize st ++ [.lst ((flts ws).map fun x => Wv.tup [.str "fault", .str x])] = s1 at c1 l1 h1 g1
  have g2 : Gr s1 (s1 ++ [.lst []]) := Gr.push
  have n2 : lstOf (s1 ++ [.lst []]) s1.length = some [] := lstOf_new
  have l2 := g2.lst l1
  have h2 := g2.lst h1
  have k1 := k0 s1
  generalize s1 ++ [.lst []] = s2 at g2 n2 l2 h2 k1
  have cn := (cmp_nil (by rw [flts_w] at l2; exact l2) n2).2
  cases e2 : flts ws with
  | cons x r =>
    rw [e2] at l2 cn
    have q : due wd ws = .tup [.str "fault", .str x] := by unfold due; rw [e2]
    have i := ix_l (i := 0) (v := .tup [.str "fault", .str x]) l2 (by rw [List.map_cons]; exact atI_0)
    refine ⟨s2, ?_, g1.trans g2⟩
    rw [q]
    unfold F__law_due fnF g__law_due
    simp [seqW_l h, c1, k1, cn, i]
  | nil =>
    rw [e2] at l2 cn
    have d := c2 s2 h2
    have l3 := lstOf_new (st := s2) (ws := (nums ws).map Wv.int)
    have g3 : Gr s2 (s2 ++ [.lst ((nums ws).map Wv.int)]) := Gr.push
    generalize s2 ++ [.lst ((nums ws).map Wv.int)] = s3 at d l3 g3
    have nl := nums_len ws
    have so := srt2_i l3 (by omega)
    have l4 := lstOf_new (st := s3) (ws := (srtI (nums ws)).map Wv.int)
    have g4 : Gr s3 (s3 ++ [.lst ((srtI (nums ws)).map Wv.int)]) := Gr.push
    generalize s3 ++ [.lst ((srtI (nums ws)).map Wv.int)] = s4 at so l4 g4
    have g14 := g1.trans (g2.trans (g3.trans g4))
    have hp := srtI_perm (nums ws)
    have ln := len_l l4
    rw [List.length_map, hp.length_eq] at ln
    obtain ⟨o5, sm⟩ := forL_sum (b := none) (o0 := some (.str wd.s)) (o1 := some (.ref l)) (o2 := some (.ref st.length)) (o3 := some (.ref s3.length)) l4 (srtI (nums ws)) 0 none
    rw [Int.zero_add, sum_perm hp] at sm
    have g5 : Gr s4 (s4 ++ [.lst []]) := Gr.push
    have n5 : lstOf (s4 ++ [.lst []]) s4.length = some [] := lstOf_new
    have l5 := g5.lst l4
    have k5 := k0 s4
    generalize s4 ++ [.lst []] = s5 at g5 n5 l5 k5
    have ce := (cmp_nil (by rw [nums_w] at l5; exact l5) n5).1
    unfold due
    rw [e2]
    unfold F__law_due fnF g__law_due
    cases wd with
    | sum =>
      refine ⟨s4, ?_, g14⟩
      dsimp only [Word.s] at sm ⊢
      unfold bnd
      by_cases p1 : P60 < (nums ws).sum
      · rw [if_pos (by split <;> omega)]
        simp [seqW_l h, c1, k1, cn, seqW_l h2, d, so, Word.s, s_ss, kFor_l l4, sm, p60, p1]
      · by_cases p2 : (nums ws).sum < -P60
        · rw [if_pos (by split <;> omega)]
          simp [seqW_l h, c1, k1, cn, seqW_l h2, d, so, Word.s, s_ss, kFor_l l4, sm, p60, p1, p2]
        · rw [if_neg (by split <;> omega)]
          simp [seqW_l h, c1, k1, cn, seqW_l h2, d, so, Word.s, s_ss, kFor_l l4, sm, p60, p1, p2]
    | count =>
      refine ⟨s4, ?_, g14⟩
      simp [seqW_l h, c1, k1, cn, seqW_l h2, d, so, Word.s, s_cs, s_cc, ln]
    | least =>
      refine ⟨s5, ?_, g14.trans g5⟩
      have bi : oInt2 [.bl false] s5 = .ok (.int 0) s5 := rfl
      have bb : (("least" : PySem.Str) == "greatest") = false := rfl
      cases en : nums ws with
      | nil =>
        rw [en] at ce
        have ce' : oEq (.ref s3.length) (.ref s4.length) s5 = .ok (.bl true) s5 := ce
        simp [seqW_l h, c1, k1, cn, seqW_l h2, d, so, Word.s, s_ls, s_lc, k5, ce']
      | cons n r =>
        rw [en] at ce l5
        obtain ⟨a, t, ea⟩ := srt_cons n r
        have ha := srt_head ea
        have ce' : oEq (.ref s3.length) (.ref s4.length) s5 = .ok (.bl false) s5 := by rw [ea] at ce; exact ce
        have x0 : oIx (.ref s3.length) (.int 0) s5 = .ok (.int (mnI n r)) s5 := ix_l l5 (by rw [ea, List.map_cons, ha]; exact atI_0)
        have bm : bnd (mnI n r) = .int (mnI n r) := bnd_i (ok2 _ (by rw [en, ← ha]; exact (srtI_perm (n :: r)).mem_iff.mp (by rw [ea]; exact List.mem_cons_self)))
        simp [seqW_l h, c1, k1, cn, seqW_l h2, d, so, Word.s, s_ls, s_lc, k5, ce', bi, bb, x0, bm]
    | greatest =>
      refine ⟨s5, ?_, g14.trans g5⟩
      have bi : oInt2 [.bl true] s5 = .ok (.int 1) s5 := rfl
      have bb : (("greatest" : PySem.Str) == "greatest") = true := rfl
      cases en : nums ws with
      | nil =>
        rw [en] at ce
        have ce' : oEq (.ref s3.length) (.ref s4.length) s5 = .ok (.bl true) s5 := ce
        simp [seqW_l h, c1, k1, cn, seqW_l h2, d, so, Word.s, s_gs, s_gc, k5, ce']
      | cons n r =>
        rw [en] at ce l5
        obtain ⟨a, t, ea⟩ := srt_cons n r
        have ce' : oEq (.ref s3.length) (.ref s4.length) s5 = .ok (.bl false) s5 := by rw [ea] at ce; exact ce
        obtain ⟨t2, b, eb⟩ : ∃ t b, srtI (n :: r) = t ++ [b] := ⟨_, _, (List.dropLast_concat_getLast (l := srtI (n :: r)) (by rw [ea]; simp)).symm⟩
        have hb := srt_last eb
        have x1 : oIx (.ref s3.length) (.int (-1)) s5 = .ok (.int (mxI n r)) s5 := ix_l l5 (by rw [eb, List.map_append, hb]; exact atI_last)
        have bm : bnd (mxI n r) = .int (mxI n r) := bnd_i (ok2 _ (by rw [en, ← hb]; exact (srtI_perm (n :: r)).mem_iff.mp (by rw [eb]; simp)))
        simp [seqW_l h, c1, k1, cn, seqW_l h2, d, so, Word.s, s_gs, s_gc, k5, ce', bi, bb, x1, bm]
theorem due_shape (wd : Word) (ws : List Wo) : (∃ i, due wd ws = .int i) ∨ ∃ a b, due wd ws = .tup [.str a, .str b] := by
  have bs : ∀ i, (∃ j, bnd i = .int j) ∨ ∃ a b, bnd i = .tup [.str a, .str b] := fun i => by
    unfold bnd
    by_cases c : P60 < (if i < 0 then -i else i)
    · rw [if_pos c]; exact .inr ⟨_, _, rfl⟩
    · rw [if_neg c]; exact .inl ⟨_, rfl⟩
  unfold due
  cases flts ws with
  | cons x r => exact .inr ⟨_, _, rfl⟩
  | nil =>
    cases wd with
    | sum => exact bs _
    | count => exact .inl ⟨_, rfl⟩
    | least =>
      cases nums ws with
      | nil => exact .inr ⟨_, _, rfl⟩
      | cons n r => exact bs _
    | greatest =>
      cases nums ws with
      | nil => exact .inr ⟨_, _, rfl⟩
      | cons n r => exact bs _
theorem same_due (wd : Word) (ws : List Wo) (st : Hs) : F__law_same [due wd ws, due wd ws] st = .ok (.bl true) st := by
  rcases due_shape wd ws with ⟨i, e⟩ | ⟨a, b, e⟩
  · rw [e]
    have t1 : oIsA tbl tblT [.int i, .ty "bool"] st = .ok (.bl false) st := rfl
    have t2 : oIsA tbl tblT [.int i, .ty "int"] st = .ok (.bl true) st := rfl
    have t3 : oIsA tbl tblT [.int i, .ty "str"] st = .ok (.bl false) st := rfl
    have t4 : oIsA tbl tblT [.int i, .ty "tuple"] st = .ok (.bl false) st := rfl
    unfold F__law_same fnF g__law_same
    simp [t1, t2, t3, t4]
  · rw [e]
    have t1 : oIsA tbl tblT [.tup [.str a, .str b], .ty "bool"] st = .ok (.bl false) st := rfl
    have t2 : oIsA tbl tblT [.tup [.str a, .str b], .ty "int"] st = .ok (.bl false) st := rfl
    have t3 : oIsA tbl tblT [.tup [.str a, .str b], .ty "str"] st = .ok (.bl false) st := rfl
    have t4 : oIsA tbl tblT [.tup [.str a, .str b], .ty "tuple"] st = .ok (.bl true) st := rfl
    have t5 : oEq (.tup [.str a, .str b]) (.tup [.str a, .str b]) st = .ok (.bl true) st := eq_dat rfl rfl eqv_ss
    unfold F__law_same fnF g__law_same
    simp [t1, t2, t3, t4, t5]
theorem listD_l {l : Nat} {ws : List Wv} {st : Hs} (h : lstOf st l = some ws) : oListD [.ref l] st = .ok (.ref st.length) (st ++ [.lst ws]) := by
  have e : oListC [.ref l] st = .ok (.ref st.length) (st ++ [.lst ws]) := by
    show (match lstOf st l with | some ws => Re.ok (Wv.ref st.length) (st ++ [Ob.lst ws]) | none => .bad) = _
    rw [h]
  show (match st[l]? with | some (.dcT kvs) => (match keysI (List.map (fun x : List L2.Key × Wv => x.1) kvs) with | some ws => Re.ok (Wv.ref st.length) (st ++ [Ob.lst ws]) | none => .bad) | _ => oListC [.ref l] st) = _
  cases q : st[l]? with
  | none => exact e
  | some o =>
    cases o with
    | dcT kvs =>
      unfold lstOf at h
      rw [q] at h
      cases h
    | _ => exact e
theorem mul_rep {l : Nat} {v : Wv} {k : Int} {st : Hs} (h : st[l]? = some (.lst [v])) (k0 : 0 ≤ k) (k1 : k < 5) : oMulL (.ref l) (.int k) st = .ok (.ref st.length) (st ++ [.lst (List.replicate k.toNat v)]) := by
  show (match st[l]? with | some (.lst ws) => if CRep ws.length k then Re.ok (Wv.ref st.length) (st ++ [Ob.lst (List.replicate k.toNat ws).flatten]) else .bad | _ => .bad) = _
  rw [h]
  dsimp only
  rw [if_pos ⟨by omega, by omega, by show 1 * k.toNat ≤ lim; unfold lim; omega⟩]
  congr 3
  rw [Ob.lst.injEq]
  generalize k.toNat = n
  induction n with
  | zero => rfl
  | succ n ih => rw [List.replicate_succ, List.flatten_cons, ih]; rfl
def wds : List Word := [.sum, .count, .least, .greatest]
def R (r : Nat × Nat × Nat × Nat) (o2 o6 o7 o8 : Option Wv) : Rho := [some (.ref 0), some (.ref r.1), o2, some (.ref r.2.1), some (.ref r.2.2.1), some (.ref r.2.2.2), o6, o7, o8]
theorem turn2 {r : Nat × Nat × Nat × Nat} {o2 : Option Wv} {a b : Nat} {wd : Word} {ws : List Wo} {st : Hs} (h1 : lstOf st a = some (ws.map Wo.w)) (h2 : lstOf st b = some (ws.map Wo.w)) (hl : ws.length < 100) (hok : ∀ a ∈ ws, a.Ok) : ∃ st', g_law_L2 (R r o2 (some (.ref a)) (some (.ref b)) (some (.str wd.s))) st = .nx (R r o2 (some (.ref a)) (some (.ref b)) (some (.str wd.s))) st' ∧ Gr st st' := by
  obtain ⟨s1, e1, g1⟩ := gather (wd := wd) h2 hl
  obtain ⟨s2, e2, g2⟩ := due_is (wd := wd) (g1.lst h1) hl hok
  have g := g1.trans g2
  have sm := same_due wd ws s2
  have ne := ne_ws (g.lst h2) (g.lst h1)
  refine ⟨s2, ?_, g⟩
  unfold g_law_L2 R
  simp [e1, e2, sm, ne]
theorem turn1 {r : Nat × Nat × Nat × Nat} {o2 o7 o8 : Option Wv} {a : Nat} {ws : List Wo} {st : Hs} (h1 : lstOf st a = some (ws.map Wo.w)) (hl : ws.length < 100) (hok : ∀ a ∈ ws, a.Ok) : ∃ o7' o8' st', g_law_L1 (R r o2 (some (.ref a)) o7 o8) st = .nx (R r o2 (some (.ref a)) o7' o8') st' ∧ Gr st st' := by
  have e1 := listD_l h1
  have l1 := lstOf_new (st := st) (ws := ws.map Wo.w)
  have g1 : Gr st (st ++ [.lst (ws.map Wo.w)]) := Gr.push
  have k1 := kLst_4 (x0 := .str "sum") (x1 := .str "count") (x2 := .str "least") (x3 := .str "greatest") (st := st ++ [.lst (ws.map Wo.w)])
  generalize st ++ [.lst (ws.map Wo.w)] = s1 at e1 l1 g1 k1
  have l2 := lstOf_new (st := s1) (ws := [.str "sum", .str "count", .str "least", .str "greatest"])
  have g2 : Gr s1 (s1 ++ [.lst [.str "sum", .str "count", .str "least", .str "greatest"]]) := Gr.push
  generalize s1 ++ [.lst [.str "sum", .str "count", .str "least", .str "greatest"]] = s2 at k1 l2 g2
  obtain ⟨ρ', s3, e3, ⟨⟨o8', rfl⟩, g3⟩, _⟩ := forL_map (fun wd : Word => Wv.str wd.s) (i := 8) (gb := g_law_L2) (l := s1.length) (all := [.str "sum", .str "count", .str "least", .str "greatest"]) wds
    (fun _ ρ s => (∃ o8, ρ = R r o2 (some (.ref a)) (some (.ref st.length)) o8) ∧ Gr s2 s) (by
      rintro wd pre post _ s _ ⟨⟨o8, rfl⟩, g⟩ hs
      have g' := g2.trans g
      obtain ⟨s', e, g''⟩ := turn2 (r := r) (o2 := o2) (a := a) (b := st.length) (wd := wd) ((g1.trans g').lst h1) (g'.lst l1) hl hok
      exact ⟨_, s', e, g''.lst hs, ⟨_, rfl⟩, g.trans g''⟩) wds [] (R r o2 (some (.ref a)) (some (.ref st.length)) o8) s2 rfl ⟨⟨_, rfl⟩, Gr.refl⟩ l2
  refine ⟨some (.ref st.length), o8', s3, ?_, g1.trans (g2.trans g3)⟩
  unfold g_law_L1 R at *
  have e3' : forL 8 g_law_L2 s1.length [.str "sum", .str "count", .str "least", .str "greatest"] [.str "sum", .str "count", .str "least", .str "greatest"] [some (.ref 0), some (.ref r.1), o2, some (.ref r.2.1), some (.ref r.2.2.1), some (.ref r.2.2.2), some (.ref a), some (.ref st.length), o8] s2 = _ := e3
  simp [e1, k1, kFor_l l2, e3']
def P64 : Int := 10 ^ (64 : Int).toNat
theorem m128 {st : Hs} : oPow (.int 10) (.int 64) st = .ok (.int P64) st ∧ oMulL (.int P64) (.int P64) st = .ok (.int (P64 * P64)) st := ⟨pow_i (by decide), mul_i (by decide +kernel)⟩
theorem turn3 {n : Int} {ws : List Wo} {st : Hs} {ρt : Rho} (h1 : st[1]? = some (.lst (ws.map Wo.w))) (hl : ws.length < 64) : ∃ (a : Wo) (st' : Hs), g_law_L3 (some (.ref 0) :: some (.ref 1) :: some (.int n) :: ρt) st = .nx (some (.ref 0) :: some (.ref 1) :: some (.int n) :: ρt) st' ∧ a.Ok ∧ st'[1]? = some (.lst ((ws ++ [a]).map Wo.w)) ∧ Keep 1 st st' := by
  have lt := get_lt h1
  obtain ⟨p1, p2⟩ := m128 (st := st)
  have md : oMod (.int n) (.int (P64 * P64)) st = .ok (.int (n.fmod (P64 * P64))) st := mod_i (by decide +kernel)
  have q1 : (st ++ [.lst [.int (n.fmod (P64 * P64))]])[st.length]? = some (.lst [.int (n.fmod (P64 * P64))]) := new_get
  have g1 : Gr st (st ++ [.lst [.int (n.fmod (P64 * P64))]]) := Gr.push
  have k1 := kLst_1 (x0 := .int (n.fmod (P64 * P64))) (st := st)
  generalize st ++ [.lst [.int (n.fmod (P64 * P64))]] = s1 at q1 g1 k1
  generalize n.fmod (P64 * P64) = v at q1 k1 md
  obtain ⟨a, s2, n', e2, k2, _, ok⟩ := worth q1
  have g2 : Gr st s2 := Gr.keepAt (Nat.le_refl _) g1 k2
  have ap := app_l (v := a.w) (g2.get h1) (by rw [List.length_map]; unfold lim; omega)
  have km := kMeth_l (mt := mApp) (ga := gCall 1 F__law_worth (gCons (gLst (gCons (gBin oMod (gVar 2) (gBin oMulL (gBin oPow (gC (.int 10)) (gC (.int 64))) (gBin oPow (gC (.int 10)) (gC (.int 64))))) gNil)) gNil)) (ρ := some (.ref 0) :: some (.ref 1) :: some (.int n) :: ρt) (lst_get h1)
  refine ⟨a, s2.set 1 (.lst (ws.map Wo.w ++ [a.w])), ?_, ok, ?_, g2.keep.trans Keep.set⟩
  · unfold g_law_L3
    simp [km, p1, p2, md, k1, e2, ap]
  · rw [set_get (g2.get h1), List.map_append]
    rfl
theorem plain_flt : ∀ a : List Wo, (a.map Wo.w).filter (fun v => match v with | .tup _ => false | _ => true) = (a.filter fun x => !x.f).map Wo.w
  | [] => rfl
  | x :: r => by
    have := plain_flt r
    cases x <;> simp [Wo.w, Wo.f, this]
theorem rep_w (n : Nat) (i : Int) : List.replicate n (Wv.int i) = (List.replicate n (Wo.int i)).map Wo.w := by rw [List.map_replicate]; rfl
theorem law_true : ∀ ns : List Int, ns.length ≤ 63 → ∃ st, F_law [.ref 0] [.scr ns] = .ok (.bl true) st := by
  intro ns hn
  have l0 : lstOf ([Ob.scr ns] ++ [.lst []]) 0 = some (ns.map Wv.int) := rfl
  obtain ⟨ρ1, s1, e1, ⟨ws, o2, rfl, h1, hlen, hok⟩, l1⟩ := forL_map Wv.int (i := 2) (gb := g_law_L3) (l := 0) (all := ns.map Wv.int) ns
    (fun pre ρ st => ∃ ws o2, ρ = [some (.ref 0), some (.ref 1), o2, none, none, none, none, none, none] ∧ st[1]? = some (.lst (List.map Wo.w ws)) ∧ ws.length = pre.length ∧ ∀ a ∈ ws, a.Ok) (by
      rintro n pre post _ s hf ⟨ws, o2, rfl, h1, hlen, hok⟩ hs
      have hl : ws.length < 64 := by
        have := congrArg List.length hf
        simp at this
        omega
      obtain ⟨a, s', e, ok, h1', k⟩ := turn3 (n := n) (ρt := [none, none, none, none, none, none]) h1 hl
      refine ⟨_, s', e, k.lst hs (by decide), ws ++ [a], _, rfl, h1', by simp [hlen], fun b hb => ?_⟩
      rcases List.mem_append.mp hb with z | z
      · exact hok b z
      · rw [List.mem_singleton.mp z]; exact ok) ns [] [some (.ref 0), some (.ref 1), none, none, none, none, none, none, none] ([Ob.scr ns] ++ [.lst []]) rfl ⟨[], none, rfl, rfl, rfl, fun _ z => by cases z⟩ l0
  have w1 := lst_get h1
  have nl := nums_len ws
  -- the plain ones
  have c1 : ∀ ρ, compRun [] g_law_C2t g_law_C2e ρ (some 1, ws.map Wo.w) s1 = .ok (.ref s1.length) (s1 ++ [.lst ((ws.filter fun x => !x.f).map Wo.w)]) := by
    intro ρ
    rw [comp_pure (w := (some 1, ws.map Wo.w)) (t := fun v => match v with | .tup _ => false | _ => true) (f := id) w1]
    · rw [List.map_id]; exact congrArg (fun z => Re.ok (Wv.ref s1.length) (s1 ++ [Ob.lst z])) (plain_flt ws)
    · intro v hv acc
      obtain ⟨a, _, rfl⟩ := List.mem_map.mp hv
      unfold g_law_C2t
      simp [isT]
      cases a <;> rfl
    · intro v hv _ acc
      rfl
    · simp; unfold lim; omega
  have l2 := lstOf_new (st := s1) (ws := (ws.filter fun x => !x.f).map Wo.w)
  have g2 : Gr s1 (s1 ++ [.lst ((ws.filter fun x => !x.f).map Wo.w)]) := Gr.push
  generalize s1 ++ [.lst ((ws.filter fun x => !x.f).map Wo.w)] = s2 at c1 l2 g2
  have w2 := g2.lst w1
  have c2 : ∀ ρ, compRun [] g_law_C1t g_law_C1e ρ (some 1, ws.map Wo.w) s2 = .ok (.ref s2.length) (s2 ++ [.lst ((nums ws).map Wv.int)]) := by
    intro ρ
    rw [comp_pure (w := (some 1, ws.map Wo.w)) (t := fun v => match v with | .int _ => true | _ => false) (f := id) w2]
    · rw [List.map_id]; exact congrArg (fun z => Re.ok (Wv.ref s2.length) (s2 ++ [Ob.lst z])) (nums_flt ws)
    · intro v hv acc
      obtain ⟨a, _, rfl⟩ := List.mem_map.mp hv
      unfold g_law_C1t
      simp [isI]
      cases a <;> rfl
    · intro v hv _ acc
      rfl
    · simp; unfold lim; omega
  have l3 := lstOf_new (st := s2) (ws := (nums ws).map Wv.int)
  have g3 : Gr s2 (s2 ++ [.lst ((nums ws).map Wv.int)]) := Gr.push
  generalize s2 ++ [.lst ((nums ws).map Wv.int)] = s3 at c2 l3 g3
  -- the far ones
  have f0 := Int.fmod_nonneg_of_pos (ns.length : Int) (b := 5) (by decide)
  have f1 := Int.fmod_lt_of_pos (ns.length : Int) (b := 5) (by decide)
  have md : ∀ st : Hs, oMod (.int (ns.length : Nat)) (.int 5) st = .ok (.int ((ns.length : Int).fmod 5)) st := fun st => mod_i (by decide)
  generalize (ns.length : Int).fmod 5 = k at f0 f1 md
  have k1 := kLst_1 (x0 := .int P60) (st := s3)
  have q4 : (s3 ++ [.lst [.int P60]])[s3.length]? = some (.lst [.int P60]) := new_get
  have g4 : Gr s3 (s3 ++ [.lst [.int P60]]) := Gr.push
  generalize s3 ++ [.lst [.int P60]] = s4 at k1 q4 g4
  have m4 := mul_rep q4 f0 f1
  have l5 := lstOf_new (st := s4) (ws := List.replicate k.toNat (.int P60))
  have g5 : Gr s4 (s4 ++ [.lst (List.replicate k.toNat (.int P60))]) := Gr.push
  generalize s4 ++ [.lst (List.replicate k.toNat (.int P60))] = s5 at m4 l5 g5
  have a5 := add_l l5 ((g4.trans g5).lst l3) (by rw [List.length_replicate, List.length_map]; unfold lim; omega)
  have l6 := lstOf_new (st := s5) (ws := List.replicate k.toNat (.int P60) ++ (nums ws).map Wv.int)
  have g6 : Gr s5 (s5 ++ [.lst (List.replicate k.toNat (.int P60) ++ (nums ws).map Wv.int)]) := Gr.push
  generalize s5 ++ [.lst (List.replicate k.toNat (.int P60) ++ (nums ws).map Wv.int)] = s6 at a5 l6 g6
  have k6 := kLst_1 (x0 := .int (-P60)) (st := s6)
  have q7 : (s6 ++ [.lst [.int (-P60)]])[s6.length]? = some (.lst [.int (-P60)]) := new_get
  have g7 : Gr s6 (s6 ++ [.lst [.int (-P60)]]) := Gr.push
  generalize s6 ++ [.lst [.int (-P60)]] = s7 at k6 q7 g7
  have m7 := mul_rep q7 f0 f1
  have l8 := lstOf_new (st := s7) (ws := List.replicate k.toNat (.int (-P60)))
  have g8 : Gr s7 (s7 ++ [.lst (List.replicate k.toNat (.int (-P60)))]) := Gr.push
  generalize s7 ++ [.lst (List.replicate k.toNat (.int (-P60)))] = s8 at m7 l8 g8
  have a8 := add_l ((g7.trans g8).lst l6) l8 (by rw [List.length_append, List.length_replicate, List.length_map, List.length_replicate]; unfold lim; omega)
  have e9 : (List.replicate k.toNat (Wv.int P60) ++ (nums ws).map Wv.int) ++ List.replicate k.toNat (.int (-P60)) = (List.replicate k.toNat (Wo.int P60) ++ (nums ws).map Wo.int ++ List.replicate k.toNat (Wo.int (-P60))).map Wo.w := by
    rw [List.map_append, List.map_append, ← rep_w, ← rep_w, ← nums_w]
  rw [e9] at a8
  have l9 := lstOf_new (st := s8) (ws := (List.replicate k.toNat (Wo.int P60) ++ (nums ws).map Wo.int ++ List.replicate k.toNat (Wo.int (-P60))).map Wo.w)
  have g9 : Gr s8 (s8 ++ [.lst ((List.replicate k.toNat (Wo.int P60) ++ (nums ws).map Wo.int ++ List.replicate k.toNat (Wo.int (-P60))).map Wo.w)]) := Gr.push
  have farl : (List.replicate k.toNat (Wo.int P60) ++ (nums ws).map Wo.int ++ List.replicate k.toNat (Wo.int (-P60))).length < 100 := by
    rw [List.length_append, List.length_append, List.length_replicate, List.length_replicate, List.length_map]
    omega
  have faro : ∀ a ∈ List.replicate k.toNat (Wo.int P60) ++ (nums ws).map Wo.int ++ List.replicate k.toNat (Wo.int (-P60)), a.Ok := fun a ha => by
    rcases List.mem_append.mp ha with z | z
    · rcases List.mem_append.mp z with z | z
      · rw [(List.mem_replicate.mp z).2]
        exact ⟨by decide +kernel, by decide +kernel⟩
      · obtain ⟨i, hi, rfl⟩ := List.mem_map.mp z
        exact nums_ok hok i hi
    · rw [(List.mem_replicate.mp z).2]
      exact ⟨by decide +kernel, by decide +kernel⟩
  generalize List.replicate k.toNat (Wo.int P60) ++ (nums ws).map Wo.int ++ List.replicate k.toNat (Wo.int (-P60)) = far at a8 l9 g9 farl faro
  generalize s8 ++ [.lst (far.map Wo.w)] = s9 at a8 l9 g9
  -- none, and what is no number
  have k9 := kLst_0 (st := s9)
  have l10 := lstOf_new (st := s9) (ws := [])
  have g10 : Gr s9 (s9 ++ [.lst []]) := Gr.push
  generalize s9 ++ [.lst []] = s10 at k9 l10 g10
  have k10 := kLst_2 (x0 := .non) (x1 := .str "a") (st := s10)
  have l11 := lstOf_new (st := s10) (ws := [.non, .str "a"])
  have g11 : Gr s10 (s10 ++ [.lst [.non, .str "a"]]) := Gr.push
  generalize s10 ++ [.lst [.non, .str "a"]] = s11 at k10 l11 g11
  have k11 := kLst_6 (x0 := .ref 1) (x1 := .ref s1.length) (x2 := .ref s2.length) (x3 := .ref s8.length) (x4 := .ref s9.length) (x5 := .ref s10.length) (st := s11)
  have l12 := lstOf_new (st := s11) (ws := [.ref 1, .ref s1.length, .ref s2.length, .ref s8.length, .ref s9.length, .ref s10.length])
  have g12 : Gr s11 (s11 ++ [.lst [.ref 1, .ref s1.length, .ref s2.length, .ref s8.length, .ref s9.length, .ref s10.length]]) := Gr.push
  generalize s11 ++ [.lst [.ref 1, .ref s1.length, .ref s2.length, .ref s8.length, .ref s9.length, .ref s10.length]] = s12 at k11 l12 g12
  have h11 := g11.trans g12
  have h10 := g10.trans h11
  have h9 := g9.trans h10
  have h3 := g4.trans (g5.trans (g6.trans (g7.trans (g8.trans h9))))
  have h2 := g3.trans h3
  have all : ∀ x ∈ [((1 : Nat), ws), (s1.length, ws.filter fun x => !x.f), (s2.length, (nums ws).map Wo.int), (s8.length, far), (s9.length, []), (s10.length, [Wo.non, Wo.txt "a"])], lstOf s12 x.1 = some (x.2.map Wo.w) ∧ x.2.length < 100 ∧ ∀ a ∈ x.2, a.Ok := by
    intro x hx
    simp only [List.mem_cons, List.not_mem_nil, or_false] at hx
    rcases hx with rfl | rfl | rfl | rfl | rfl | rfl
    · exact ⟨(g2.trans h2).lst w1, by show ws.length < 100; omega, hok⟩
    · refine ⟨h2.lst l2, ?_, fun a ha => hok a (List.mem_filter.mp ha).1⟩
      have := List.length_filter_le (fun x : Wo => !x.f) ws
      show (ws.filter fun x => !x.f).length < 100
      omega
    · refine ⟨?_, by show ((nums ws).map Wo.int).length < 100; rw [List.length_map]; omega, fun a ha => ?_⟩
      · show lstOf s12 s2.length = some (((nums ws).map Wo.int).map Wo.w)
        rw [← nums_w]
        exact h3.lst l3
      · obtain ⟨i, hi, rfl⟩ := List.mem_map.mp ha
        exact nums_ok hok i hi
    · exact ⟨h10.lst l9, farl, faro⟩
    · exact ⟨h11.lst l10, by show 0 < 100; omega, fun a ha => by cases ha⟩
    · refine ⟨g12.lst l11, by show 2 < 100; omega, fun a ha => ?_⟩
      simp only [List.mem_cons, List.not_mem_nil, or_false] at ha
      rcases ha with rfl | rfl
      · trivial
      · show ("a" : PySem.Str).length ≤ 200
        decide +kernel
  obtain ⟨ρ2, s13, e13, ⟨⟨o6, o7, o8, rfl⟩, _⟩, _⟩ := forL_map (fun x : Nat × List Wo => Wv.ref x.1) (i := 6) (gb := g_law_L1) (l := s11.length) (all := [.ref 1, .ref s1.length, .ref s2.length, .ref s8.length, .ref s9.length, .ref s10.length]) [((1 : Nat), ws), (s1.length, ws.filter fun x => !x.f), (s2.length, (nums ws).map Wo.int), (s8.length, far), (s9.length, []), (s10.length, [Wo.non, Wo.txt "a"])]
    (fun _ ρ s => (∃ o6 o7 o8, ρ = R (1, s1.length, s2.length, s8.length) o2 o6 o7 o8) ∧ Gr s12 s) (by
      rintro x pre post _ s hf ⟨⟨o6, o7, o8, rfl⟩, g⟩ hs
      obtain ⟨x1, x2, x3⟩ := all x (by rw [hf]; simp)
      obtain ⟨o7', o8', s', e, g'⟩ := turn1 (r := (1, s1.length, s2.length, s8.length)) (o2 := o2) (o7 := o7) (o8 := o8) (g.lst x1) x2 x3
      exact ⟨_, s', e, g'.lst hs, ⟨_, _, _, rfl⟩, g.trans g'⟩) [((1 : Nat), ws), (s1.length, ws.filter fun x => !x.f), (s2.length, (nums ws).map Wo.int), (s8.length, far), (s9.length, []), (s10.length, [Wo.non, Wo.txt "a"])] [] (R (1, s1.length, s2.length, s8.length) o2 none none none) s12 rfl ⟨⟨_, _, _, rfl⟩, Gr.refl⟩ l12
  refine ⟨s13, fn_rt (n := 9) (g := g_law) ?_⟩
  have ln : ∀ s, Gr s1 s → oLen [.ref 0] s = .ok (.int (ns.length : Nat)) s := fun s g => by
    have := len_l (g.lst l1)
    rwa [List.length_map] at this
  have ln4 := ln s4 (g2.trans (g3.trans g4))
  have ln7 := ln s7 (g2.trans (g3.trans (g4.trans (g5.trans (g6.trans g7)))))
  unfold R at e13
  have e13' : forL 6 g_law_L1 s11.length [.ref 1, .ref s1.length, .ref s2.length, .ref s8.length, .ref s9.length, .ref s10.length] [.ref 1, .ref s1.length, .ref s2.length, .ref s8.length, .ref s9.length, .ref s10.length] [some (.ref 0), some (.ref 1), o2, some (.ref s1.length), some (.ref s2.length), some (.ref s8.length), none, none, none] s12 = _ := e13
  have e1' : forL 2 g_law_L3 0 (ns.map Wv.int) (ns.map Wv.int) [some (.ref 0), some (.ref 1), none, none, none, none, none, none, none] [.scr ns, .lst []] = _ := e1
  have l0' : lstOf [Ob.scr ns, .lst []] 0 = some (ns.map Wv.int) := rfl
  unfold g_law
  simp [kFor_l l0', e1', seqW_l w1, c1, seqW_l w2, c2, p60, k1, ln4, md, m4, a5, k6, ln7, m7, a8, k9, k10, k11, kFor_l l12, e13']
end K16
def PySem.W.Fast.tw1823085921162541684 : Unit := ()
def PySem.W.Fast.tw12037945804545199575 : Unit := ()
def PySem.W.Fast.tw6840079816029361836 : Unit := ()
def PySem.W.Fast.tw713237397753011917 : Unit := ()
def PySem.W.Fast.tw8500397227317847445 : Unit := ()
def PySem.W.Fast.tw14345364242146012552 : Unit := ()
namespace K16
open PySem PySem.W PyProof.Rows
set_option maxHeartbeats 0 in
open_top head for PySem.Challenge.rw_onelook_k16_worths_gathered
end K16
namespace K16
open PySem J
open L2 (defScope defBody defArgs FnScope CX0 FnOk XK Hp)
theorem all_mk {l : PySem.W.OpenLaw} {w : World} {K : PySem.W.Frag} {h : Heap} {mg : Str → Option Value} {fa : Addr} (X : K.In h) (G : h.Ns mainGlobals mg) (hfa : mg "law" = some (.ref fa))
    (d1 : J.DefAt K "_law_digit" s__law_digit)
    (d2 : J.DefAt K "_law_worth" s__law_worth)
    (d3 : J.DefAt K "_law_same" s__law_same)
    (d4 : J.DefAt K "is_great" s_is_great)
    (d5 : J.DefAt K "fault" s_fault)
    (d6 : J.DefAt K "bounded" s_bounded)
    (d7 : J.DefAt K "is_fault" s_is_fault)
    (d8 : J.DefAt K "gathered" s_gathered)
    (d9 : J.DefAt K "_law_due" s__law_due)
    (d10 : J.DefAt K "law" s_law)
    (z0 : PySem.W.nsIn K mainGlobals "isinstance" = some none)
    (z1 : PySem.W.nsIn K mainGlobals "bool" = some none)
    (z2 : PySem.W.nsIn K mainGlobals "int" = some none)
    (z3 : PySem.W.nsIn K mainGlobals "str" = some none)
    (z4 : PySem.W.nsIn K mainGlobals "tuple" = some none)
    (z5 : PySem.W.nsIn K mainGlobals "abs" = some none)
    (z6 : PySem.W.nsIn K mainGlobals "len" = some none)
    (z7 : PySem.W.nsIn K mainGlobals "sum" = some none)
    (z8 : PySem.W.nsIn K mainGlobals "min" = some none)
    (z9 : PySem.W.nsIn K mainGlobals "max" = some none)
    (z10 : PySem.W.nsIn K mainGlobals "sorted" = some none)
    (z11 : PySem.W.nsIn K mainGlobals "list" = some none)
     :
    ∃ fd : FuncData, (∀ (s : Shared) (u : Value), BindsTo s fd ⟨[u], []⟩ [("script", u)]) ∧ ∀ base : Heap, K.In base → base.Ns mainGlobals mg → FnOk l.prog w K mg base (CXJ l.prog w) 4 fa fd ["script"] (spW K 1 F_law) := by
  refine J.law_has X G hfa d10 (fun _ _ _ _ _ _ s u => .of_eq rfl) (fun f fd Fu base kb nb => ?_)
  have Z0 := PySem.W.mg_none_of kb nb z0
  have Z1 := PySem.W.mg_none_of kb nb z1
  have Z2 := PySem.W.mg_none_of kb nb z2
  have Z3 := PySem.W.mg_none_of kb nb z3
  have Z4 := PySem.W.mg_none_of kb nb z4
  have Z5 := PySem.W.mg_none_of kb nb z5
  have Z6 := PySem.W.mg_none_of kb nb z6
  have Z7 := PySem.W.mg_none_of kb nb z7
  have Z8 := PySem.W.mg_none_of kb nb z8
  have Z9 := PySem.W.mg_none_of kb nb z9
  have Z10 := PySem.W.mg_none_of kb nb z10
  have Z11 := PySem.W.mg_none_of kb nb z11
  have TB : TabOk K tbl tblT tblC := J.tab_mk trivial trivial trivial
  have H1 : J.Has l.prog w K mg base 1 "_law_digit" 2 F__law_digit := J.has_def (ps := ["row", "many"]) kb nb d1 (J.topOk_mk (c := c__law_digit) (k := 0) trivial trivial trivial TB trivial trivial trivial) sc__law_digit rfl r__law_digit (fun _ _ _ _ _ _ us hl => J.ln2 us hl fun _ _ => rfl)
  have H2 : J.Has l.prog w K mg base 2 "_law_worth" 1 F__law_worth := J.has_def (ps := ["row"]) kb nb d2 (J.topOk_mk (c := c__law_worth) (k := 1) trivial trivial ⟨H1.mono (by decide), trivial⟩ TB trivial trivial trivial) sc__law_worth rfl r__law_worth (fun _ _ _ _ _ _ us hl => J.ln1 us hl fun _ => rfl)
  have H3 : J.Has l.prog w K mg base 1 "_law_same" 2 F__law_same := J.has_def (ps := ["one", "other"]) kb nb d3 (J.topOk_mk (c := c__law_same) (k := 0) trivial ⟨Z0, Z1, Z2, Z3, Z4, trivial⟩ trivial TB trivial trivial trivial) sc__law_same rfl r__law_same (fun _ _ _ _ _ _ us hl => J.ln2 us hl fun _ _ => rfl)
  have H4 : J.Has l.prog w K mg base 1 "is_great" 1 F_is_great := J.has_def (ps := ["number"]) kb nb d4 (J.topOk_mk (c := c_is_great) (k := 0) trivial ⟨Z5, trivial⟩ trivial TB trivial trivial trivial) sc_is_great rfl r_is_great (fun _ _ _ _ _ _ us hl => J.ln1 us hl fun _ => rfl)
  have H5 : J.Has l.prog w K mg base 1 "fault" 1 F_fault := J.has_def (ps := ["word"]) kb nb d5 (J.topOk_mk (c := c_fault) (k := 0) trivial trivial trivial TB trivial trivial trivial) sc_fault rfl r_fault (fun _ _ _ _ _ _ us hl => J.ln1 us hl fun _ => rfl)
  have H6 : J.Has l.prog w K mg base 2 "bounded" 1 F_bounded := J.has_def (ps := ["number"]) kb nb d6 (J.topOk_mk (c := c_bounded) (k := 1) trivial trivial ⟨H4.mono (by decide), H5.mono (by decide), trivial⟩ TB trivial trivial trivial) sc_bounded rfl r_bounded (fun _ _ _ _ _ _ us hl => J.ln1 us hl fun _ => rfl)
  have H7 : J.Has l.prog w K mg base 1 "is_fault" 1 F_is_fault := J.has_def (ps := ["worth"]) kb nb d7 (J.topOk_mk (c := c_is_fault) (k := 0) trivial ⟨Z0, Z4, trivial⟩ trivial TB trivial trivial trivial) sc_is_fault rfl r_is_fault (fun _ _ _ _ _ _ us hl => J.ln1 us hl fun _ => rfl)
  have H8 : J.Has l.prog w K mg base 3 "gathered" 2 F_gathered := J.has_def (ps := ["word", "worths"]) kb nb d8 (J.topOk_mk (c := c_gathered) (k := 2) trivial ⟨Z6, Z0, Z2, Z7, Z8, Z9, trivial⟩ ⟨H6.mono (by decide), H5.mono (by decide), H7.mono (by decide), trivial⟩ TB trivial trivial trivial) sc_gathered rfl r_gathered (fun _ _ _ _ _ _ us hl => J.ln2 us hl fun _ _ => rfl)
  have H9 : J.Has l.prog w K mg base 1 "_law_due" 2 F__law_due := J.has_def (ps := ["word", "worths"]) kb nb d9 (J.topOk_mk (c := c__law_due) (k := 0) trivial ⟨Z10, Z6, Z0, Z4, Z2, trivial⟩ trivial TB trivial trivial trivial) sc__law_due rfl r__law_due (fun _ _ _ _ _ _ us hl => J.ln2 us hl fun _ _ => rfl)
  exact J.fn_def Fu (J.topOk_mk (c := c_law) (k := 3) trivial ⟨Z11, Z0, Z2, Z4, Z6, trivial⟩ ⟨H2.mono (by decide), H3.mono (by decide), H8.mono (by decide), H9.mono (by decide), trivial⟩ TB trivial trivial trivial) sc_law rfl r_law
end K16
open PySem PySem.W PyProof.Rows
set_option maxRecDepth 100000 in
set_option maxHeartbeats 0 in
theorem PySem.Challenge.cw_onelook_k16_worths_gathered_holds : PySem.Challenge.rw_onelook_k16_worths_gathered.Holds := by
  refine K16.head ?_
  k_fill
  refine L2.walk_of (l := PySem.Challenge.rw_onelook_k16_worths_gathered) (n := 63) (k := 4) (x := "script") (CX := fun w => J.CXJ PySem.Challenge.rw_onelook_k16_worths_gathered.prog w) (sp := fun w => J.spW _ 1 K16.F_law) rfl (by decide) rfl ⟨rfl, by decide, by decide⟩ (fun w h Y => PySem.W.kIn_of Y) ?F (fun w H a ns hl hO hS => J.law_sp K16.law_true H a ns hl (J.OnlyT.of hO) hS (J.tb_none ?Ta ?Tb ?Tc)) (fun _ _ _ _ _ z => z.elim fun _ y => y.elim fun _ x => x.2)
  case F =>
    intro w mg fa h KX G hmg
    refine' K16.all_mk KX G hmg ?d1 ?d2 ?d3 ?d4 ?d5 ?d6 ?d7 ?d8 ?d9 ?d10 ?z0 ?z1 ?z2 ?z3 ?z4 ?z5 ?z6 ?z7 ?z8 ?z9 ?z10 ?z11
    (case d1 => refine' J.def_at ?a ?l ?c ?k; (case a => k_is); (case l => k_is); (case c => k_is); (case k => k_is))
    (case d2 => refine' J.def_at ?a ?l ?c ?k; (case a => k_is); (case l => k_is); (case c => k_is); (case k => k_is))
    (case d3 => refine' J.def_at ?a ?l ?c ?k; (case a => k_is); (case l => k_is); (case c => k_is); (case k => k_is))
    (case d4 => refine' J.def_at ?a ?l ?c ?k; (case a => k_is); (case l => k_is); (case c => k_is); (case k => k_is))
    (case d5 => refine' J.def_at ?a ?l ?c ?k; (case a => k_is); (case l => k_is); (case c => k_is); (case k => k_is))
    (case d6 => refine' J.def_at ?a ?l ?c ?k; (case a => k_is); (case l => k_is); (case c => k_is); (case k => k_is))
    (case d7 => refine' J.def_at ?a ?l ?c ?k; (case a => k_is); (case l => k_is); (case c => k_is); (case k => k_is))
    (case d8 => refine' J.def_at ?a ?l ?c ?k; (case a => k_is); (case l => k_is); (case c => k_is); (case k => k_is))
    (case d9 => refine' J.def_at ?a ?l ?c ?k; (case a => k_is); (case l => k_is); (case c => k_is); (case k => k_is))
    (case d10 => refine' J.def_at ?a ?l ?c ?k; (case a => k_is); (case l => k_is); (case c => k_is); (case k => k_is))
    (case z0 => k_is)
    (case z1 => k_is)
    (case z2 => k_is)
    (case z3 => k_is)
    (case z4 => k_is)
    (case z5 => k_is)
    (case z6 => k_is)
    (case z7 => k_is)
    (case z8 => k_is)
    (case z9 => k_is)
    (case z10 => k_is)
    (case z11 => k_is)
  (case Ta => k_is)
  (case Tb => k_is)
  (case Tc => k_is)
