import PyProof.Rows.All
import Wide.All
import OpenK.AllK
import Wide.FinOn
import Lean
import PyProof.EqAt
import PyProof.EqKinds
import PyProof.TupleCall
import PySem.Challenge.RW_onelook_k09_no_formulas
-- CHANGE: your row's module here, as the last of these rows
set_option Elab.async false
set_option linter.all false
set_option maxRecDepth 100000
namespace L2
open PySem PySem.Spec PyProof.Rows
abbrev Key := Sum Int Str
def keyIs : Key → Value → Bool
  | .inl k, v => Value.isInt k v
  | .inr x, v => Value.isStrOf x v
def keyH (w : World) : Key → Int
  | .inl k => hashInt k
  | .inr x => hashStr w x
theorem keyIs_shape : ∀ {k : Key} {v : Value}, keyIs k v = true → (∃ i t, k = Sum.inl i ∧ v = Value.int i t) ∨ (∃ x t, k = Sum.inr x ∧ v = Value.str x t)
  | .inl i, v, h => by
    obtain ⟨t, e⟩ := Value.isInt_shape (k := i) (v := v) h
    exact .inl ⟨i, t, rfl, e⟩
  | .inr x, v, h => by
    obtain ⟨t, e⟩ := Value.isStrOf_shape (x := x) (v := v) h
    exact .inr ⟨x, t, rfl, e⟩
theorem key_ll (a b : Int) : decide ((Sum.inl a : Key) = Sum.inl b) = (a == b) := by
  by_cases e : a = b
  · subst e; simp
  · have h : ¬ (Sum.inl a : Key) = Sum.inl b := fun q => e (Sum.inl.inj q)
    rw [decide_eq_false h]
    exact (beq_eq_false_iff_ne.mpr e).symm
theorem key_rr (a b : Str) : decide ((Sum.inr a : Key) = Sum.inr b) = decide (a = b) := by
  by_cases e : a = b
  · subst e; simp
  · have h : ¬ (Sum.inr a : Key) = Sum.inr b := fun q => e (Sum.inr.inj q)
    rw [decide_eq_false h, decide_eq_false e]
theorem key_lr (a : Int) (b : Str) : decide ((Sum.inl a : Key) = Sum.inr b) = false := decide_eq_false (fun q => nomatch q)
theorem key_rl (a : Str) (b : Int) : decide ((Sum.inr a : Key) = Sum.inl b) = false := decide_eq_false (fun q => nomatch q)
def mixKind (prog : Program) (w : World) : PySem.KeyKind prog w Key where
  is := keyIs
  hash := keyH w
  inj := fun v a b ha hb => by
    rcases keyIs_shape ha with ⟨i, t, rfl, rfl⟩ | ⟨x, t, rfl, rfl⟩
    · rcases keyIs_shape hb with ⟨j, u, rfl, e⟩ | ⟨y, u, rfl, e⟩
      · injection e with e1 _; rw [e1]
      · exact nomatch e
    · rcases keyIs_shape hb with ⟨j, u, rfl, e⟩ | ⟨y, u, rfl, e⟩
      · exact nomatch e
      · injection e with e1 _; rw [e1]
  byValue := fun k v h => by
    rcases keyIs_shape h with ⟨i, t, rfl, rfl⟩ | ⟨x, t, rfl, rfl⟩ <;> rfl
  pyHash := fun hv h => by
    rcases keyIs_shape hv with ⟨i, t, rfl, rfl⟩ | ⟨x, t, rfl, rfl⟩
    · exact wpAny_pyHash_int h
    · exact wpAny_pyHash_str h
  eqBool := fun hu hv h => by
    rcases keyIs_shape hu with ⟨i, t, rfl, rfl⟩ | ⟨x, t, rfl, rfl⟩
    · rcases keyIs_shape hv with ⟨j, u, rfl, rfl⟩ | ⟨y, u, rfl, rfl⟩
      · rw [key_ll] at h; exact wpAny_eqBool_int h
      · rw [key_lr] at h; exact SeqAt.EqAt.int_str i t y u _ _ _ _ h
    · rcases keyIs_shape hv with ⟨j, u, rfl, rfl⟩ | ⟨y, u, rfl, rfl⟩
      · rw [key_rl] at h; exact SeqAt.EqAt.str_int x t j u _ _ _ _ h
      · rw [key_rr] at h; exact wpAny_eqBool_str h
  «strs» := fun k x t v h => by
    rcases keyIs_shape h with ⟨i, u, rfl, e⟩ | ⟨y, u, rfl, e⟩
    · exact nomatch e
    · injection e with e1 _
      subst e1
      cases v <;> rfl
end L2
namespace L2
open PySem PySem.Spec PyProof.Rows
inductive V where
  | non | bl (b : Bool) | int (i : Int) | str (x : Str) | byt (b : Array UInt8) | flt (b : UInt64) | ref (a : Addr) | ty (n : String)
  deriving DecidableEq
def RelV : V → Value → Prop
  | .non, u => u = Value.none
  | .bl b, u => u = Value.bool b
  | .int i, u => ∃ t, u = Value.int i t
  | .str x, u => ∃ t, u = Value.str x t
  | .byt b, u => ∃ t, u = Value.bytes b t
  | .flt b, u => ∃ t, u = Value.float b t
  | .ref a, u => u = Value.ref a
  | .ty n, u => u = Value.type n
abbrev Vals : List V → List Value → Prop := Paired RelV
theorem Vals.length {xs : List V} {us : List Value} (r : Vals xs us) : xs.length = us.length := Paired.length r
theorem Vals.get : ∀ {xs : List V} {us : List Value} {i : Nat} {x : V}, Vals xs us → xs[i]? = some x → ∃ u, us[i]? = some u ∧ RelV x u
  | _, _, _, _, .nil, e => by simp at e
  | _, _, 0, _, .cons r _, e => by simp at e; subst e; exact ⟨_, rfl, r⟩
  | _, _, i + 1, x, .cons _ t, e => by
    obtain ⟨u, h1, h2⟩ := Vals.get (i := i) (x := x) t (by simpa using e)
    exact ⟨u, by simpa using h1, h2⟩
theorem Vals.set {x : V} {u : Value} (r : RelV x u) : ∀ {xs : List V} {us : List Value} (i : Nat), Vals xs us → Vals (xs.set i x) (us.set i u)
  | _, _, _, .nil => .nil
  | _, _, 0, .cons _ t => .cons r t
  | _, _, i + 1, .cons q t => .cons q (Vals.set r i t)
theorem Vals.append : ∀ {xs ys : List V} {us ws : List Value}, Vals xs us → Vals ys ws → Vals (xs ++ ys) (us ++ ws)
  | _, _, _, _, .nil, s => s
  | _, _, _, _, .cons r t, s => .cons r (Vals.append t s)
theorem Vals.take : ∀ {xs : List V} {us : List Value} (n : Nat), Vals xs us → Vals (xs.take n) (us.take n)
  | _, _, 0, _ => .nil
  | _, _, _ + 1, .nil => .nil
  | _, _, n + 1, .cons r t => .cons r (Vals.take n t)
theorem Vals.drop : ∀ {xs : List V} {us : List Value} (n : Nat), Vals xs us → Vals (xs.drop n) (us.drop n)
  | _, _, 0, r => r
  | _, _, _ + 1, .nil => .nil
  | _, _, n + 1, .cons _ t => Vals.drop n t
def RelO : Option V → Option Value → Prop
  | some v, some u => RelV v u
  | none, none => True
  | _, _ => False
def KV {κ : Type} : List (κ × V) → List (κ × Value) → Prop := Paired fun (p : κ × V) (q : κ × Value) => p.1 = q.1 ∧ RelV p.2 q.2
def kV : Key → V
  | .inl i => .int i
  | .inr x => .str x
inductive HO where
    | lst (xs : List V)
    | tup (xs : List V)
    | dK (kvs : List (Key × V)) | dT (kvs : List (List Key × V))
    | set (S : Int → Bool) (n : Nat)
    | ins (C dx : Addr) (fs : List (Str × V))
    | own (x : Addr)
    | xd (fs : List (Str × V))
    | met (f x : Addr)
    | rng (lo hi : Int)
    | frz (o : Obj) (u : HO)
    | tbl (ps : Array Value)
    | ext (φ : Heap → Prop)
abbrev Hp := Addr → Option HO
def upd (H : Hp) (a : Addr) (o : HO) : Hp := fun b => if b = a then some o else H b
theorem upd_same {H : Hp} {a : Addr} {o : HO} : upd H a o a = some o := by unfold upd; rw [if_pos rfl]
theorem upd_ne {H : Hp} {a b : Addr} {o : HO} (h : b ≠ a) : upd H a o b = H b := by unfold upd; rw [if_neg h]
theorem ne_of_none {H : Hp} {a b : Addr} {o : HO} (h : H a = some o) (h' : H b = none) : a ≠ b := by
  intro e; subst e; rw [h] at h'; cases h'
def NoDi (h : Heap) (a : Addr) : Prop := ∀ o, h.get? a = some o → o.dict = none
theorem NoDi.new (h : Heap) (us : Array Value) : NoDi (h.push { cls := .type "tuple", data := .seq us }) h.objs.size := fun o q => by
  rw [Heap.get?_push_size _ rfl] at q
  cases q
  rfl
section
variable (P : Program) (w : World)
def ObjOk (H : Hp) (h : Heap) (a : Addr) : HO → Prop
  | .lst xs => xs.length ≤ sizeLine ∧ ∃ (its : List Value) (n : Nat), Vals xs its ∧ h.get? a = some { cls := .type "list", data := .seq its.toArray n }
  | .tup xs => xs.length ≤ sizeLine ∧ ∃ its : List Value, Vals xs its ∧ IsTup h a its.toArray ∧ NoDi h a
  | .dK kvs => kvs.length ≤ sizeLine ∧ (a == sysModules) = false ∧ ∃ vs, KV kvs vs ∧ h.DictOf (mixKind P w) a vs
  | .dT kvs => kvs.length ≤ sizeLine ∧ (a == sysModules) = false ∧ ∃ xs : List (List Key × Addr × Value),
      Paired (fun (p : List Key × V) (q : List Key × Addr × Value) => p.1 = q.1 ∧ H q.2.1 = some (.tup (p.1.map kV)) ∧ RelV p.2 q.2.2) kvs xs ∧
      ∃ o es ep, h.get? a = some o ∧ o.ExactDict ∧ o.data = .dict es ep ∧ es.toList = xs.map (entryOfKey (tupleKind (mixKind P w))) ∧ (xs.map (·.1)).Nodup
  | .set S n => h.SetOf (intKind P w) a S n
  | .ins C dx fs => H dx = some (.own a) ∧ fs.length ≤ 1000 ∧ dx ≠ a ∧ h.get? a = some (PySem.W.instObj C dx) ∧
      ∃ mA, h.Ns1 dx mA ∧ (∀ f, RelO (fs.lookup f) (mA f)) ∧ PySem.Within mA (fs.map (·.1))
  | .own _ => ∃ o, h.get? a = some o
  | .xd fs => ∃ mA, h.Ns1 a mA ∧ ∀ f, RelO (fs.lookup f) (mA f)
  | .rng lo hi => ∃ t u v, h.get? a = some { cls := .type "range", data := .fields #[.int lo t, .int hi u, .int 1 v] }
  | .frz o u => h.get? a = some o ∧ ObjOk H h a u
  | .tbl ps => h.get? a = some { cls := .none, data := .fields ps }
  | .met f x => h.get? a = some (PySem.W.methodObj (.ref f) (.ref x))
  | .ext φ => φ h ∧ (∃ o, h.get? a = some o) ∧ ∀ h1 h2 : Heap, φ h1 → (∀ o, h1.get? a = some o → h2.get? a = some o) → φ h2
def HOk (H : Hp) (h : Heap) : Prop := ∀ a o, H a = some o → ObjOk P w H h a o
end
section
variable {P : Program} {w : World} {H H' : Hp} {h h' : Heap} {a : Addr} {o : HO}
theorem ObjOk.lt (x : ObjOk P w H h a o) : a < h.objs.size := by
  cases o with
  | lst xs => obtain ⟨_, _, _, _, e⟩ := x; exact Heap.lt_size e
  | tup xs => obtain ⟨_, _, _, p, _⟩ := x; exact p.lt
  | dK kvs => obtain ⟨_, _, _, _, o, _, _, e, _⟩ := x; exact Heap.lt_size e
  | dT kvs => obtain ⟨_, _, _, _, o, _, _, e, _⟩ := x; exact Heap.lt_size e
  | set S n => obtain ⟨o, _, _, _, e, _⟩ := x; exact Heap.lt_size e
  | ins C dx fs => obtain ⟨_, _, _, e, _⟩ := x; exact Heap.lt_size e
  | own y => obtain ⟨_, e⟩ := x; exact Heap.lt_size e
  | xd fs => obtain ⟨_, ⟨_, _, _, e, _⟩, _⟩ := x; exact Heap.lt_size e
  | rng lo hi => obtain ⟨_, _, _, e⟩ := x; exact Heap.lt_size e
  | frz ob u => obtain ⟨e, _⟩ := x; exact Heap.lt_size e
  | tbl ps => exact Heap.lt_size (show h.get? a = some _ from x)
  | met f y => exact Heap.lt_size (show h.get? a = some _ from x)
  | ext φ => obtain ⟨_, ⟨_, e⟩, _⟩ := x; exact Heap.lt_size e
theorem Paired.mapP {α β : Type} {F G : α → β → Prop} : ∀ {l₁ : List α} {l₂ : List β}, Paired F l₁ l₂ → (∀ a b, F a b → G a b) → Paired G l₁ l₂
  | _, _, .nil, _ => .nil
  | _, _, .cons r t, f => .cons (f _ _ r) (Paired.mapP t f)
theorem ObjOk.stay (x : ObjOk P w H h a o) (k : ∀ b u, (b = a ∨ H b = some (.own a)) → h.get? b = some u → h'.get? b = some u)
    (ho : ∀ b, H b = some (.own a) → H' b = some (.own a)) (ht : ∀ b xs, H b = some (.tup xs) → H' b = some (.tup xs)) : ObjOk P w H' h' a o := by
  induction o with
  | lst xs => obtain ⟨z, its, n, r, e⟩ := x; exact ⟨z, its, n, r, k _ _ (.inl rfl) e⟩
  | tup xs => obtain ⟨z, us, r, ⟨ob, e, c⟩, nd⟩ := x; exact ⟨z, us, r, ⟨ob, k _ _ (.inl rfl) e, c⟩, fun o q => by rw [k _ _ (.inl rfl) e] at q; cases q; exact nd _ e⟩
  | dK kvs => obtain ⟨z, y, vs, r, ob, es, ep, e, c⟩ := x; exact ⟨z, y, vs, r, ob, es, ep, k _ _ (.inl rfl) e, c⟩
  | dT kvs =>
    obtain ⟨z, y, xs, r, ob, es, ep, e, c⟩ := x
    exact ⟨z, y, xs, Paired.mapP r fun p q z => ⟨z.1, ht _ _ z.2.1, z.2.2⟩, ob, es, ep, k _ _ (.inl rfl) e, c⟩
  | set S n => obtain ⟨ob, es, ep, t, e, c⟩ := x; exact ⟨ob, es, ep, t, k _ _ (.inl rfl) e, c⟩
  | ins C dx fs =>
    obtain ⟨d, z, ne, e, mA, ⟨od, es, ep, e2, c⟩, r⟩ := x
    exact ⟨ho _ d, z, ne, k _ _ (.inl rfl) e, mA, ⟨od, es, ep, k _ _ (.inr d) e2, c⟩, r⟩
  | own y => obtain ⟨ob, e⟩ := x; exact ⟨ob, k _ _ (.inl rfl) e⟩
  | xd fs => obtain ⟨mA, ⟨od, es, ep, e, c⟩, r⟩ := x; exact ⟨mA, ⟨od, es, ep, k _ _ (.inl rfl) e, c⟩, r⟩
  | rng lo hi => obtain ⟨t, u, v, e⟩ := x; exact ⟨t, u, v, k _ _ (.inl rfl) e⟩
  | frz ob u ih => obtain ⟨e, q⟩ := x; exact ⟨k _ _ (.inl rfl) e, ih q⟩
  | tbl ps =>
    have e : h.get? a = some { cls := .none, data := .fields ps } := x
    show h'.get? a = some { cls := .none, data := .fields ps }
    exact k a _ (.inl rfl) e
  | met f y =>
    have e : h.get? a = some (PySem.W.methodObj (.ref f) (.ref y)) := x
    show h'.get? a = some (PySem.W.methodObj (.ref f) (.ref y))
    exact k a _ (.inl rfl) e
  | ext φ => obtain ⟨p, ⟨o, e⟩, st⟩ := x; exact ⟨st _ _ p fun o q => k _ _ (.inl rfl) q, ⟨o, k _ _ (.inl rfl) e⟩, st⟩
theorem HOk.lt (x : HOk P w H h) (e : H a = some o) : a < h.objs.size := (x a o e).lt
theorem HOk.fresh (x : HOk P w H h) (e : h.objs.size ≤ a) : H a = none := by
  cases q : H a with
  | none => rfl
  | some u => exact absurd (Nat.lt_of_lt_of_le (x.lt q) e) (Nat.lt_irrefl _)
theorem HOk.kept (x : HOk P w H h) (k : ∀ b u, h.get? b = some u → h'.get? b = some u) : HOk P w H h' := fun a o e =>
  (x a o e).stay (fun b u _ q => k b u q) (fun _ q => q) fun _ _ q => q
theorem HOk.laid (x : HOk P w H h) (k : ∀ b u, h.get? b = some u → h'.get? b = some u) (hp : h.objs.size ≤ a) (new : ObjOk P w (upd H a o) h' a o) : HOk P w (upd H a o) h' := fun b u e => by
  have hn := x.fresh hp
  by_cases hb : b = a
  · subst hb; rw [upd_same] at e; cases e; exact new
  · rw [upd_ne hb] at e
    exact (x b u e).stay (fun c v _ q => k c v q) (fun c q => by rw [upd_ne (ne_of_none q hn)]; exact q) fun c xs q => by rw [upd_ne (ne_of_none q hn)]; exact q
end
def Rd (H : Hp) (a : Addr) (u : HO) : Prop := H a = some u ∨ ∃ o, H a = some (.frz o u)
theorem Rd.ok {P : Program} {w : World} {H : Hp} {h : Heap} {a : Addr} {u : HO} (r : Rd H a u) (x : HOk P w H h) : ObjOk P w H h a u := by
  rcases r with r | ⟨o, r⟩
  · exact x a u r
  · obtain ⟨_, q⟩ := x a _ r
    exact q
def Mut : Option HO → Prop
  | some (.lst _) => True
  | some (.dK _) => True
  | some (.dT _) => True
  | some (.set _ _) => True
  | some (.ins _ _ _) => True
  | some (.ext _) => True
  | _ => False
section
variable {P : Program} {w : World} {H : Hp} {h h' : Heap} {x e : Addr} {o' : HO}
theorem HOk.write (ok : HOk P w H h) (mu : Mut (H x)) (he : e = x ∨ H e = some (.own x)) (k : ∀ b u, b ≠ e → h.get? b = some u → h'.get? b = some u) (heo : ∃ u, h'.get? e = some u)
    (new : ObjOk P w (upd H x o') h' x o') : HOk P w (upd H x o') h' := fun b u q => by
  have nown : ∀ c y, H c = some (.own y) → c ≠ x := fun c y r z => by subst z; rw [r] at mu; exact mu
  have ntup : ∀ c xs, H c = some (.tup xs) → c ≠ x := fun c xs r z => by subst z; rw [r] at mu; exact mu
  by_cases hb : b = x
  · subst hb; rw [upd_same] at q; cases q; exact new
  · rw [upd_ne hb] at q
    by_cases hbe : b = e
    · have q' : H b = some (.own x) := by
        rcases he with z | z
        · exact absurd (hbe.trans z) hb
        · rw [hbe]; exact z
      rw [q] at q'; cases q'
      obtain ⟨v, hv⟩ := heo
      exact ⟨v, by rw [hbe]; exact hv⟩
    · refine (ok b u q).stay (fun c v hc r => k c v ?_ r) (fun c r => by rw [upd_ne (nown c b r)]; exact r) fun c xs r => by rw [upd_ne (ntup c xs r)]; exact r
      rcases hc with rfl | hc
      · exact hbe
      · rintro rfl
        rcases he with z | z
        · exact nown c b hc z
        · rw [hc] at z; cases z; exact hb rfl
end
structure Un (fs ex : List Addr) (H H' : Hp) (h h' : Heap) : Prop where
  keep : ∀ b o, h.get? b = some o → H b = none → b ∉ fs → b ∉ ex → h'.get? b = some o
  slot : ∀ b o, h.get? b = some o → H b = none → b ∈ fs → b ∉ ex → ∃ sl, h'.get? b = some { o with slots := sl }
  free : ∀ b o, h.get? b = some o → H b = none → b ∉ ex → H' b = none
  there : ∀ b o, h.get? b = some o → b ∉ ex → ∃ o', h'.get? b = some o'
  tups : ∀ b xs, H b = some (.tup xs) → H' b = some (.tup xs)
  frzs : ∀ b o u, H b = some (.frz o u) → H' b = some (.frz o u)
  tbls : ∀ b ps, H b = some (.tbl ps) → ∃ more, H' b = some (.tbl (ps ++ more))
section
variable {fs fs' ex ex' : List Addr} {H H1 H2 : Hp} {h h1 h2 h' : Heap} {a x e : Addr} {o : HO}
theorem Un.any (u : Un fs ex H H1 h h1) {b : Addr} {ob : Obj} (q : h.get? b = some ob) (n : H b = none) (hx : b ∉ ex) : ∃ sl, h1.get? b = some { ob with slots := sl } := by
  by_cases hb : b ∈ fs
  · exact u.slot b ob q n hb hx
  · exact ⟨ob.slots, u.keep b ob q n hb hx⟩
theorem Un.kept (k : ∀ b u, h.get? b = some u → h'.get? b = some u) : Un fs ex H H h h' :=
  ⟨fun b ob q _ _ _ => k b ob q, fun b ob q _ _ _ => ⟨ob.slots, k b ob q⟩, fun _ _ _ n _ => n, fun b ob q _ => ⟨ob, k b ob q⟩, fun _ _ q => q, fun _ _ _ q => q, fun _ ps q => ⟨#[], by rw [q]; simp⟩⟩
theorem Un.refl : Un fs ex H H h h := Un.kept fun _ _ q => q
theorem Un.laid (k : ∀ b u, h.get? b = some u → h'.get? b = some u) (hp : h.objs.size ≤ a) (hn : H a = none) : Un fs ex H (upd H a o) h h' where
  keep := fun b u q _ _ _ => k b u q
  slot := fun b u q _ _ _ => ⟨u.slots, k b u q⟩
  free := fun b u q n _ => by rw [upd_ne (Nat.ne_of_lt (Nat.lt_of_lt_of_le (Heap.lt_size q) hp))]; exact n
  there := fun b u q _ => ⟨u, k b u q⟩
  tups := fun b xs q => by rw [upd_ne (ne_of_none q hn)]; exact q
  frzs := fun b u xs q => by rw [upd_ne (ne_of_none q hn)]; exact q
  tbls := fun b ps q => ⟨#[], by rw [upd_ne (ne_of_none q hn), q]; simp⟩
theorem Un.write (mu : Mut (H x)) (he : e = x ∨ H e = some (.own x)) (k : ∀ b u, b ≠ e → h.get? b = some u → h'.get? b = some u) (heo : ∃ u, h'.get? e = some u) : Un fs ex H (upd H x o) h h' := by
  have hx : ∀ b, H b = none → b ≠ x := fun b n z => by subst z; rw [n] at mu; exact mu
  have hb : ∀ b, H b = none → b ≠ e := fun b n z => by
    subst z
    rcases he with r | r
    · exact hx b n r
    · rw [n] at r; cases r
  have hm : ∀ b u, H b = some u → ¬ Mut (some u) → b ≠ x := fun b u q nm z => by subst z; rw [q] at mu; exact nm mu
  refine ⟨fun b u q n _ _ => k b u (hb b n) q, fun b u q n _ _ => ⟨u.slots, k b u (hb b n) q⟩, fun b u q n _ => by rw [upd_ne (hx b n)]; exact n, fun b u q _ => ?_,
    fun b xs q => by rw [upd_ne (hm b _ q fun z => z)]; exact q, fun b u xs q => by rw [upd_ne (hm b _ q fun z => z)]; exact q, fun b ps q => ⟨#[], by rw [upd_ne (hm b _ q fun z => z), q]; simp⟩⟩
  by_cases hbe : b = e
  · subst hbe; exact heo
  · exact ⟨u, k b u hbe q⟩
end
def trk (h : Heap) (H : Hp) : List Addr := (List.range h.objs.size).filter fun a => (H a).isSome
def hidT (h : Heap) (H : Hp) : Heap := PySem.W.hideAll h (trk h H)
theorem hidT_size (h : Heap) (H : Hp) : (hidT h H).objs.size = h.objs.size := PySem.W.hideAll_size _ _
theorem hidT_get {h : Heap} {H : Hp} {b : Addr} {o : Obj} (e : h.get? b = some o) (n : H b = none) : (hidT h H).get? b = some o :=
  PySem.W.hideAll_get _ e fun hm => by
    have q : (H b).isSome = true := (List.mem_filter.mp hm).2
    rw [n] at q; simp at q
theorem of_hidT {h : Heap} {H : Hp} {b : Addr} {o : Obj} (e : (hidT h H).get? b = some o) : h.get? b = some o ∧ H b = none := by
  have e' : h.get? b = some o := PySem.W.of_hideAll (trk h H) e
  refine ⟨e', ?_⟩
  cases q : H b with
  | none => rfl
  | some x =>
    have hm : b ∈ trk h H := List.mem_filter.mpr ⟨List.mem_range.mpr (Heap.lt_size e'), by simp [q]⟩
    have z : (hidT h H).get? b = none := PySem.W.hideAll_none (trk h H) hm
    rw [z] at e; cases e
end L2
namespace L2
open PySem PySem.Spec PyProof.Rows
structure Mod (K : PySem.W.Frag) (mg : Str → Option Value) (base : Heap) : Prop where
  kin : K.In base
  glob : base.Ns mainGlobals mg
  blt : ∃ mb, base.Ns builtinsNs mb ∧ ∀ x : Str, x ≠ "__name__" → mb x = bootBuiltins x
  nolimit : base.NoLimit
structure Cx where
  prog : Program
  w : World
  K : PySem.W.Frag
  mg : Str → Option Value
  base : Heap
  A : Around
  N : List Str
  s₀ : Shared
  H₀ : Hp
  env : Env
  outer : List Env
  stack : List Env
  ex : List Addr
  fn : Str → Bool
  calm : Bool
  pn : List (Addr × Obj)
  xe : Value → Shared → Prop
def frs (l : List Env) : List Addr := l.filterMap (·.frame)
abbrev Cx.fs (X : Cx) : List Addr := frs X.outer
def Vis (sc : Scope) (x : Str) : Prop := sc.names.lookup x = some .local ∨ sc.names.lookup x = some .cell ∨ sc.names.lookup x = some .free
def Loc (sc : Scope) (x : Str) : Prop := sc.names.lookup x = some .local ∨ sc.names.lookup x = some .cell
def Look (env : Env) (h : Heap) (m : Str → Option Value) (x : Str) (u : Value) : Prop :=
  (env.kindOf x = some .local ∧ m x = some u) ∨ ((env.kindOf x = some .cell ∨ env.kindOf x = some .free) ∧ ∃ c, env.cells.lookup x = some c ∧ h.IsCell c (some u))
structure Cx.Ok (X : Cx) : Prop where
  mod : Mod X.K X.mg X.base
  kind : X.env.scope.kind = .function
  glob : X.env.globals = mainGlobals
  blt : X.env.builtins = builtinsNs
  above : X.s₀.heap.objs.size ≤ X.env.locals
  inj : ∀ x y c, X.env.cells.lookup x = some c → X.env.cells.lookup y = some c → x = y
  has : ∀ x, (X.env.kindOf x = some .cell ∨ X.env.kindOf x = some .free) → ∃ c, X.env.cells.lookup x = some c
  cab : ∀ x c, X.fn x = true → X.env.cells.lookup x = some c → X.s₀.heap.objs.size ≤ c
  hd : X.calm = true → X.A.handled = none
  frames : X.A.frames = some X.stack
  stk : X.stack = X.outer ∨ (X.stack = X.env :: X.outer ∧ X.env.frame = some X.env.locals)
  exf : ∀ b ∈ X.ex, b ≠ X.env.locals ∧ ∀ x c, X.env.cells.lookup x = some c → c ≠ b
  bs : ∀ b o, X.base.get? b = some o → X.s₀.heap.get? b = some o ∧ X.H₀ b = none
  bsz : X.base.objs.size ≤ X.s₀.heap.objs.size
  noex : ∀ b o, X.base.get? b = some o → b ∉ X.ex
  exfs : ∀ b ∈ X.ex, b ∉ X.fs
  funs : X.s₀.heap.FunFrames X.base X.outer
  frf : ∀ b ∈ X.fs, X.H₀ b = none
structure Inv (X : Cx) (pins : List (Addr × Obj)) (σ : List (Option V)) (H : Hp) (s : Shared) : Prop where
  ok : X.Ok
  os : s.os = X.s₀.os
  bare : AllBare s.gens
  base : Un X.fs X.ex X.H₀ H X.s₀.heap s.heap
  loc : ∃ m, s.heap.Ns X.env.locals m ∧ ∀ (i : Nat) (x : Str) (v : V), X.N[i]? = some x → σ[i]? = some (some v) → Vis X.env.scope x → ∃ u, RelV v u ∧ Look X.env s.heap m x u
  cell : ∀ x c, X.env.cells.lookup x = some c → ∃ v, s.heap.IsCell c v
  free : H X.env.locals = none
  freeC : ∀ x c, X.env.cells.lookup x = some c → H c = none
  pin : ∀ p ∈ X.pn ++ pins, s.heap.get? p.1 = some p.2 ∧ H p.1 = none ∧ p.1 ≠ X.env.locals ∧ p.1 ∉ X.fs ∧ ∀ v, p.2.data ≠ .cell v
  hok : HOk X.prog X.w H s.heap
  len : σ.length = X.N.length
section
variable {X : Cx} {pins : List (Addr × Obj)} {σ : List (Option V)} {H H' : Hp} {s : Shared} {h' : Heap}
theorem Cx.Ok.nofr (ok : X.Ok) {b : Addr} {o : Obj} (e : X.base.get? b = some o) : b ∉ X.fs := fun hb => by
  have := (ok.funs.mem hb).1
  rw [e] at this; cases this
theorem Inv.bs (I : Inv X pins σ H s) : ∀ b o, X.base.get? b = some o → s.heap.get? b = some o ∧ H b = none := fun b o e =>
  ⟨I.base.keep b o (I.ok.bs b o e).1 (I.ok.bs b o e).2 (I.ok.nofr e) (I.ok.noex b o e), I.base.free b o (I.ok.bs b o e).1 (I.ok.bs b o e).2 (I.ok.noex b o e)⟩
theorem Inv.bk (I : Inv X pins σ H s) : ∀ b o, X.base.get? b = some o → s.heap.get? b = some o := fun b o e => (I.bs b o e).1
theorem Inv.mod (I : Inv X pins σ H s) : Mod X.K X.mg X.base := I.ok.mod
theorem Inv.kIn (I : Inv X pins σ H s) : X.K.In s.heap := I.ok.mod.kin.keeps I.bk
theorem Inv.lt (I : Inv X pins σ H s) : X.env.locals < s.heap.objs.size := let ⟨_, hn, _⟩ := I.loc; hn.lt
theorem Inv.sz (I : Inv X pins σ H s) : X.s₀.heap.objs.size ≤ s.heap.objs.size := Nat.le_trans I.ok.above (Nat.le_of_lt I.lt)
theorem Inv.nofs (I : Inv X pins σ H s) {a : Addr} (h : s.heap.objs.size ≤ a) : a ∉ X.fs := fun hb => by
  obtain ⟨_, o, ho, _⟩ := I.ok.funs.mem hb
  exact absurd (Nat.lt_of_lt_of_le (Heap.lt_size ho) (Nat.le_trans I.sz h)) (Nat.lt_irrefl _)
theorem Inv.cne (I : Inv X pins σ H s) : ∀ x c, X.env.cells.lookup x = some c → c ≠ X.env.locals := fun x c e z => by
  obtain ⟨v, o, ho, hd⟩ := I.cell x c e
  obtain ⟨m, ⟨o', es, ep, ho', hd', _⟩, _⟩ := I.loc
  rw [z, ho'] at ho; cases ho; rw [hd'] at hd; cases hd
theorem Inv.funs (I : Inv X pins σ H s) : s.heap.FunFrames X.base X.outer := by
  have all : ∀ (l : List Env), (∀ b ∈ frs l, b ∈ X.fs) → X.s₀.heap.FunFrames X.base l → s.heap.FunFrames X.base l := by
    intro l
    induction l with
    | nil => intro _ _; trivial
    | cons env r ih =>
      intro hs hl
      obtain ⟨hk, ⟨L, o, hf, hn, ho, hd⟩, hr⟩ := hl
      have hL : L ∈ X.fs := hs L (by unfold frs; rw [List.filterMap_cons, hf]; exact List.mem_cons_self)
      obtain ⟨sl, e⟩ := I.base.slot L o ho (I.ok.frf L hL) hL fun z => I.ok.exfs L z hL
      exact ⟨hk, ⟨L, _, hf, hn, e, hd⟩, ih (fun b hb => hs b (by unfold frs; rw [List.filterMap_cons, hf]; exact List.mem_cons_of_mem _ hb)) hr⟩
  exact all X.outer (fun _ hb => hb) I.ok.funs
theorem Inv.stack (I : Inv X pins σ H s) : s.heap.FunFrames X.base X.stack := by
  rcases I.ok.stk with e | ⟨e, hf⟩
  · rw [e]; exact I.funs
  · rw [e]
    obtain ⟨m, hn, _⟩ := I.loc
    refine .cons (by rw [I.ok.kind]; decide) hf hn ?_ I.funs
    exact Heap.get?_none_of_le (Nat.le_trans I.ok.bsz I.ok.above)
theorem Inv.stkSub (I : Inv X pins σ H s) : ∀ b ∈ frs X.stack, b ∈ X.env.locals :: X.fs := fun b hb => by
  rcases I.ok.stk with e | ⟨e, hf⟩
  · rw [e] at hb; exact List.mem_cons_of_mem _ hb
  · rw [e] at hb
    unfold frs at hb
    rw [List.filterMap_cons, hf] at hb
    exact hb
theorem Inv.stkFree (I : Inv X pins σ H s) : ∀ b ∈ frs X.stack, H b = none := fun b hb => by
  rcases List.mem_cons.mp (I.stkSub b hb) with e | hb
  · rw [e]; exact I.free
  · obtain ⟨_, o, ho, _⟩ := I.ok.funs.mem hb
    exact I.base.free b o ho (I.ok.frf b hb) fun z => I.ok.exfs b z hb
theorem Inv.step {g' : Array GenState} {t' : Nat} {d' : Drawn} {ch : List Addr} (I : Inv X pins σ H s)
    (hch : ∀ b ∈ ch, (b ∈ X.ex ∨ X.s₀.heap.objs.size ≤ b) ∧ b ≠ X.env.locals ∧ (∀ x c, X.env.cells.lookup x = some c → c ≠ b) ∧ ∀ p ∈ X.pn ++ pins, p.1 ≠ b)
    (keep : ∀ b o, b ≠ X.env.locals → b ∉ X.fs → b ∉ ch → s.heap.get? b = some o → H b = none → h'.get? b = some o)
    (slot : ∀ b o, b ≠ X.env.locals → b ∈ X.fs → b ∉ ch → s.heap.get? b = some o → H b = none → ∃ sl, h'.get? b = some { o with slots := sl }) (free : ∀ b o, b ∉ ch → s.heap.get? b = some o → H b = none → H' b = none)
    (there : ∀ b o, b ∉ ch → s.heap.get? b = some o → ∃ o', h'.get? b = some o')
    (tups : ∀ b xs, H b = some (.tup xs) → H' b = some (.tup xs)) (frzs : ∀ b o u, H b = some (.frz o u) → H' b = some (.frz o u)) (tbls : ∀ b ps, H b = some (.tbl ps) → ∃ more, H' b = some (.tbl (ps ++ more)))
    (ns : ∀ m, s.heap.Ns X.env.locals m → h'.Ns X.env.locals m) (hok : HOk X.prog X.w H' h') (hg : AllBare g') :
    Inv X pins σ H' { s with heap := h', gens := g', drawn := d', toks := t' } := by
  have neL : ∀ b o, X.s₀.heap.get? b = some o → b ≠ X.env.locals := fun b o e => Nat.ne_of_lt (Nat.lt_of_lt_of_le (Heap.lt_size e) I.ok.above)
  have neC : ∀ b o, X.s₀.heap.get? b = some o → b ∉ X.ex → b ∉ ch := fun b o e hx hb => by
    rcases (hch b hb).1 with z | z
    · exact hx z
    · exact absurd (Nat.lt_of_lt_of_le (Heap.lt_size e) z) (Nat.lt_irrefl _)
  have cellK : ∀ x c, X.env.cells.lookup x = some c → ∀ v, s.heap.IsCell c v → h'.IsCell c v := fun x c e v ⟨o, ho, hd⟩ => by
    have nch : c ∉ ch := fun z => (hch c z).2.2.1 x c e rfl
    by_cases hc : c ∈ X.fs
    · obtain ⟨sl, q⟩ := slot c o (I.cne x c e) hc nch ho (I.freeC x c e)
      exact ⟨_, q, hd⟩
    · exact ⟨o, keep c o (I.cne x c e) hc nch ho (I.freeC x c e), hd⟩
  refine ⟨I.ok, I.os, hg, ⟨fun b o e n hb hx => ?_, fun b o e n hb hx => ?_, fun b o e n hx => ?_, fun b o e hx => ?_, fun b xs e => tups b xs (I.base.tups b xs e), fun b o xs e => frzs b o xs (I.base.frzs b o xs e), fun b ps e => ?_⟩, ?_, fun x c e => ?_, ?_, fun x c e => ?_, fun p hp => ?_, hok, I.len⟩
  · exact keep b o (neL b o e) hb (neC b o e hx) (I.base.keep b o e n hb hx) (I.base.free b o e n hx)
  · obtain ⟨sl, e1⟩ := I.base.slot b o e n hb hx
    obtain ⟨sl', e2⟩ := slot b _ (neL b o e) hb (neC b o e hx) e1 (I.base.free b o e n hx)
    exact ⟨sl', e2⟩
  · obtain ⟨o', e1⟩ := I.base.there b o e hx
    exact free b o' (neC b o e hx) e1 (I.base.free b o e n hx)
  · obtain ⟨o', e1⟩ := I.base.there b o e hx
    exact there b o' (neC b o e hx) e1
  · obtain ⟨m1, e1⟩ := I.base.tbls b ps e
    obtain ⟨m2, e2⟩ := tbls b _ e1
    exact ⟨m1 ++ m2, by rw [e2, Array.append_assoc]⟩
  · obtain ⟨m, hn, hl⟩ := I.loc
    refine ⟨m, ns m hn, fun i x v e1 e2 e3 => ?_⟩
    obtain ⟨u, r, l⟩ := hl i x v e1 e2 e3
    refine ⟨u, r, ?_⟩
    rcases l with l | ⟨k, c, e, z⟩
    · exact .inl l
    · exact .inr ⟨k, c, e, cellK x c e _ z⟩
  · obtain ⟨v, z⟩ := I.cell x c e
    exact ⟨v, cellK x c e v z⟩
  · obtain ⟨m, ⟨o, _, _, ho, _⟩, _⟩ := I.loc
    exact free _ o (fun z => (hch _ z).2.1 rfl) ho I.free
  · obtain ⟨v, o, ho, hd⟩ := I.cell x c e
    exact free c o (fun z => (hch c z).2.2.1 x c e rfl) ho (I.freeC x c e)
  · obtain ⟨e, n, ne, nf, d⟩ := I.pin p hp
    have nch : p.1 ∉ ch := fun z => (hch p.1 z).2.2.2 p hp rfl
    exact ⟨keep p.1 p.2 ne nf nch e n, free p.1 p.2 nch e n, ne, nf, d⟩
theorem Inv.un {t' : Nat} (I : Inv X pins σ H s) (u : Un X.fs [] H H' s.heap h') (hok : HOk X.prog X.w H' h') : Inv X pins σ H' { s with heap := h', toks := t' } := by
  obtain ⟨m, ⟨o, es, ep, ho, r⟩, _⟩ := id I.loc
  obtain ⟨sl, hL⟩ := u.any ho I.free (by simp)
  exact I.step (g' := s.gens) (d' := s.drawn) (ch := []) (fun _ z => nomatch z) (fun b o _ hb _ e n => u.keep b o e n hb (by simp)) (fun b o _ hb _ e n => u.slot b o e n hb (by simp)) (fun b o _ e n => u.free b o e n (by simp)) (fun b o _ e => u.there b o e (by simp)) u.tups u.frzs u.tbls (fun m' hm => by
    obtain ⟨o', es', ep', ho', r'⟩ := hm
    rw [ho] at ho'; cases ho'
    exact ⟨_, es', ep', hL, r'⟩) hok I.bare
theorem Inv.call {g' : Array GenState} {t' : Nat} {d' : Drawn} {ch : List Addr} (I : Inv X pins σ H s) (u : Un (frs X.stack) ch H H' s.heap h') (hok : HOk X.prog X.w H' h') (hg : AllBare g')
    (hch : ∀ b ∈ ch, (b ∈ X.ex ∨ X.s₀.heap.objs.size ≤ b) ∧ b ≠ X.env.locals ∧ (∀ x c, X.env.cells.lookup x = some c → c ≠ b) ∧ ∀ p ∈ X.pn ++ pins, p.1 ≠ b) :
    Inv X pins σ H' { s with heap := h', gens := g', drawn := d', toks := t' } := by
  obtain ⟨m, ⟨o, es, ep, ho, r⟩, _⟩ := id I.loc
  obtain ⟨sl, hL⟩ := u.any ho I.free fun z => (hch _ z).2.1 rfl
  exact I.step (ch := ch) hch (fun b o hL hb hc e n => u.keep b o e n (fun z => (List.mem_cons.mp (I.stkSub b z)).elim hL hb) hc) (fun b o _ _ hc e n => u.any e n hc) (fun b o hc e n => u.free b o e n hc) (fun b o hc e => u.there b o e hc) u.tups u.frzs u.tbls (fun m' hm => by
    obtain ⟨o', es', ep', ho', r'⟩ := hm
    rw [ho] at ho'; cases ho'
    exact ⟨_, es', ep', hL, r'⟩) hok hg
theorem Inv.turned {t' : Nat} {it : Addr} (I : Inv X pins σ H s) (k : ∀ b o, b ≠ it → s.heap.get? b = some o → h'.get? b = some o) (hn : H it = none) (hL : it ≠ X.env.locals)
    (h1 : it ∈ X.ex ∨ X.s₀.heap.objs.size ≤ it) (h2 : ∀ x c, X.env.cells.lookup x = some c → c ≠ it) (h3 : ∀ p ∈ X.pn ++ pins, p.1 ≠ it) : Inv X pins σ H { s with heap := h', toks := t' } := by
  have nit : ∀ b u, H b = some u → b ≠ it := fun b u e z => by rw [z, hn] at e; cases e
  refine I.step (g' := s.gens) (d' := s.drawn) (ch := [it]) (fun b hb => ?_) (fun b o _ _ hc e _ => k b o (fun z => hc (by simp [z])) e) (fun b o _ _ hc e _ => ⟨o.slots, k b o (fun z => hc (by simp [z])) e⟩) (fun _ _ _ _ n => n)
    (fun b o hc e => ⟨o, k b o (fun z => hc (by simp [z])) e⟩) (fun _ _ e => e) (fun _ _ _ e => e) (fun b ps e => ⟨#[], by rw [e]; simp⟩) (fun m hm => ?_) (fun b u e => ?_) I.bare
  · have e : b = it := by simpa using hb
    subst e
    exact ⟨h1, hL, h2, h3⟩
  · obtain ⟨o, es, ep, ho, r⟩ := hm
    exact ⟨o, es, ep, k _ o (Ne.symm hL) ho, r⟩
  · refine (I.hok b u e).stay (fun c v hc q => k c v ?_ q) (fun _ q => q) fun _ _ q => q
    rcases hc with z | z
    · rw [z]; exact nit b u e
    · exact nit c _ z
theorem Inv.tok (I : Inv X pins σ H s) (t : Nat) : Inv X pins σ H { s with toks := t } := I.un (h' := s.heap) (t' := t) Un.refl I.hok
theorem Inv.kept {t' : Nat} (I : Inv X pins σ H s) (k : ∀ b u, s.heap.get? b = some u → h'.get? b = some u) : Inv X pins σ H { s with heap := h', toks := t' } := I.un (Un.kept k) (I.hok.kept k)
theorem Inv.laid {a : Addr} {o : HO} {t' : Nat} (I : Inv X pins σ H s) (k : ∀ b u, s.heap.get? b = some u → h'.get? b = some u) (hp : s.heap.objs.size ≤ a) (new : ObjOk X.prog X.w (upd H a o) h' a o) :
    Inv X pins σ (upd H a o) { s with heap := h', toks := t' } := I.un (Un.laid k hp (I.hok.fresh hp)) (I.hok.laid k hp new)
theorem Inv.write {x e : Addr} {o : HO} {t' : Nat} (I : Inv X pins σ H s) (mu : Mut (H x)) (he : e = x ∨ H e = some (.own x)) (k : ∀ b u, b ≠ e → s.heap.get? b = some u → h'.get? b = some u) (heo : ∃ u, h'.get? e = some u)
    (new : ObjOk X.prog X.w (upd H x o) h' x o) : Inv X pins σ (upd H x o) { s with heap := h', toks := t' } := I.un (Un.write mu he k heo) (I.hok.write mu he k heo new)
theorem Inv.pins_of {pins' : List (Addr × Obj)} (I : Inv X pins σ H s) (h : ∀ p ∈ pins', s.heap.get? p.1 = some p.2 ∧ H p.1 = none ∧ p.1 ≠ X.env.locals ∧ p.1 ∉ X.fs ∧ ∀ v, p.2.data ≠ .cell v) : Inv X pins' σ H s :=
  ⟨I.ok, I.os, I.bare, I.base, I.loc, I.cell, I.free, I.freeC, fun p hp => (List.mem_append.mp hp).elim (fun z => I.pin p (List.mem_append_left _ z)) (h p), I.hok, I.len⟩
theorem nodup_ix {N : List Str} (hN : N.Nodup) {i j : Nat} {x : Str} (a : N[i]? = some x) (b : N[j]? = some x) : i = j := by
  obtain ⟨h1, e1⟩ := List.getElem?_eq_some_iff.mp a
  obtain ⟨h2, e2⟩ := List.getElem?_eq_some_iff.mp b
  exact (List.getElem_inj hN).mp (e1.trans e2.symm)
theorem store_ok2 {M : Model} {A : Around} {E : Value → Shared → Prop} {i : Nat} {x : Str} {v : V} {u : Value} {Q : Unit → Shared → Prop} (I : Inv X pins σ H s) (hN : X.N.Nodup) (hi : X.N[i]? = some x) (hx : Loc X.env.scope x) (r : RelV v u)
    (h : ∀ s', Inv X pins (σ.set i (some v)) H s' → (∃ a, Heap.SameBut a s.heap s'.heap ∧ (a = X.env.locals ∨ X.env.cells.lookup x = some a)) → Q () s') (hf : X.fn x = true ∨ X.env.scope.names.lookup x = some .local := by first | exact .inl rfl | exact .inr rfl | assumption) : wpAny M A (storeName X.env x u) Q E s := by
  obtain ⟨m, hn, hl⟩ := id I.loc
  have hcls : (X.env.scope.kind == .class || (X.env.scope.kind == .module && X.env.locals != X.env.globals)) = false := by rw [I.ok.kind]; rfl
  have hiσ : i < σ.length := by rw [I.len]; exact (List.getElem?_eq_some_iff.mp hi).1
  have cne := I.cne
  have tracked : ∀ {a : Addr} {h' : Heap}, (∃ o, s.heap.get? a = some o ∧ H a = none) → Heap.SameBut a s.heap h' → HOk X.prog X.w H h' := fun {a h'} ha hs b ob e => by
    obtain ⟨_, _, hfree⟩ := ha
    refine (I.hok b ob e).stay (fun c w' hc q => (hs.2 c ?_).trans q) (fun _ q => q) fun _ _ q => q
    rintro rfl
    rcases hc with rfl | hc
    · rw [hfree] at e; cases e
    · rw [hfree] at hc; cases hc
  rcases hx with hk | hk
  · refine wpAny_storeName_local hk hn (fun h' hn' hs => ?_) hcls
    obtain ⟨oL, _, _, hoL, _⟩ := id hn
    refine h _ ⟨I.ok, I.os, I.bare, ⟨fun b o e n hb hx => ?_, fun b o e n hb hx => ?_, I.base.free, fun b o e hx => ?_, I.base.tups, I.base.frzs, I.base.tbls⟩, ⟨_, hn', fun j y v' e1 e2 e3 => ?_⟩, fun y c e => ?_, I.free, I.freeC, fun p hp => ?_, tracked ⟨oL, hoL, I.free⟩ hs, by simpa using I.len⟩ ⟨_, hs, .inl rfl⟩
    · exact (hs.2 b (Nat.ne_of_lt (Nat.lt_of_lt_of_le (Heap.lt_size e) I.ok.above))).trans (I.base.keep b o e n hb hx)
    · obtain ⟨sl, e1⟩ := I.base.slot b o e n hb hx
      exact ⟨sl, (hs.2 b (Nat.ne_of_lt (Nat.lt_of_lt_of_le (Heap.lt_size e) I.ok.above))).trans e1⟩
    · obtain ⟨o', e1⟩ := I.base.there b o e hx
      exact ⟨o', (hs.2 b (Nat.ne_of_lt (Nat.lt_of_lt_of_le (Heap.lt_size e) I.ok.above))).trans e1⟩
    · by_cases hj : j = i
      · subst hj
        rw [hi] at e1; cases e1
        rw [List.getElem?_set_self hiσ] at e2
        cases e2
        exact ⟨u, r, .inl ⟨hk, by simp⟩⟩
      · rw [List.getElem?_set_ne (Ne.symm hj)] at e2
        obtain ⟨u', r', q⟩ := hl j y v' e1 e2 e3
        refine ⟨u', r', ?_⟩
        rcases q with ⟨k, e⟩ | ⟨k, c, e, z⟩
        · refine .inl ⟨k, ?_⟩
          have : y ≠ x := fun e => hj (nodup_ix hN e1 (e ▸ hi))
          simp [this, e]
        · exact .inr ⟨k, c, e, z.sameBut hs (cne y c e)⟩
    · obtain ⟨w', z⟩ := I.cell y c e
      exact ⟨w', z.sameBut hs (cne y c e)⟩
    · obtain ⟨e, n, ne, nf, d⟩ := I.pin p hp
      exact ⟨(hs.2 p.1 ne).trans e, n, ne, nf, d⟩
  · have hfn : X.fn x = true := by
      rcases hf with z | z
      · exact z
      · rw [z] at hk; cases hk
    obtain ⟨c, hc⟩ := I.ok.has x (.inl hk)
    obtain ⟨w', z⟩ := I.cell x c hc
    refine wpAny_storeName_cell I.ok.kind hk hc z (fun h' hc' hs => ?_)
    obtain ⟨oc, hoc, hocd⟩ := id z
    refine h { s with heap := h' } ⟨I.ok, I.os, I.bare, ⟨fun b o e n hb hx => ?_, fun b o e n hb hx => ?_, I.base.free, fun b o e hx => ?_, I.base.tups, I.base.frzs, I.base.tbls⟩, ⟨m, hn.sameBut hs (Ne.symm (cne x c hc)), fun j y v' e1 e2 e3 => ?_⟩, fun y c' e => ?_, I.free, I.freeC, fun p hp => ?_, tracked ⟨oc, hoc, I.freeC x c hc⟩ hs, by simpa using I.len⟩ ⟨c, hs, .inr hc⟩
    · exact (hs.2 b (Nat.ne_of_lt (Nat.lt_of_lt_of_le (Heap.lt_size e) (I.ok.cab x c hfn hc)))).trans (I.base.keep b o e n hb hx)
    · obtain ⟨sl, e1⟩ := I.base.slot b o e n hb hx
      exact ⟨sl, (hs.2 b (Nat.ne_of_lt (Nat.lt_of_lt_of_le (Heap.lt_size e) (I.ok.cab x c hfn hc)))).trans e1⟩
    · obtain ⟨o', e1⟩ := I.base.there b o e hx
      exact ⟨o', (hs.2 b (Nat.ne_of_lt (Nat.lt_of_lt_of_le (Heap.lt_size e) (I.ok.cab x c hfn hc)))).trans e1⟩
    · by_cases hj : j = i
      · subst hj
        rw [hi] at e1; cases e1
        rw [List.getElem?_set_self hiσ] at e2
        cases e2
        exact ⟨u, r, .inr ⟨.inl hk, c, hc, hc'⟩⟩
      · rw [List.getElem?_set_ne (Ne.symm hj)] at e2
        obtain ⟨u', r', q⟩ := hl j y v' e1 e2 e3
        refine ⟨u', r', ?_⟩
        rcases q with q | ⟨k, c', e, z'⟩
        · exact .inl q
        · refine .inr ⟨k, c', e, z'.sameBut hs ?_⟩
          rintro rfl
          exact hj (nodup_ix hN e1 (I.ok.inj _ _ _ e hc ▸ hi))
    · by_cases hcc : c' = c
      · subst hcc; exact ⟨_, hc'⟩
      · obtain ⟨w2, z2⟩ := I.cell y c' e
        exact ⟨w2, z2.sameBut hs hcc⟩
    · obtain ⟨e, n, ne, nf, d⟩ := I.pin p hp
      refine ⟨(hs.2 p.1 ?_).trans e, n, ne, nf, d⟩
      intro q
      rw [q, hoc] at e
      have q' : oc = p.2 := Option.some.inj e
      exact d w' (by rw [← q']; exact hocd)
theorem store_ok {M : Model} {A : Around} {E : Value → Shared → Prop} {i : Nat} {x : Str} {v : V} {u : Value} {Q : Unit → Shared → Prop} (I : Inv X pins σ H s) (hN : X.N.Nodup) (hi : X.N[i]? = some x) (hx : Loc X.env.scope x) (r : RelV v u)
    (h : ∀ s', Inv X pins (σ.set i (some v)) H s' → Q () s') (hf : X.fn x = true ∨ X.env.scope.names.lookup x = some .local := by first | exact .inl rfl | exact .inr rfl | assumption) : wpAny M A (storeName X.env x u) Q E s :=
  store_ok2 I hN hi hx r (fun s' I' _ => h s' I') hf
theorem Inv.call' {s' : Shared} {ch : List Addr} (I : Inv X pins σ H s) (ho : s'.os = s.os) (u : Un (frs X.stack) ch H H' s.heap s'.heap) (hok : HOk X.prog X.w H' s'.heap) (hg : AllBare s'.gens)
    (hch : ∀ b ∈ ch, (b ∈ X.ex ∨ X.s₀.heap.objs.size ≤ b) ∧ b ≠ X.env.locals ∧ (∀ x c, X.env.cells.lookup x = some c → c ≠ b) ∧ ∀ p ∈ X.pn ++ pins, p.1 ≠ b) : Inv X pins σ H' s' := by
  obtain ⟨h', g', d', t', o'⟩ := s'
  have e : o' = s.os := ho
  subst e
  exact I.call (g' := g') (t' := t') (d' := d') u hok hg hch
end
abbrev XK := Value → Option Addr → Hp → Prop
abbrev St := List (Option V)
abbrev VK := V → Hp → Prop
abbrev TE := St → Hp → VK → Prop
abbrev TT := St → Hp → (Bool → Hp → Prop) → Prop
abbrev TA := St → Hp → (List V → Hp → Prop) → Prop
structure Ends where
  nx : St → Hp → Prop
  rt : VK
  bk : St → Hp → Prop := fun _ _ => False
  ct : St → Hp → Prop := fun _ _ => False
abbrev TS := Ends → St → Hp → Prop
def EP (X : Cx) (pins : List (Addr × Obj)) (σ : St) (Q : VK) (u : Value) (s' : Shared) : Prop := ∃ v H', Inv X pins σ H' s' ∧ RelV v u ∧ Q v H'
def TP (X : Cx) (pins : List (Addr × Obj)) (σ : St) (Q : Bool → Hp → Prop) (b : Bool) (s' : Shared) : Prop := ∃ H', Inv X pins σ H' s' ∧ Q b H'
def AP (X : Cx) (pins : List (Addr × Obj)) (σ : St) (Q : List V → Hp → Prop) (us : List Value) (s' : Shared) : Prop := ∃ vs H', Inv X pins σ H' s' ∧ Vals vs us ∧ Q vs H'
def SP (X : Cx) (pins : List (Addr × Obj)) (D : Ends) (f : Flow) (s' : Shared) : Prop :=
  match f with
  | .next => ∃ σ' H', Inv X pins σ' H' s' ∧ D.nx σ' H'
  | .brk => ∃ σ' H', Inv X pins σ' H' s' ∧ D.bk σ' H'
  | .cont => ∃ σ' H', Inv X pins σ' H' s' ∧ D.ct σ' H'
  | .ret u => ∃ v σ' H', Inv X pins σ' H' s' ∧ RelV v u ∧ D.rt v H'
def PE (X : Cx) (e : Expr) (t : TE) : Prop :=
  ∀ (pins : List (Addr × Obj)) (s : Shared) (σ : St) (H : Hp) (Q : VK), Inv X pins σ H s → t σ H Q → wpAny (model X.prog X.w) X.A (eval e X.env) (EP X pins σ Q) X.xe s
def PT (X : Cx) (e : Expr) (t : TT) : Prop :=
  ∀ (pins : List (Addr × Obj)) (s : Shared) (σ : St) (H : Hp) (Q : Bool → Hp → Prop), Inv X pins σ H s → t σ H Q → wpAny (model X.prog X.w) X.A (isTrue e X.env (eval e X.env)) (TP X pins σ Q) X.xe s
def PW (X : Cx) (e : Expr) (t : TT) : Prop :=
  ∀ (whole : Sem Value) (pins : List (Addr × Obj)) (s : Shared) (σ : St) (H : Hp) (Q : Bool → Hp → Prop), Inv X pins σ H s → t σ H Q → wpAny (model X.prog X.w) X.A (isTrue e X.env whole) (TP X pins σ Q) X.xe s
def PA (X : Cx) (es : List Expr) (t : TA) : Prop :=
  ∀ (pos : Pos) (pins : List (Addr × Obj)) (s : Shared) (σ : St) (H : Hp) (Q : List V → Hp → Prop), Inv X pins σ H s → t σ H Q → wpAny (model X.prog X.w) X.A (spliced (backTo pos (starEach es X.env))) (AP X pins σ Q) X.xe s
def PS (X : Cx) (st : Stmt) (t : TS) : Prop :=
  ∀ (pins : List (Addr × Obj)) (s : Shared) (σ : St) (H : Hp) (D : Ends), Inv X pins σ H s → t D σ H → wpAny (model X.prog X.w) X.A (exec st X.env) (SP X pins D) X.xe s
def PSs (X : Cx) (st : List Stmt) (t : TS) : Prop :=
  ∀ (pins : List (Addr × Obj)) (s : Shared) (σ : St) (H : Hp) (D : Ends), Inv X pins σ H s → t D σ H → wpAny (model X.prog X.w) X.A (execs st X.env) (SP X pins D) X.xe s
theorem thn {α : Type} {t : Sem α} {Q Q' : α → Shared → Prop} {M : Model} {A : Around} {E : Value → Shared → Prop} {s : Shared} (h : wpAny M A t Q E s) (hQ : ∀ a s, Q a s → Q' a s) : wpAny M A t Q' E s := wpAny_mono h hQ fun _ _ x => x
end L2
namespace L2
open PySem PySem.Spec PyProof.Rows
section
variable {X : Cx}
def tVar (i : Nat) : TE := fun σ H Q => ∃ v, σ[i]? = some (some v) ∧ Q v H
def tC (v : V) : TE := fun _ H Q => Q v H
theorem pe_var {i : Nat} {x : Str} {pos : Pos} (hN : X.N[i]? = some x) (hv : Vis X.env.scope x) (hd : (x == ("__debug__" : Str)) = false := by decide) (hcd : (x == ("__classdict__" : Str)) = false := by decide) : PE X (.Name x pos) (tVar i) := by
  intro pins s σ H Q I h
  obtain ⟨v, e, h⟩ := h
  obtain ⟨m, hn, hl⟩ := I.loc
  obtain ⟨u, r, l⟩ := hl i x v hN e hv
  have fin : EP X pins σ Q u s := ⟨v, H, I, r, h⟩
  rcases l with ⟨hk, hm⟩ | ⟨hk, c, hc, hcell⟩
  · exact wpAny_Name (wpAny_loadName_local I.ok.kind hk hn hm fin) hd
  · rcases hk with hk | hk
    · exact wpAny_Name (wpAny_loadName_cell I.ok.kind hk hc hcell fin) hd
    · exact wpAny_Name (wpAny_loadName_free I.ok.kind hk hc hcell fin hcd) hd
theorem pe_int {i j pos} : PE X (.Constant (.int i) j pos) (tC (.int i)) := fun _ _ _ H _ I h => wpAny_Constant_int ⟨.int i, H, I.tok _, ⟨_, rfl⟩, h⟩
theorem pe_bl {b j pos} : PE X (.Constant (.bool b) j pos) (tC (.bl b)) := fun _ _ _ H _ I h => Constant_bool ⟨.bl b, H, I, rfl, h⟩
theorem pe_non {j pos} : PE X (.Constant .none j pos) (tC .non) := fun _ _ _ H _ I h => Constant_none ⟨.non, H, I, rfl, h⟩
theorem pe_str {x j pos} : PE X (.Constant (.str x) j pos) (tC (.str x)) := fun _ _ _ H _ I h => Calls.Constant_str ⟨.str x, H, I.tok _, ⟨_, rfl⟩, h⟩
def Gl (X : Cx) (x : Str) : Prop := X.env.kindOf x = some .globalImplicit
theorem ld_glob {E : Value → Shared → Prop} {pins : List (Addr × Obj)} {s : Shared} {σ : St} {H : Hp} {x : Str} {u : Value} {pos : Pos} {Q : Value → Shared → Prop} (I : Inv X pins σ H s) (hg : Gl X x) (hm : X.mg x = some u) (h : Q u s)
    (hd : (x == ("__debug__" : Str)) = false := by decide) : wpAny (model X.prog X.w) X.A (eval (.Name x pos) X.env) Q E s :=
  Calls.Name_function_global I.ok.kind hg (Calls.loadGlobal_global (by rw [I.ok.glob]; exact I.mod.glob.keeps I.bk) hm h) hd
theorem ld_blt {E : Value → Shared → Prop} {pins : List (Addr × Obj)} {s : Shared} {σ : St} {H : Hp} {x : Str} {u : Value} {pos : Pos} {Q : Value → Shared → Prop} (I : Inv X pins σ H s) (hg : Gl X x) (hm : X.mg x = none) (hv : bootBuiltins x = some u) (h : Q u s)
    (hn : x ≠ "__name__" := by decide) (hd : (x == ("__debug__" : Str)) = false := by decide) : wpAny (model X.prog X.w) X.A (eval (.Name x pos) X.env) Q E s := by
  obtain ⟨mb, h1, h2⟩ := I.mod.blt
  exact Calls.Name_function_global I.ok.kind hg (Calls.loadGlobal_builtin (by rw [I.ok.glob]; exact I.mod.glob.keeps I.bk) hm (by rw [I.ok.blt]; exact h1.keeps I.bk) ((h2 x hn).trans hv) h) hd
theorem pe_glob {x : Str} {v : V} {u : Value} {pos : Pos} (hg : Gl X x) (hm : X.mg x = some u) (r : RelV v u) (hd : (x == ("__debug__" : Str)) = false := by decide) : PE X (.Name x pos) (tC v) :=
  fun _ _ _ H _ I h => ld_glob I hg hm ⟨v, H, I, r, h⟩ hd
theorem pe_bltn {x : Str} {v : V} {u : Value} {pos : Pos} (hg : Gl X x) (hm : X.mg x = none) (hv : bootBuiltins x = some u) (r : RelV v u) (hn : x ≠ "__name__" := by decide) (hd : (x == ("__debug__" : Str)) = false := by decide) : PE X (.Name x pos) (tC v) :=
  fun _ _ _ H _ I h => ld_blt I hg hm hv ⟨v, H, I, r, h⟩ hn hd
def t2I (ta tb : TE) (k : Int → Int → Hp → Prop) : St → Hp → Prop := fun σ H => ta σ H fun x H1 => tb σ H1 fun y H2 => ∃ i j, x = .int i ∧ y = .int j ∧ k i j H2
variable {a b : Expr} {ta tb : TE} {pos : Pos}
def PC (X : Cx) (op : CmpOp) (a b : Expr) (t : TE) : Prop :=
  ∀ (pins : List (Addr × Obj)) (s : Shared) (σ : St) (H : Hp) (Q : VK), Inv X pins σ H s → t σ H Q →
    wpAny (model X.prog X.w) X.A (eval a X.env) (fun v s₁ => wpAny (model X.prog X.w) X.A (eval b X.env) (fun u s₂ => wpAny (model X.prog X.w) X.A (compareOp op v u) (EP X pins σ Q) X.xe s₂) X.xe s₁) X.xe s
def tCmp (p : Int → Int → Bool) (ta tb : TE) : TE := fun σ H Q => t2I ta tb (fun i j H2 => Q (.bl (p i j)) H2) σ H
abbrev tLt : TE → TE → TE := tCmp fun i j => decide (i < j)
abbrev tLe : TE → TE → TE := tCmp fun i j => decide (i ≤ j)
abbrev tGt : TE → TE → TE := tCmp fun i j => decide (j < i)
abbrev tGe : TE → TE → TE := tCmp fun i j => decide (j ≤ i)
abbrev tEqI : TE → TE → TE := tCmp fun i j => decide (i = j)
abbrev tNeI : TE → TE → TE := tCmp fun i j => !decide (i = j)
def tB (t : TE) : TT := fun σ H Q => t σ H fun x H1 => ∃ c, x = .bl c ∧ Q c H1
theorem pe_cmp {op : CmpOp} {t : TE} (h : PC X op a b t) (h1 : behindInMarks op b = false := by first | exact nobehind _ (by decide) (by decide) | rfl) : PE X (.Compare a [op] [b] pos) t := fun pins s σ H Q I hw => wpAny_Compare1 (h pins s σ H Q I hw) h1
theorem pt_cmp {op : CmpOp} {t : TE} (h : PC X op a b t) (h1 : behindInMarks op b = false := by first | exact nobehind _ (by decide) (by decide) | rfl) : PT X (.Compare a [op] [b] pos) (tB t) := by
  intro pins s σ H Q I hw
  refine wpAny_isTrue_Compare1 (thn (h pins s σ H _ I hw) fun v s1 h1 => thn h1 fun u s2 h2 => thn h2 fun c s3 ⟨x, H1, I1, r1, q1⟩ => ?_) h1
  obtain ⟨d, rfl, q⟩ := q1
  cases r1
  exact wpAny_truthy_bool ⟨H1, I1, q⟩
variable {tA tB' : TT} {rest : List Expr}
def tAnd (t u : TT) : TT := fun σ H Q => t σ H fun c H1 => if c = true then u σ H1 Q else Q false H1
def tOr (t u : TT) : TT := fun σ H Q => t σ H fun c H1 => if c = true then Q true H1 else u σ H1 Q
def tNot (t : TT) : TT := fun σ H Q => t σ H fun c H1 => Q (!c) H1
theorem pw_and1 (ha : PT X a tA) : PW X (.BoolOp .And [a] pos) tA := by
  intro wh pins s σ H Q I h
  refine isTrue_and (thn (ha pins s σ H Q I h) fun c s1 e => ?_)
  cases c with
  | true => exact isTrue_and_nil e
  | false => exact e
theorem pw_or1 (ha : PT X a tA) : PW X (.BoolOp .Or [a] pos) tA := by
  intro wh pins s σ H Q I h
  refine isTrue_or (thn (ha pins s σ H Q I h) fun c s1 e => ?_)
  cases c with
  | false => exact isTrue_or_nil e
  | true => exact e
theorem pw_and (ha : PT X a tA) (hb : PW X (.BoolOp .And (b :: rest) pos) tB') : PW X (.BoolOp .And (a :: b :: rest) pos) (tAnd tA tB') := by
  intro wh pins s σ H Q I h
  refine isTrue_and (thn (ha pins s σ H _ I h) fun c s1 ⟨H1, I1, q1⟩ => ?_)
  cases c with
  | true => exact hb wh pins s1 σ H1 Q I1 q1
  | false => exact ⟨H1, I1, q1⟩
theorem pw_or (ha : PT X a tA) (hb : PW X (.BoolOp .Or (b :: rest) pos) tB') : PW X (.BoolOp .Or (a :: b :: rest) pos) (tOr tA tB') := by
  intro wh pins s σ H Q I h
  refine isTrue_or (thn (ha pins s σ H _ I h) fun c s1 ⟨H1, I1, q1⟩ => ?_)
  cases c with
  | true => exact ⟨H1, I1, q1⟩
  | false => exact hb wh pins s1 σ H1 Q I1 q1
theorem pt_not (ha : PT X a tA) : PT X (.UnaryOp .Not a pos) (tNot tA) := by
  intro pins s σ H Q I h
  exact isTrue_not (ha pins s σ H (fun c H1 => Q (!c) H1) I h)
def tAndV (ta tb : TE) : TE := fun σ H Q => ta σ H fun x H1 => ∃ c, x = .bl c ∧ if c = true then tb σ H1 Q else Q (.bl false) H1
def tOrV (ta tb : TE) : TE := fun σ H Q => ta σ H fun x H1 => ∃ c, x = .bl c ∧ if c = true then Q (.bl true) H1 else tb σ H1 Q
def tNotV (ta : TE) : TE := fun σ H Q => ta σ H fun x H1 => ∃ c, x = .bl c ∧ Q (.bl (!c)) H1
theorem pe_one {op} {t : TE} (h : PE X a t) : PE X (.BoolOp op [a] pos) t := fun pins s σ H Q I hw => BoolOp_one (h pins s σ H Q I hw)
theorem pe_and (ha : PE X a ta) (hb : PE X (.BoolOp .And (b :: rest) pos) tb) : PE X (.BoolOp .And (a :: b :: rest) pos) (tAndV ta tb) := by
  intro pins s σ H Q I h
  refine BoolOp_and (thn (ha pins s σ H _ I h) fun v s1 ⟨x, H1, I1, r1, q1⟩ => ?_)
  obtain ⟨c, rfl, q1⟩ := q1
  cases r1
  refine wpAny_truthy_bool ?_
  cases c with
  | true => exact hb pins s1 σ H1 Q I1 q1
  | false => exact ⟨.bl false, H1, I1, rfl, q1⟩
theorem pe_or (ha : PE X a ta) (hb : PE X (.BoolOp .Or (b :: rest) pos) tb) : PE X (.BoolOp .Or (a :: b :: rest) pos) (tOrV ta tb) := by
  intro pins s σ H Q I h
  refine BoolOp_or (thn (ha pins s σ H _ I h) fun v s1 ⟨x, H1, I1, r1, q1⟩ => ?_)
  obtain ⟨c, rfl, q1⟩ := q1
  cases r1
  refine wpAny_truthy_bool ?_
  cases c with
  | false => exact hb pins s1 σ H1 Q I1 q1
  | true => exact ⟨.bl true, H1, I1, rfl, q1⟩
theorem pe_not (ha : PE X a ta) : PE X (.UnaryOp .Not a pos) (tNotV ta) := by
  intro pins s σ H Q I h
  refine UnaryOp_ (thn (ha pins s σ H _ I h) fun v s1 ⟨x, H1, I1, r1, q1⟩ => ?_)
  obtain ⟨c, rfl, q1⟩ := q1
  cases r1
  exact not_of (wpAny_truthy_bool ⟨.bl (!c), H1, I1, rfl, q1⟩)
def tIf (t : TT) (ta tb : TE) : TE := fun σ H Q => t σ H fun c H1 => if c = true then ta σ H1 Q else tb σ H1 Q
theorem pe_ifExp {c : Expr} (hc : PT X c tA) (ha : PE X a ta) (hb : PE X b tb) : PE X (.IfExp c a b pos) (tIf tA ta tb) := by
  intro pins s σ H Q I h
  refine wpAny_IfExp (thn (hc pins s σ H _ I h) fun d s1 ⟨H1, I1, q1⟩ => ?_)
  cases d with
  | true => exact ha pins s1 σ H1 Q I1 q1
  | false => exact hb pins s1 σ H1 Q I1 q1
end
end L2
namespace L2
open PySem PySem.Spec PyProof.Rows
def SqL (K : PySem.W.Frag) (H : Hp) (a : Addr) (xs : List V) : Prop :=
  Rd H a (.lst xs) ∨
    ∃ (o : Obj) (its : Array Value) (n : Nat), K.lookup a = some o ∧ o.cls = .type "list" ∧ o.dict = none ∧ o.data = .seq its n ∧ its.size ≤ sizeLine ∧ Vals xs its.toList
def SqT (K : PySem.W.Frag) (H : Hp) (a : Addr) (xs : List V) : Prop :=
  Rd H a (.tup xs) ∨
    ∃ (o : Obj) (its : Array Value) (n : Nat), K.lookup a = some o ∧ o.cls = .type "tuple" ∧ o.data = .seq its n ∧ its.size ≤ sizeLine ∧ Vals xs its.toList
def absV : Value → Option V
  | .none => some .non
  | .bool b => some (.bl b)
  | .int i _ => some (.int i)
  | .str x _ => some (.str x)
  | .bytes b _ => some (.byt b)
  | .float b _ => some (.flt b)
  | .ref a => some (.ref a)
  | .type n => some (.ty n)
  | _ => none
theorem RelV.abs {x : V} {u : Value} (r : RelV x u) : absV u = some x := by
  cases x with
  | non => cases r; rfl
  | bl _ => cases r; rfl
  | int _ => obtain ⟨t, rfl⟩ := r; rfl
  | str _ => obtain ⟨t, rfl⟩ := r; rfl
  | byt _ => obtain ⟨t, rfl⟩ := r; rfl
  | flt _ => obtain ⟨t, rfl⟩ := r; rfl
  | ref _ => cases r; rfl
  | ty _ => cases r; rfl
theorem RelV.inj {x y : V} {u : Value} (r : RelV x u) (q : RelV y u) : x = y := Option.some.inj (r.abs.symm.trans q.abs)
theorem Vals.inj : ∀ {xs ys : List V} {us : List Value}, Vals xs us → Vals ys us → xs = ys
  | _, _, _, .nil, .nil => rfl
  | _, _, _, .cons r t, .cons r' t' => by rw [r.inj r', Vals.inj t t']
section
variable {X : Cx} {pins : List (Addr × Obj)} {σ : St} {H : Hp} {s : Shared} {a : Addr} {xs ys : List V}
theorem SqL.of {K : PySem.W.Frag} (h : H a = some (.lst xs)) : SqL K H a xs := .inl (.inl h)
theorem SqT.of {K : PySem.W.Frag} (h : H a = some (.tup xs)) : SqT K H a xs := .inl (.inl h)
theorem Inv.list (I : Inv X pins σ H s) (h : SqL X.K H a xs) : ∃ its : List Value, Vals xs its ∧ PlainL s.heap a its.toArray ∧ xs.length ≤ sizeLine := by
  rcases h with h | ⟨o, its, n, hk, hc, hd, hs, hz, r⟩
  · obtain ⟨z, its, n, r, e⟩ := h.ok I.hok
    exact ⟨its, r, ⟨_, n, e, rfl, rfl, rfl⟩, z⟩
  · refine ⟨its.toList, r, ⟨o, n, I.kIn a o hk, hc, hd, by simpa using hs⟩, ?_⟩
    have e := r.length
    simp only [Array.length_toList] at e
    omega
theorem Inv.tuple (I : Inv X pins σ H s) (h : SqT X.K H a xs) : ∃ its : List Value, Vals xs its ∧ IsTup s.heap a its.toArray ∧ xs.length ≤ sizeLine := by
  rcases h with h | ⟨o, its, n, hk, hc, hs, hz, r⟩
  · obtain ⟨z, its, r, p, _⟩ := h.ok I.hok
    exact ⟨its, r, p, z⟩
  · refine ⟨its.toList, r, ⟨o, I.kIn a o hk, hc, n, by simpa using hs⟩, ?_⟩
    have e := r.length
    simp only [Array.length_toList] at e
    omega
theorem Inv.list_inj (I : Inv X pins σ H s) (h : SqL X.K H a xs) (h' : SqL X.K H a ys) : xs = ys := by
  obtain ⟨its, r, ⟨o, n, e, _, _, d⟩, _⟩ := I.list h
  obtain ⟨its', r', ⟨o', n', e', _, _, d'⟩, _⟩ := I.list h'
  rw [e] at e'; cases e'
  rw [d] at d'
  injection d' with d1 _
  have : its = its' := by simpa using congrArg Array.toList d1
  subst this
  exact r.inj r'
theorem Inv.tuple_inj (I : Inv X pins σ H s) (h : SqT X.K H a xs) (h' : SqT X.K H a ys) : xs = ys := by
  obtain ⟨its, r, ⟨o, e, _, n, d⟩, _⟩ := I.tuple h
  obtain ⟨its', r', ⟨o', e', _, n', d'⟩, _⟩ := I.tuple h'
  rw [e] at e'; cases e'
  rw [d] at d'
  injection d' with d1 _
  have : its = its' := by simpa using congrArg Array.toList d1
  subst this
  exact r.inj r'
end
abbrev Cx.wish (X : Cx) (E : Value → Shared → Prop) : Cx := { X with xe := E }
abbrev Cx.nox (X : Cx) : Cx := X.wish fun _ _ => False
section
variable {X : Cx} {pins : List (Addr × Obj)} {σ : St} {H : Hp} {s : Shared} {E : Value → Shared → Prop}
end
section
variable {X : Cx} {st : Stmt} {rest : List Stmt} {t u : TS} {e : Expr} {te : TE} {pos : Pos}
def tNext : TS := fun D σ H => D.nx σ H
def tSeq (t u : TS) : TS := fun D σ H => t { D with nx := u D } σ H
theorem pss_nil : PSs X [] tNext := fun _ _ σ H _ I h => wpAny_execs_nil ⟨σ, H, I, h⟩
theorem pss_cons (h1 : PS X st t) (h2 : PSs X rest u) : PSs X (st :: rest) (tSeq t u) := by
  intro pins s σ H D I h
  refine wpAny_execs_cons (thn (h1 pins s σ H { D with nx := u D } I h) fun f s1 q => ?_)
  cases f with
  | next =>
    obtain ⟨σ', H', I', q⟩ := q
    exact h2 pins s1 σ' H' D I' q
  | ret v => exact q
  | brk => exact q
  | cont => exact q
theorem pss_one (h1 : PS X st t) : PSs X [st] t := by
  intro pins s σ H D I h
  refine wpAny_execs_cons (thn (h1 pins s σ H D I h) fun f s1 q => ?_)
  cases f with
  | next => exact wpAny_execs_nil q
  | ret v => exact q
  | brk => exact q
  | cont => exact q
theorem ps_pass : PS X (.Pass pos) tNext := fun _ _ σ H _ I h => wpAny_Pass ⟨σ, H, I, h⟩
theorem Inv.quiet {pins : List (Addr × Obj)} {σ : St} {H : Hp} {s : Shared} (I : Inv X pins σ H s) : interactive X.env = false := by simp [interactive, I.ok.kind]
def tDrop (te : TE) : TS := fun D σ H => te σ H fun _ H1 => D.nx σ H1
theorem ps_expr (he : PE X e te) (hs : swapsWith e none pos.line X.env = pure false := by rfl) : PS X (.Expr e pos) (tDrop te) := by
  intro pins s σ H D I h
  exact wpAny_Expr_any (thn (he pins s σ H _ I h) fun v s1 ⟨x, H1, I1, r1, q1⟩ => ⟨σ, H1, I1, q1⟩) I.quiet hs
def tRet (te : TE) : TS := fun D σ H => te σ H D.rt
theorem ps_ret (he : PE X e te) : PS X (.Return (some e) pos) (tRet te) := by
  intro pins s σ H D I h
  exact wpAny_Return_some (thn (he pins s σ H _ I h) fun v s1 ⟨x, H1, I1, r1, q1⟩ => ⟨x, σ, H1, I1, r1, q1⟩)
def tRetN : TS := fun D _ H => D.rt .non H
theorem ps_retN : PS X (.Return none pos) tRetN := fun _ _ σ H _ I h => wpAny_Return_none ⟨.non, σ, H, I, rfl, h⟩
def tIfS (c : TT) (t u : TS) : TS := fun D σ H => c σ H fun b H1 => if b = true then t D σ H1 else u D σ H1
theorem ps_if {c : Expr} {a b : List Stmt} {tc : TT} (hc : PT X c tc) (ha : PSs X a t) (hb : PSs X b u) : PS X (.If c a b pos) (tIfS tc t u) := by
  intro pins s σ H D I h
  refine wpAny_If (thn (hc pins s σ H _ I h) fun d s1 ⟨H1, I1, q1⟩ => ?_)
  cases d with
  | true => exact ha pins s1 σ H1 D I1 q1
  | false => exact hb pins s1 σ H1 D I1 q1
def tNever : TS := fun _ _ _ => False
theorem ps_never : PS X st tNever := fun _ _ _ _ _ _ h => h.elim
theorem pss_never {sts : List Stmt} : PSs X sts tNever := fun _ _ _ _ _ _ h => h.elim
end
abbrev TG := V → St → Hp → (St → Hp → Prop) → Prop
abbrev TGs := List V → St → Hp → (St → Hp → Prop) → Prop
def PG (X : Cx) (target : Expr) (t : TG) : Prop :=
  ∀ (pins : List (Addr × Obj)) (s : Shared) (σ : St) (H : Hp) (v : V) (u : Value) (Q : St → Hp → Prop), Inv X pins σ H s → RelV v u → t v σ H Q →
    wpAny (model X.prog X.w) X.A (assign target X.env u) (fun _ s' => ∃ σ' H', Inv X pins σ' H' s' ∧ Q σ' H') X.xe s
abbrev TSet := V → V → V → Hp → (Hp → Prop) → Prop
def PSet (X : Cx) (t : TSet) : Prop :=
  ∀ (pins : List (Addr × Obj)) (s : Shared) (σ : St) (H : Hp) (o i v : V) (ov iv u : Value) (Q : Hp → Prop), Inv X pins σ H s → RelV o ov → RelV i iv → RelV v u → t o i v H Q →
    wpAny (model X.prog X.w) X.A (setItem ov iv u) (fun _ s' => ∃ H', Inv X pins σ H' s' ∧ Q H') X.xe s
abbrev TIp := V → V → Hp → VK → Prop
def PIp (X : Cx) (op : Operator) (t : TIp) : Prop :=
  ∀ (pins : List (Addr × Obj)) (s : Shared) (σ : St) (H : Hp) (x y : V) (v u : Value) (Q : VK), Inv X pins σ H s → RelV x v → RelV y u → t x y H Q →
    wpAny (model X.prog X.w) X.A (inplaceOp op v u) (EP X pins σ Q) X.xe s
section
variable {X : Cx} {pos : Pos}
def gName (i : Nat) : TG := fun v σ H Q => Q (σ.set i (some v)) H
theorem pg_name {i : Nat} {x : Str} (hN : X.N.Nodup) (hi : X.N[i]? = some x) (hx : Loc X.env.scope x) (hf : X.fn x = true ∨ X.env.scope.names.lookup x = some .local := by first | exact .inl rfl | exact .inr rfl | assumption) : PG X (.Name x pos) (gName i) := by
  intro pins s σ H v u Q I r h
  exact wpAny_assign_Name (store_ok I hN hi hx r (fun s' I' => ⟨_, H, I', h⟩) hf)
def gSub (to ti : TE) (t : TSet) : TG := fun v σ H Q => to σ H fun o H1 => ti σ H1 fun i H2 => t o i v H2 fun H3 => Q σ H3
theorem pg_sub {o i : Expr} {to ti : TE} {t : TSet} (ho : PE X o to) (hi : PE X i ti) (hs : PSet X t)
    (ha : ∀ v, assign (.Subscript o i pos) X.env v = (do
      let ov ← holding [v] (eval o X.env)
      let iv ← holding [v, ov] (eval i X.env)
      standAt pos
      holding [v, ov, iv] (setItem ov iv v)
      release [v, ov, iv] []) := by intro _; rfl) : PG X (.Subscript o i pos) (gSub to ti t) := by
  intro pins s σ H v u Q I r h
  rw [ha]
  refine wpAny_bind (wpAny_holding (thn (ho pins s σ H _ I h) fun ov s1 ⟨x, H1, I1, r1, q1⟩ => ?_))
  refine wpAny_bind (wpAny_holding (thn (hi pins s1 σ H1 _ I1 q1) fun iv s2 ⟨y, H2, I2, r2, q2⟩ => ?_))
  refine wpAny_bind (wpAny_standAt (wpAny_bind (wpAny_holding (thn (hs pins s2 σ H2 x y v ov iv u _ I2 r1 r2 r q2) fun _ s3 ⟨H3, I3, q3⟩ => ?_))))
  exact wpAny_release ⟨σ, H3, I3, q3⟩
def tAsg (te : TE) (g : TG) : TS := fun D σ H => te σ H fun x H1 => g x σ H1 D.nx
theorem ps_asg {tg e : Expr} {te : TE} {g : TG} (he : PE X e te) (hg : PG X tg g) (hs : swapsWithSole [tg] e pos.line X.env = pure false := by rfl) (hw : swappedStores [tg] e X.env = pure none := by rfl)
    (h1 : (assignEach [tg] X.env).map (·.2) = [assign tg X.env] := by rfl) : PS X (.Assign [tg] e pos) (tAsg te g) := by
  intro pins s σ H D I h
  refine wpAny_Assign_stores (thn (he pins s σ H _ I h) fun v s1 ⟨x, H1, I1, r1, q1⟩ => ?_) hs hw
  rw [h1]
  exact thn (hg pins s1 σ H1 x v _ I1 r1 q1) fun _ s2 q => q
theorem ps_set {i : Nat} {x : Str} {e : Expr} {te : TE} {pos' : Pos} (hN : X.N.Nodup) (hi : X.N[i]? = some x) (hx : Loc X.env.scope x) (he : PE X e te) (hs : swapsWith e (some (.Name x pos')) pos.line X.env = pure false := by rfl) (hf : X.fn x = true ∨ X.env.scope.names.lookup x = some .local := by first | exact .inl rfl | exact .inr rfl | assumption) :
    PS X (.Assign [.Name x pos'] e pos) (tAsg te (gName i)) := by
  intro pins s σ H D I h
  refine wpAny_Assign_Name (thn (he pins s σ H _ I h) fun v s1 ⟨y, H1, I1, r1, q1⟩ => ?_) hs
  exact store_ok I1 hN hi hx r1 (fun s2 I2 => ⟨_, H1, I2, q1⟩) hf
def tAug (i : Nat) (te : TE) (ti : TIp) : TS := fun D σ H => ∃ x, σ[i]? = some (some x) ∧ te σ H fun y H1 => ti x y H1 fun z H2 => D.nx (σ.set i (some z)) H2
theorem ps_aug {i : Nat} {x : Str} {e : Expr} {te : TE} {op : Operator} {ti : TIp} {pos' : Pos} (hN : X.N.Nodup) (hi : X.N[i]? = some x) (hx : Loc X.env.scope x) (he : PE X e te) (ho : PIp X op ti) (hf : X.fn x = true ∨ X.env.scope.names.lookup x = some .local := by first | exact .inl rfl | exact .inr rfl | assumption) :
    PS X (.AugAssign (.Name x pos') op e pos) (tAug i te ti) := by
  intro pins s σ H D I h
  obtain ⟨v, e1, h⟩ := h
  obtain ⟨m, hn, hl⟩ := I.loc
  have vis : Vis X.env.scope x := by rcases hx with k | k; exact .inl k; exact .inr (.inl k)
  obtain ⟨u, r, l⟩ := hl i x v hi e1 vis
  refine wpAny_AugAssign_Name ?_
  have go : wpAny (model X.prog X.w) X.A (eval e X.env) (fun w s₂ => wpAny (model X.prog X.w) X.A (inplaceOp op u w) (fun r s₃ => wpAny (model X.prog X.w) X.A (storeName X.env x r) (fun _ => SP X pins D .next) X.xe s₃) X.xe s₂) X.xe s := by
    refine thn (he pins s σ H _ I h) fun w s1 ⟨y, H1, I1, r1, q1⟩ => ?_
    refine thn (ho pins s1 σ H1 v y u w _ I1 r r1 q1) fun z s2 ⟨zv, H2, I2, r2, q2⟩ => ?_
    exact store_ok I2 hN hi hx r2 (fun s3 I3 => ⟨_, H2, I3, q2⟩) hf
  rcases l with ⟨hk, hm⟩ | ⟨hk, c, hc, hcell⟩
  · exact wpAny_loadName_local I.ok.kind hk hn hm go
  · rcases hk with hk | hk
    · exact wpAny_loadName_cell I.ok.kind hk hc hcell go
    · rcases hx with k | k
      · have : X.env.scope.names.lookup x = some .free := hk
        rw [k] at this; cases this
      · have : X.env.scope.names.lookup x = some .free := hk
        rw [k] at this; cases this
def ipI (f : Int → Int → Int) : TIp := fun x y H Q => ∃ i j, x = .int i ∧ y = .int j ∧ Q (.int (f i j)) H
theorem ip_add : PIp X .Add (ipI fun i j => i + j) := by
  intro pins s σ H x y v u Q I r1 r2 h
  obtain ⟨i, j, e1, e2, q⟩ := h
  subst e1; subst e2
  obtain ⟨t, rfl⟩ := r1
  obtain ⟨t', rfl⟩ := r2
  exact iadd_int ⟨.int _, H, I.tok _, ⟨_, rfl⟩, q⟩
theorem ip_sub : PIp X .Sub (ipI fun i j => i - j) := by
  intro pins s σ H x y v u Q I r1 r2 h
  obtain ⟨i, j, e1, e2, q⟩ := h
  subst e1; subst e2
  obtain ⟨t, rfl⟩ := r1
  obtain ⟨t', rfl⟩ := r2
  exact isub_int ⟨.int _, H, I.tok _, ⟨_, rfl⟩, q⟩
end
section
variable {X : Cx} {pos : Pos}
def tWhile (c : TT) (tb : TS) : TS := fun D σ H => ∃ W : Nat → St → Hp → Prop, (∃ m, W m σ H) ∧ ∀ m σ H, W m σ H →
  c σ H fun b H1 => if b = true then ∃ N : St → Hp → Prop, (∀ σ' H', N σ' H' → ∃ m', m' < m ∧ W m' σ' H') ∧ tb { D with nx := N, ct := N, bk := D.nx } σ H1 else D.nx σ H1
theorem ps_while {c : Expr} {body : List Stmt} {tc : TT} {tb : TS} (hp : PassesOwn (model X.prog X.w) X.A X.env X.xe) (hc : PT X c tc) (hb : PSs X body tb) : PS X (.While c body [] pos) (tWhile tc tb) := by
  intro pins s σ H D I h
  obtain ⟨W, ⟨m0, w0⟩, turn⟩ := h
  refine wpAny_While (codeAny_whileLoop (fun n s' => ∃ σ' H', Inv X pins σ' H' s' ∧ W n σ' H') ?_ m0 ⟨σ, H, I, w0⟩)
  rintro n s1 ⟨σ1, H1, I1, w1⟩
  refine wpAny_passesOwn hp (thn (hc pins s1 σ1 H1 _ I1 (turn n σ1 H1 w1)) fun b s2 ⟨H2, I2, q2⟩ => ?_)
  cases b with
  | true =>
    obtain ⟨N, hN, q2⟩ := q2
    rw [if_pos rfl]
    refine wpAny_passesOwn hp (thn (hb pins s2 σ1 H2 _ I2 q2) fun f s3 q3 => ?_)
    cases f with
    | next =>
      obtain ⟨σ3, H3, I3, n3⟩ := q3
      obtain ⟨m', hm, w3⟩ := hN σ3 H3 n3
      exact ⟨m', hm, σ3, H3, I3, w3⟩
    | cont =>
      obtain ⟨σ3, H3, I3, n3⟩ := q3
      obtain ⟨m', hm, w3⟩ := hN σ3 H3 n3
      exact ⟨m', hm, σ3, H3, I3, w3⟩
    | brk => exact q3
    | ret v => exact q3
  | false =>
    rw [if_neg Bool.false_ne_true]
    exact wpAny_execs_nil ⟨σ1, H2, I2, q2⟩
end
structure It where
  go : Nat → Hp → Prop
  yld : Nat → Hp → V → Hp → Prop
  stop : Nat → Hp → Prop
def FpOk (X : Cx) (pins : List (Addr × Obj)) (H : Hp) (b : Addr) : Prop :=
  H b = none ∧ b ≠ X.env.locals ∧ b ∉ X.fs ∧ (b ∈ X.ex ∨ X.s₀.heap.objs.size ≤ b) ∧ (∀ x c, X.env.cells.lookup x = some c → c ≠ b) ∧ ∀ p ∈ X.pn ++ pins, p.1 ≠ b
theorem Inv.fpOk {X : Cx} {pins : List (Addr × Obj)} {σ : St} {H H' : Hp} {s : Shared} {b : Addr} (I : Inv X pins σ H s) (hb : s.heap.objs.size ≤ b) (hn : H' b = none) : FpOk X pins H' b := by
  refine ⟨hn, Nat.ne_of_gt (Nat.lt_of_lt_of_le I.lt hb), I.nofs hb, .inr (Nat.le_trans I.sz hb), fun x c e z => ?_, fun p hp z => ?_⟩
  · obtain ⟨v, q⟩ := I.cell x c e
    exact absurd (Nat.lt_of_lt_of_le q.lt (by rw [z]; exact hb)) (Nat.lt_irrefl _)
  · exact absurd (Nat.lt_of_lt_of_le (Heap.lt_size (I.pin p hp).1) (by rw [z]; exact hb)) (Nat.lt_irrefl _)
structure Turn (P : Program) (w : World) (K : PySem.W.Frag) (tg : Expr) (J : It) (fp : List Addr) (it : Addr) (tn : Nat → Heap → Prop) : Prop where
  mem : it ∈ fp
  obj : ∀ i h, tn i h → ∀ b ∈ fp, ∃ o, h.get? b = some o ∧ ∀ v, o.data ≠ .cell v
  keep : ∀ i h h', tn i h → (∀ b ∈ fp, ∀ o, h.get? b = some o → h'.get? b = some o) → tn i h'
  item : ∀ (X : Cx), X.prog = P → X.w = w → X.K = K → X.calm = true → ∀ (i : Nat) (pins : List (Addr × Obj)) (s : Shared) (σ : St) (H : Hp) (E : Value → Shared → Prop), Inv X pins σ H s → (∀ b ∈ fp, FpOk X pins H b) → tn i s.heap → J.go i H →
    wpAny (model P w) X.A (pyNext (.ref it)) (fun r s1 => ∃ u, r = some u ∧
      wpAny (model P w) X.A (letOwnedTupleGo tg (.ref it) u) (fun _ s2 => ∃ x H', Inv X pins σ H' s2 ∧ RelV x u ∧ J.yld i H x H' ∧ tn (i + 1) s2.heap ∧ ∀ b ∈ fp, H' b = none) E s1) E s
  done : ∀ (X : Cx), X.prog = P → X.w = w → X.K = K → X.calm = true → ∀ (i : Nat) (pins : List (Addr × Obj)) (s : Shared) (σ : St) (H : Hp) (E : Value → Shared → Prop), Inv X pins σ H s → (∀ b ∈ fp, FpOk X pins H b) → tn i s.heap → J.stop i H →
    wpAny (model P w) X.A (pyNext (.ref it)) (fun r s1 => r = none ∧ Inv X pins σ H s1) E s
  self : ∀ (A : Around) (i : Nat) (s : Shared) (Q : Value → Shared → Prop) (E : Value → Shared → Prop), tn i s.heap → Q (.ref it) s → wpAny (model P w) A (pyIter (.ref it)) Q E s
abbrev TI := St → Hp → (It → Hp → Prop) → Prop
def PIE (X : Cx) (pins : List (Addr × Obj)) (σ : St) (tg : Expr) (R : It → Hp → Prop) (itv : Value) (s2 : Shared) : Prop :=
  ∃ (it : Addr) (fp : List Addr) (tn : Nat → Heap → Prop) (J : It) (H' : Hp), itv = .ref it ∧ Inv X pins σ H' s2 ∧ Turn X.prog X.w X.K tg J fp it tn ∧ tn 0 s2.heap ∧ (∀ b ∈ fp, FpOk X pins H' b) ∧ R J H'
def PI (X : Cx) (tg iter : Expr) (wi : TI) : Prop :=
  ∀ (pins : List (Addr × Obj)) (s : Shared) (σ : St) (H : Hp) (R : It → Hp → Prop), Inv X pins σ H s → wi σ H R →
    wpAny (model X.prog X.w) X.A (eval iter X.env) (fun v s1 => wpAny (model X.prog X.w) X.A (pyIter v) (PIE X pins σ tg R) X.xe s1) X.xe s
theorem go_of {M : Model} {A : Around} {E : Value → Shared → Prop} {s : Shared} {tg : Expr} {it : Addr} {u : Value} {o : Obj} {n : String} {vs : Array Value} {Q : Unit → Shared → Prop} (ho : s.heap.get? it = some o) (hc : o.cls = .type n) (hd : o.data = .fields vs)
    (hn : ["enumerate", "zip", "dict_itemiterator", "dict_reverseitemiterator", "odict_iterator", "itertools.zip_longest", "itertools.pairwise"].contains n = false) (hQ : Q () s) : wpAny M A (letOwnedTupleGo tg (.ref it) u) Q E s := by
  unfold letOwnedTupleGo
  cases tg <;> first
    | exact wpAny_pure hQ
    | (cases u <;> first
        | exact wpAny_pure hQ
        | (refine wpAny_bind (wpAny_load ho ?_)
           rw [hc, hd]
           show wpAny M A (if (["enumerate", "zip", "dict_itemiterator", "dict_reverseitemiterator", "odict_iterator", "itertools.zip_longest", "itertools.pairwise"].contains n && vs[0]? == some (rawInt _)) = true then _ else _) Q E s
           rw [if_neg (by intro h; rw [hn, Bool.false_and] at h; cases h)]
           exact wpAny_pure hQ))
def Itl (K : PySem.W.Frag) (a : Addr) : It :=
  ⟨fun i H => ∃ xs x, SqL K H a xs ∧ xs[i]? = some x, fun i H x H' => H' = H ∧ ∀ xs, SqL K H a xs → xs[i]? = some x, fun i H => ∃ xs, SqL K H a xs ∧ xs.length ≤ i⟩
def Itt (K : PySem.W.Frag) (a : Addr) : It :=
  ⟨fun i H => ∃ xs x, SqT K H a xs ∧ xs[i]? = some x, fun i H x H' => H' = H ∧ ∀ xs, SqT K H a xs → xs[i]? = some x, fun i H => ∃ xs, SqT K H a xs ∧ xs.length ≤ i⟩
def Itr (lo : Int) (n : Nat) : It := ⟨fun i _ => i < n, fun i H x H' => H' = H ∧ x = .int (lo + i), fun i _ => n ≤ i⟩
theorem turn_list {P : Program} {w : World} {K : PySem.W.Frag} {tg : Expr} (a it : Addr) : Turn P w K tg (Itl K a) [it] it (fun i h => h.IsListIter it a i) where
  mem := by simp
  obj := fun i h st b hb => by
    have e : b = it := by simpa using hb
    subst e
    obtain ⟨o, e, c, d⟩ := st
    exact ⟨o, e, fun v z => by rw [d] at z; cases z⟩
  keep := fun i h h' st k => st.at fun o e => k it (by simp) o e
  item := by
    intro X hP hw hK hc i pins s σ H E I hf st hg
    subst hP hw hK
    obtain ⟨xs, x, hq, hx⟩ := hg
    obtain ⟨its, rv, p, hz⟩ := I.list hq
    obtain ⟨u, hu, ru⟩ := rv.get hx
    obtain ⟨f0, f1, f2, f3, f4, f5⟩ := hf it (by simp)
    refine wpAny_pyNext_list_item st p.isList (x := u) (by simpa using hu) fun h' st' sb => ?_
    have I1 : Inv X pins σ H { s with heap := h' } := I.turned (t' := s.toks) (fun b o hb e => (sb.2 b hb).trans e) f0 f1 f3 f4 f5
    obtain ⟨o, e, c, d⟩ := id st'
    exact ⟨u, rfl, go_of (s := { s with heap := h' }) e c d (by decide) ⟨x, H, I1, ru, ⟨rfl, fun ys hy => by rw [I.list_inj hy hq]; exact hx⟩, st', fun b hb => (hf b hb).1⟩⟩
  done := by
    intro X hP hw hK hc i pins s σ H E I hf st hg
    subst hP hw hK
    obtain ⟨xs, hq, hx⟩ := hg
    obtain ⟨its, rv, p, hz⟩ := I.list hq
    obtain ⟨f0, f1, f2, f3, f4, f5⟩ := hf it (by simp)
    have hl := rv.length
    exact wpAny_pyNext_list_end (I.ok.hd hc) st p.isList (by simp; omega) fun h' eb => ⟨rfl, I.turned (t' := s.toks) (fun b o hb e => eb b o hb e) f0 f1 f3 f4 f5⟩
  self := fun _ _ _ _ _ st h => wpAny_pyIter_listiter st h
theorem turn_tuple {P : Program} {w : World} {K : PySem.W.Frag} {tg : Expr} (a it : Addr) : Turn P w K tg (Itt K a) [it] it (fun i h => h.IsTupleIter it a i) where
  mem := by simp
  obj := fun i h st b hb => by
    have e : b = it := by simpa using hb
    subst e
    obtain ⟨o, e, c, d⟩ := st
    exact ⟨o, e, fun v z => by rw [d] at z; cases z⟩
  keep := fun i h h' st k => st.at fun o e => k it (by simp) o e
  item := by
    intro X hP hw hK hc i pins s σ H E I hf st hg
    subst hP hw hK
    obtain ⟨xs, x, hq, hx⟩ := hg
    obtain ⟨its, rv, p, hz⟩ := I.tuple hq
    obtain ⟨u, hu, ru⟩ := rv.get hx
    obtain ⟨f0, f1, f2, f3, f4, f5⟩ := hf it (by simp)
    refine wpAny_pyNext_tuple_item st (show s.heap.IsTuple a its.toArray from p) (x := u) (by simpa using hu) fun h' st' sb => ?_
    have I1 : Inv X pins σ H { s with heap := h' } := I.turned (t' := s.toks) (fun b o hb e => (sb.2 b hb).trans e) f0 f1 f3 f4 f5
    obtain ⟨o, e, c, d⟩ := id st'
    exact ⟨u, rfl, go_of (s := { s with heap := h' }) e c d (by decide) ⟨x, H, I1, ru, ⟨rfl, fun ys hy => by rw [I.tuple_inj hy hq]; exact hx⟩, st', fun b hb => (hf b hb).1⟩⟩
  done := by
    intro X hP hw hK hc i pins s σ H E I hf st hg
    subst hP hw hK
    obtain ⟨xs, hq, hx⟩ := hg
    obtain ⟨its, rv, p, hz⟩ := I.tuple hq
    obtain ⟨f0, f1, f2, f3, f4, f5⟩ := hf it (by simp)
    have hl := rv.length
    exact wpAny_pyNext_tuple_end (I.ok.hd hc) st (show s.heap.IsTuple a its.toArray from p) (by simp; omega) fun h' eb => ⟨rfl, I.turned (t' := s.toks) (fun b o hb e => eb b o hb e) f0 f1 f3 f4 f5⟩
  self := fun _ _ _ _ _ st h => wpAny_pyIter_tupleiter st h
theorem turn_range {P : Program} {w : World} {K : PySem.W.Frag} {tg : Expr} (it : Addr) (lo : Int) (n : Nat) : Turn P w K tg (Itr lo n) [it] it (fun i h => IsRangeIter h it (lo + (i : Nat) * 1) ((n : Int) - (i : Nat)) 1) where
  mem := by simp
  obj := fun i h st b hb => by
    have e : b = it := by simpa using hb
    subst e
    exact ⟨_, st, fun v z => by
      have z' : Data.fields _ = Data.cell v := z
      cases z'⟩
  keep := fun i h h' st k => k it (by simp) _ st
  item := by
    intro X hP hw hK hc i pins s σ H E I hf st hg
    subst hP hw hK
    obtain ⟨f0, f1, f2, f3, f4, f5⟩ := hf it (by simp)
    have W := Walks.range (prog := X.prog) (w := X.w) (I.ok.hd hc) it lo 1 n
    refine W.item i s _ _ hg st fun v h' tk hv st' kk => ?_
    obtain ⟨t, rfl⟩ := hv
    have I1 : Inv X pins σ H { s with heap := h', toks := tk } := I.turned (fun b o hb e => kk b o (by simpa using hb) e) f0 f1 f3 f4 f5
    refine ⟨_, rfl, go_of (s := { s with heap := h', toks := tk }) (n := "range_iterator") st' rfl rfl (by decide) ⟨.int (lo + i), H, I1, ⟨t, ?_⟩, ⟨rfl, rfl⟩, st', fun b hb => (hf b hb).1⟩⟩
    rw [Int.mul_one]
  done := by
    intro X hP hw hK hc i pins s σ H E I hf st hg
    subst hP hw hK
    obtain ⟨f0, f1, f2, f3, f4, f5⟩ := hf it (by simp)
    exact wpAny_pyNext_range_end (I.ok.hd hc) st (by have : n ≤ i := hg; omega) fun h' eb => ⟨rfl, I.turned (t' := s.toks) (fun b o hb e => eb b o hb e) f0 f1 f3 f4 f5⟩
  self := fun _ _ _ _ _ st h => wpAny_pyIter_rangeiter st h
end L2
namespace L2
open PySem PySem.Spec PyProof.Rows
section
variable {X : Cx} {tg : Expr}
theorem range_it {pins : List (Addr × Obj)} {σ : St} {H : Hp} {s : Shared} {R : It → Hp → Prop} {E : Value → Shared → Prop} {lo hi : Int} {t u v : Tok} {tk : Nat} (I : Inv X pins σ H s) (h1 : -(2 ^ 62) ≤ lo) (h2 : lo < 2 ^ 62) (h3 : -(2 ^ 62) ≤ hi) (h4 : hi < 2 ^ 62)
    (q : R (Itr lo (hi - lo).toNat) H) : wpAny (model X.prog X.w) X.A (pyIter (.ref s.heap.objs.size)) (PIE X pins σ tg R) E { s with heap := s.heap.push { cls := .type "range", data := .fields #[.int lo t, .int hi u, .int 1 v] }, toks := tk } := by
  refine wpAny_pyIter_range (IsRange.new ..) (small_one h1 h2 h3 h4) ?_
  have I1 : Inv X pins σ H { s with heap := s.heap.push { cls := .type "range", data := .fields #[.int lo t, .int hi u, .int 1 v] }, toks := tk } := I.kept fun b o e => Heap.get?_push_of_some _ e
  refine ⟨(s.heap.push { cls := .type "range", data := .fields #[.int lo t, .int hi u, .int 1 v] }).objs.size, [(s.heap.push { cls := .type "range", data := .fields #[.int lo t, .int hi u, .int 1 v] }).objs.size], _, _, H, rfl,
    I1.kept (t' := tk) fun b o e => Heap.get?_push_of_some _ e, turn_range _ lo (hi - lo).toNat, ?_, fun b hb => ?_, q⟩
  · have e1 : lo + ((0 : Nat) : Int) * 1 = lo := by simp
    have e2 : (((hi - lo).toNat : Nat) : Int) - ((0 : Nat) : Int) = Builtin.Range.rangeSize lo hi 1 := by rw [rangeSize_one]; split <;> omega
    show IsRangeIter _ _ (lo + ((0 : Nat) : Int) * 1) ((((hi - lo).toNat : Nat) : Int) - ((0 : Nat) : Int)) 1
    rw [e1, e2]
    exact Heap.get?_push_size _ rfl
  · have e : b = (s.heap.push { cls := .type "range", data := .fields #[.int lo t, .int hi u, .int 1 v] }).objs.size := by simpa using hb
    subst e
    exact I1.fpOk (Nat.le_refl _) (I1.hok.fresh (Nat.le_refl _))
def iRng1 (ta : TA) : TI := fun σ H R => ta σ H fun vs H1 => ∃ j : Int, vs = [.int j] ∧ -(2 ^ 62) ≤ j ∧ j < 2 ^ 62 ∧ R (Itr 0 j.toNat) H1
def iRng2 (ta : TA) : TI := fun σ H R => ta σ H fun vs H1 => ∃ i j : Int, vs = [.int i, .int j] ∧ (-(2 ^ 62) ≤ i ∧ i < 2 ^ 62 ∧ -(2 ^ 62) ≤ j ∧ j < 2 ^ 62) ∧ R (Itr i (j - i).toNat) H1
theorem pi_range1 {a : Expr} {ta : TA} {p pos : Pos} (hg : Gl X "range") (hm : X.mg "range" = none) (ha : PA X [a] ta) (hs : starEach [a] X.env = [(false, eval a X.env)] := by rfl) : PI X tg (.Call (.Name "range" p) [a] [] pos) (iRng1 ta) := by
  intro pins s σ H R I h
  refine Call_ (ld_blt I hg hm boot_range (PyProof.Rows.callWith_type1 (thn (ha pos pins s σ H _ I h) fun us s1 ⟨vs, H1, I1, r1, q1⟩ => ?_) hs rfl))
  obtain ⟨j, e, q1, q2, q⟩ := q1
  subst e
  cases r1 with
  | cons r rr =>
    cases rr
    obtain ⟨t, rfl⟩ := r
    exact call_range_1 (range_it I1 (by omega) (by omega) q1 q2 (by simpa using q))
theorem pi_range2 {a b : Expr} {ta : TA} {p pos : Pos} (hg : Gl X "range") (hm : X.mg "range" = none) (ha : PA X [a, b] ta) (hs : starEach [a, b] X.env = [(false, eval a X.env), (false, eval b X.env)] := by rfl) (hs2 : starEach [b] X.env = [(false, eval b X.env)] := by rfl) :
    PI X tg (.Call (.Name "range" p) [a, b] [] pos) (iRng2 ta) := by
  intro pins s σ H R I h
  refine Call_ (ld_blt I hg hm boot_range (PyProof.Rows.callWith_type1 (thn (ha pos pins s σ H _ I h) fun us s1 ⟨vs, H1, I1, r1, q1⟩ => ?_) (by rw [hs, hs2]) (by rw [hs2]; rfl)))
  obtain ⟨i, j, e, ⟨q1, q2, q3, q4⟩, q⟩ := q1
  subst e
  cases r1 with
  | cons r rr =>
    cases rr with
    | cons r' rr =>
      cases rr
      obtain ⟨t, rfl⟩ := r
      obtain ⟨t', rfl⟩ := r'
      exact call_range_2 (range_it I1 q1 q2 q3 q4 q)
def tFor (wi : TI) (g : TG) (tb : TS) : TS := fun D σ H => wi σ H fun J H1 => ∃ W : Nat → Nat → St → Hp → Prop, (∃ m, W 0 m σ H1) ∧ ∀ i m σ H, W i m σ H →
  (J.stop i H ∧ D.nx σ H) ∨ (J.go i H ∧ ∃ N : St → Hp → Prop, (∀ σ' H', N σ' H' → ∃ m', m' < m ∧ W (i + 1) m' σ' H') ∧ ∀ x H', J.yld i H x H' → g x σ H' fun σ2 H2 => tb { D with nx := N, ct := N, bk := D.nx } σ2 H2)
def pinsAt (fp : List Addr) (h : Heap) : List (Addr × Obj) := fp.filterMap fun b => (h.get? b).map fun o => (b, o)
theorem mem_pinsAt {fp : List Addr} {h : Heap} {b : Addr} {o : Obj} (hb : b ∈ fp) (e : h.get? b = some o) : (b, o) ∈ pinsAt fp h := List.mem_filterMap.mpr ⟨b, hb, by rw [e]; rfl⟩
theorem of_pinsAt {fp : List Addr} {h : Heap} {p : Addr × Obj} (hp : p ∈ pinsAt fp h) : p.1 ∈ fp ∧ h.get? p.1 = some p.2 := by
  obtain ⟨b, hb, e⟩ := List.mem_filterMap.mp hp
  cases q : h.get? b with
  | none => rw [q] at e; cases e
  | some o =>
    rw [q] at e
    have e' : (b, o) = p := Option.some.inj e
    subst e'
    exact ⟨hb, q⟩
theorem Inv.pinned {pins : List (Addr × Obj)} {σ : St} {H : Hp} {s : Shared} {fp : List Addr} (I : Inv X pins σ H s) (hf : ∀ b ∈ fp, FpOk X pins H b) (ho : ∀ b ∈ fp, ∃ o, s.heap.get? b = some o ∧ ∀ v, o.data ≠ .cell v) : Inv X (pins ++ pinsAt fp s.heap) σ H s :=
  I.pins_of fun p hp => (List.mem_append.mp hp).elim (fun z => I.pin p (List.mem_append_right _ z)) fun z => by
    obtain ⟨hb, e⟩ := of_pinsAt z
    obtain ⟨f0, f1, f2, _⟩ := hf p.1 hb
    obtain ⟨o, e', d⟩ := ho p.1 hb
    rw [e] at e'; cases e'
    exact ⟨e, f0, f1, f2, d⟩
theorem Inv.unpinned {pins pl : List (Addr × Obj)} {σ : St} {H : Hp} {s : Shared} (I : Inv X (pins ++ pl) σ H s) : Inv X pins σ H s := I.pins_of fun p hp => I.pin p (List.mem_append_right _ (List.mem_append_left _ hp))
theorem ps_for {iter : Expr} {body : List Stmt} {wi : TI} {g : TG} {tb : TS} {pos : Pos} (hp : PassesOwn (model X.prog X.w) X.A X.env X.xe) (hc : X.calm = true) (hi : PI X tg iter wi) (hg : PG X tg g) (hb : PSs X body tb)
    (hs : ∀ x, foldedSetIterable iter X.env x = pure x := by intro _; rfl) : PS X (.For tg iter body [] pos) (tFor wi g tb) := by
  intro pins s σ H D I h
  refine wpAny_For (thn (hi pins s σ H _ I h) fun v s1 h1 => thn h1 fun itv s2 h2 => ?_) hs
  obtain ⟨it, fp, tn, J, H2, e, I2, T, st2, f2, W, ⟨m0, w0⟩, turn⟩ := h2
  subst e
  -- what stays true of the iterator's objects through the loop
  have stat : ∀ {H' : Hp}, (∀ b ∈ fp, H' b = none) → ∀ b ∈ fp, FpOk X pins H' b := fun hn b hb => ⟨hn b hb, (f2 b hb).2⟩
  refine codeAny_forLoop_any (fun n s' => ∃ i σ' H', Inv X pins σ' H' s' ∧ tn i s'.heap ∧ (∀ b ∈ fp, H' b = none) ∧ W i n σ' H') ?_ m0 ⟨0, σ, H2, I2, st2, fun b hb => (f2 b hb).1, w0⟩
  rintro n s3 ⟨i, σ3, H3, I3, st3, fr3, w3⟩
  rcases turn i n σ3 H3 w3 with ⟨stop, qn⟩ | ⟨go, N, hN, step⟩
  · refine wpAny_passesOwn hp (thn (T.done X rfl rfl rfl hc i pins s3 σ3 H3 X.xe I3 (stat fr3) st3 stop) fun r s4 ⟨hr, I4⟩ => ?_)
    subst hr
    exact wpAny_execs_nil ⟨σ3, H3, I4, qn⟩
  · refine wpAny_passesOwn hp (thn (T.item X rfl rfl rfl hc i pins s3 σ3 H3 X.xe I3 (stat fr3) st3 go) fun r s4 ⟨u, hr, h4⟩ => ?_)
    subst hr
    refine wpAny_passesOwn hp (thn h4 fun _ s5 ⟨x, H5, I5, r5, y5, st5, fr5⟩ => ?_)
    have I5' := I5.pinned (stat fr5) (T.obj _ _ st5)
    refine wpAny_passesOwn hp (thn (hg _ s5 σ3 H5 x u _ I5' r5 (step x H5 y5)) fun _ s6 ⟨σ6, H6, I6, q6⟩ => ?_)
    refine wpAny_passesOwn hp (thn (hb _ s6 σ6 H6 _ I6 q6) fun f s7 q7 => ?_)
    have again : ∀ {σ7 : St} {H7 : Hp}, Inv X (pins ++ pinsAt fp s5.heap) σ7 H7 s7 → N σ7 H7 → ∃ m, m < n ∧ ∃ i σ' H', Inv X pins σ' H' s7 ∧ tn i s7.heap ∧ (∀ b ∈ fp, H' b = none) ∧ W i m σ' H' := fun {σ7 H7} I7 n7 => by
      obtain ⟨m', hm, w7⟩ := hN σ7 H7 n7
      refine ⟨m', hm, i + 1, σ7, H7, I7.unpinned, T.keep _ _ _ st5 fun b hb o e => (I7.pin (b, o) (List.mem_append_right _ (List.mem_append_right _ (mem_pinsAt hb e)))).1, fun b hb => ?_, w7⟩
      obtain ⟨o, e, d⟩ := T.obj _ _ st5 b hb
      exact (I7.pin (b, o) (List.mem_append_right _ (List.mem_append_right _ (mem_pinsAt hb e)))).2.1
    cases f with
    | next => obtain ⟨σ7, H7, I7, n7⟩ := q7; exact again I7 n7
    | cont => obtain ⟨σ7, H7, I7, n7⟩ := q7; exact again I7 n7
    | brk => obtain ⟨σ7, H7, I7, q7⟩ := q7; exact ⟨σ7, H7, I7.unpinned, q7⟩
    | ret v => obtain ⟨x7, σ7, H7, I7, r7, q7⟩ := q7; exact ⟨x7, σ7, H7, I7.unpinned, r7, q7⟩
end
end L2
namespace L2
open PySem PySem.Spec PyProof.Rows
abbrev R2 := V → V → Hp → VK → Prop
def OpR (X : Cx) (f : Value → Value → Sem Value) (r : R2) : Prop :=
  ∀ (pins : List (Addr × Obj)) (s : Shared) (σ : St) (H : Hp) (x y : V) (v u : Value) (Q : VK), Inv X pins σ H s → RelV x v → RelV y u → r x y H Q →
    wpAny (model X.prog X.w) X.A (f v u) (EP X pins σ Q) X.xe s
def UnR (X : Cx) (f : Value → Sem Value) (r : V → Hp → VK → Prop) : Prop :=
  ∀ (pins : List (Addr × Obj)) (s : Shared) (σ : St) (H : Hp) (x : V) (v : Value) (Q : VK), Inv X pins σ H s → RelV x v → r x H Q →
    wpAny (model X.prog X.w) X.A (f v) (EP X pins σ Q) X.xe s
def CallR (X : Cx) (f : Value) (r : List V → Hp → VK → Prop) : Prop :=
  ∀ (pins : List (Addr × Obj)) (s : Shared) (σ : St) (H : Hp) (xs : List V) (us : List Value) (Q : VK), Inv X pins σ H s → Vals xs us → r xs H Q →
    wpAny (model X.prog X.w) X.A (call f us) (EP X pins σ Q) X.xe s
def TruR (X : Cx) (r : V → Hp → (Bool → Hp → Prop) → Prop) : Prop :=
  ∀ (pins : List (Addr × Obj)) (s : Shared) (σ : St) (H : Hp) (x : V) (v : Value) (Q : Bool → Hp → Prop), Inv X pins σ H s → RelV x v → r x H Q →
    wpAny (model X.prog X.w) X.A (truthy v) (TP X pins σ Q) X.xe s
def tOp (r : R2) (ta tb : TE) : TE := fun σ H Q => ta σ H fun x H1 => tb σ H1 fun y H2 => r x y H2 Q
def tUn (r : V → Hp → VK → Prop) (ta : TE) : TE := fun σ H Q => ta σ H fun x H1 => r x H1 Q
def rI (C : Int → Int → Prop) (g : Int → Int → V) : R2 := fun x y H Q => ∃ i j, x = .int i ∧ y = .int j ∧ C i j ∧ Q (g i j) H
def rI0 (g : Int → Int → V) : R2 := fun x y H Q => ∃ i j, x = .int i ∧ y = .int j ∧ Q (g i j) H
def rU (g : Int → V) : V → Hp → VK → Prop := fun x H Q => ∃ i, x = .int i ∧ Q (g i) H
section
variable {X : Cx} {a b c : Expr} {ta tb tc : TE} {pos : Pos}
theorem binT (ha : PE X a ta) (hb : PE X b tb) {pins : List (Addr × Obj)} {s : Shared} {σ : St} {H : Hp} {R : V → V → Hp → Prop} (I : Inv X pins σ H s)
    (h : ta σ H fun x H1 => tb σ H1 fun y H2 => R x y H2) {Q : Value → Shared → Prop} {f : Value → Value → Sem Value}
    (hf : ∀ v u s2 x y H2, Inv X pins σ H2 s2 → RelV x v → RelV y u → R x y H2 → wpAny (model X.prog X.w) X.A (f v u) Q X.xe s2) :
    wpAny (model X.prog X.w) X.A (eval a X.env) (fun v s₁ => wpAny (model X.prog X.w) X.A (eval b X.env) (fun u s₂ => wpAny (model X.prog X.w) X.A (f v u) Q X.xe s₂) X.xe s₁) X.xe s := by
  refine thn (ha pins s σ H _ I h) fun v s1 ⟨x, H1, I1, r1, q1⟩ => ?_
  refine thn (hb pins s1 σ H1 _ I1 q1) fun u s2 ⟨y, H2, I2, r2, q2⟩ => ?_
  exact hf v u s2 x y H2 I2 r1 r2 q2
theorem pe_op {op : Operator} {r : R2} (ho : OpR X (binaryOp op) r) (ha : PE X a ta) (hb : PE X b tb) : PE X (.BinOp a op b pos) (tOp r ta tb) := by
  intro pins s σ H Q I h
  exact wpAny_BinOp (binT ha hb I h fun v u s2 x y H2 I2 rx ry q => ho pins s2 σ H2 x y v u Q I2 rx ry q)
theorem pe_un {op : UnaryOp} {r : V → Hp → VK → Prop} (ho : UnR X (unaryOp op) r) (ha : PE X a ta) : PE X (.UnaryOp op a pos) (tUn r ta) := by
  intro pins s σ H Q I h
  exact UnaryOp_ (thn (ha pins s σ H _ I h) fun v s1 ⟨x, H1, I1, r1, q1⟩ => ho pins s1 σ H1 x v Q I1 r1 q1)
theorem opI {f : Value → Value → Sem Value} {C : Int → Int → Prop} {g : Int → Int → Int}
    (rule : ∀ (i j : Int) (t u : Tok) (s : Shared) (Q : Value → Shared → Prop) (E : Value → Shared → Prop), C i j → Q (.int (g i j) s.toks) { s with toks := s.toks + 1 } → wpAny (model X.prog X.w) X.A (f (.int i t) (.int j u)) Q E s) :
    OpR X f (rI C fun i j => .int (g i j)) := by
  intro pins s σ H x y v u Q I rx ry h
  obtain ⟨i, j, rfl, rfl, hc, q⟩ := h
  obtain ⟨t, rfl⟩ := rx
  obtain ⟨t', rfl⟩ := ry
  exact rule i j t t' s _ _ hc ⟨.int (g i j), H, I.tok _, ⟨_, rfl⟩, q⟩
theorem opI0 {f : Value → Value → Sem Value} {g : Int → Int → Int}
    (rule : ∀ (i j : Int) (t u : Tok) (s : Shared) (Q : Value → Shared → Prop) (E : Value → Shared → Prop), Q (.int (g i j) s.toks) { s with toks := s.toks + 1 } → wpAny (model X.prog X.w) X.A (f (.int i t) (.int j u)) Q E s) :
    OpR X f (rI0 fun i j => .int (g i j)) := by
  intro pins s σ H x y v u Q I rx ry h
  obtain ⟨i, j, rfl, rfl, q⟩ := h
  obtain ⟨t, rfl⟩ := rx
  obtain ⟨t', rfl⟩ := ry
  exact rule i j t t' s _ _ ⟨.int (g i j), H, I.tok _, ⟨_, rfl⟩, q⟩
theorem opB0 {f : Value → Value → Sem Value} {g : Int → Int → Bool}
    (rule : ∀ (i j : Int) (t u : Tok) (s : Shared) (Q : Value → Shared → Prop) (E : Value → Shared → Prop), Q (.bool (g i j)) s → wpAny (model X.prog X.w) X.A (f (.int i t) (.int j u)) Q E s) :
    OpR X f (rI0 fun i j => .bl (g i j)) := by
  intro pins s σ H x y v u Q I rx ry h
  obtain ⟨i, j, rfl, rfl, q⟩ := h
  obtain ⟨t, rfl⟩ := rx
  obtain ⟨t', rfl⟩ := ry
  exact rule i j t t' s _ _ ⟨.bl (g i j), H, I, rfl, q⟩
def CPow (i j : Int) : Prop := 0 ≤ j ∧ j ≤ 1000000 ∧ i.natAbs < 2 ^ 64
theorem op_add : OpR X (binaryOp .Add) (rI0 fun i j => .int (i + j)) := opI0 fun _ _ _ _ _ _ _ q => add_int q
theorem op_sub : OpR X (binaryOp .Sub) (rI0 fun i j => .int (i - j)) := opI0 fun _ _ _ _ _ _ _ q => sub_int q
theorem op_pow : OpR X (binaryOp .Pow) (rI CPow fun i j => .int (i ^ j.toNat)) := opI fun _ _ _ _ _ _ _ hc q => pow_int_small hc.1 hc.2.1 hc.2.2 q
theorem unI {f : Value → Sem Value} {g : Int → Int}
    (rule : ∀ (i : Int) (t : Tok) (s : Shared) (Q : Value → Shared → Prop) (E : Value → Shared → Prop), Q (.int (g i) s.toks) { s with toks := s.toks + 1 } → wpAny (model X.prog X.w) X.A (f (.int i t)) Q E s) :
    UnR X f (rU fun i => .int (g i)) := by
  intro pins s σ H x v Q I rx h
  obtain ⟨i, rfl, q⟩ := h
  obtain ⟨t, rfl⟩ := rx
  exact rule i t s _ _ ⟨.int (g i), H, I.tok _, ⟨_, rfl⟩, q⟩
theorem un_neg : UnR X (unaryOp .USub) (rU fun i => .int (-i)) := unI fun _ _ _ _ _ q => neg_int q
end
section
variable {X : Cx} {a b c : Expr} {ta tb tc : TE} {pos : Pos}
theorem fin_bl {pins : List (Addr × Obj)} {σ : St} {H : Hp} {s : Shared} {Q : VK} {k k' : Bool} (I : Inv X pins σ H s) (q : Q (.bl k) H) (e : k = k') : EP X pins σ Q (.bool k') s := by
  subst e
  exact ⟨.bl k, H, I, rfl, q⟩
theorem op_lt : OpR X (compareOp .Lt) (rI0 fun i j => .bl (decide (i < j))) := opB0 fun _ _ _ _ _ _ _ q => lt_int q
theorem op_le : OpR X (compareOp .LtE) (rI0 fun i j => .bl (decide (i ≤ j))) := opB0 fun _ _ _ _ _ _ _ q => le_int q
theorem op_gt : OpR X (compareOp .Gt) (rI0 fun i j => .bl (decide (j < i))) := opB0 fun _ _ _ _ _ _ _ q => gt_int q
theorem op_ge : OpR X (compareOp .GtE) (rI0 fun i j => .bl (decide (j ≤ i))) := opB0 fun _ _ _ _ _ _ _ q => ge_int q
theorem op_lt_str : OpR X (compareOp .Lt) (fun x y H Q => ∃ i j, x = .str i ∧ y = .str j ∧ Q (.bl (decide (i.cps.toList < j.cps.toList))) H) := by
  intro pins s σ H x y v u Q I rx ry h
  obtain ⟨i, j, rfl, rfl, q⟩ := h
  obtain ⟨t, rfl⟩ := rx
  obtain ⟨t', rfl⟩ := ry
  exact lt_str (fin_bl I q rfl)
theorem op_in_str : OpR X (compareOp .In) (fun x y H Q => ∃ i j, x = .str i ∧ y = .str j ∧ Q (.bl (!(Builtin.Str.occurrences j i 0 j.length 1).isEmpty)) H) := by
  intro pins s σ H x y v u Q I rx ry h
  obtain ⟨i, j, rfl, rfl, q⟩ := h
  obtain ⟨t, rfl⟩ := rx
  obtain ⟨t', rfl⟩ := ry
  exact in_str (fin_bl I q rfl)
theorem op_isN : OpR X (compareOp .Is) (fun x y H Q => y = .non ∧ Q (.bl (decide (x = .non))) H) := by
  intro pins s σ H x y v u Q I rx ry h
  obtain ⟨rfl, q⟩ := h
  cases ry
  refine is_none_gen (fin_bl I q ?_)
  cases x <;> first
    | (cases rx; rfl)
    | (obtain ⟨t, rfl⟩ := rx; rfl)
theorem op_notN : OpR X (compareOp .IsNot) (fun x y H Q => y = .non ∧ Q (.bl (!decide (x = .non))) H) := by
  intro pins s σ H x y v u Q I rx ry h
  obtain ⟨rfl, q⟩ := h
  cases ry
  refine isnot_none_gen (fin_bl I q ?_)
  cases x <;> first
    | (cases rx; rfl)
    | (obtain ⟨t, rfl⟩ := rx; rfl)
theorem pe_cmpR {op : CmpOp} {r : R2} (ho : OpR X (compareOp op) r) (ha : PE X a ta) (hb : PE X b tb) (hm : behindInMarks op b = false) : PE X (.Compare a [op] [b] pos) (tOp r ta tb) := by
  intro pins s σ H Q I h
  exact wpAny_Compare1 (binT ha hb I h fun v u s2 x y H2 I2 rx ry q => ho pins s2 σ H2 x y v u Q I2 rx ry q) hm
def tTest (t : TE) : TT := fun σ H Q => t σ H fun x H' => ∃ k, x = .bl k ∧ Q k H'
theorem pt_cmpR {op : CmpOp} {r : R2} (ho : OpR X (compareOp op) r) (ha : PE X a ta) (hb : PE X b tb) (hm : behindInMarks op b = false) : PT X (.Compare a [op] [b] pos) (tTest (tOp r ta tb)) := by
  intro pins s σ H Q I h
  refine wpAny_isTrue_Compare1 (thn (ha pins s σ H _ I h) fun v s1 ⟨x, H1, I1, r1, q1⟩ => thn (hb pins s1 σ H1 _ I1 q1) fun u s2 ⟨y, H2, I2, r2, q2⟩ =>
    thn (ho pins s2 σ H2 x y v u _ I2 r1 r2 q2) fun c s3 ⟨z, H3, I3, r3, k, e, q3⟩ => ?_) hm
  subst e
  cases r3
  exact wpAny_truthy_bool ⟨H3, I3, q3⟩
def tChain (r r' : R2) (ta tb tc : TE) : TE := fun σ H Q => ta σ H fun x H1 => tb σ H1 fun y H2 => r x y H2 fun z H3 => ∃ k, z = .bl k ∧
  (if k = true then tc σ H3 fun w' H4 => r' y w' H4 Q else Q (.bl false) H3)
theorem pe_chain {op op' : CmpOp} {r r' : R2} (ho : OpR X (compareOp op) r) (ho' : OpR X (compareOp op') r') (ha : PE X a ta) (hb : PE X b tb) (hc : PE X c tc)
    (hm : lastMarks [op, op'] [b, c] = false := by with_unfolding_all rfl) : PE X (.Compare a [op, op'] [b, c] pos) (tChain r r' ta tb tc) := by
  intro pins s σ H Q I h
  refine Compare_chain (thn (ha pins s σ H _ I h) fun v s1 ⟨x, H1, I1, r1, q1⟩ => chain_link (thn (hb pins s1 σ H1 _ I1 q1) fun u s2 ⟨y, H2, I2, r2, q2⟩ =>
    thn (ho pins s2 σ H2 x y v u _ I2 r1 r2 q2) fun d s3 ⟨z, H3, I3, r3, k, e, q3⟩ => ?_)) hm
  subst e
  cases r3
  refine wpAny_truthy_bool ?_
  cases k with
  | false => exact ite_ff ⟨.bl false, H3, I3, rfl, q3⟩
  | true => exact ite_tt (chain_last (thn (hc pins s3 σ H3 _ I3 q3) fun w' s4 ⟨z', H4, I4, r4, q4⟩ => ho' pins s4 σ H4 y z' u w' Q I4 r2 r4 q4))
theorem pt_chain {op op' : CmpOp} {r r' : R2} (ho : OpR X (compareOp op) r) (ho' : OpR X (compareOp op') r') (ha : PE X a ta) (hb : PE X b tb) (hc : PE X c tc)
    (hm : lastMarks [op, op'] [b, c] = false := by with_unfolding_all rfl) : PT X (.Compare a [op, op'] [b, c] pos) (tTest (tChain r r' ta tb tc)) := by
  intro pins s σ H Q I h
  refine isTrue_chain (thn (ha pins s σ H _ I h) fun v s1 ⟨x, H1, I1, r1, q1⟩ => test_link (thn (hb pins s1 σ H1 _ I1 q1) fun u s2 ⟨y, H2, I2, r2, q2⟩ =>
    thn (ho pins s2 σ H2 x y v u _ I2 r1 r2 q2) fun d s3 ⟨z, H3, I3, r3, k, e, q3⟩ => ?_)) hm
  subst e
  cases r3
  refine wpAny_truthy_bool ?_
  cases k with
  | false =>
    obtain ⟨k', e', q'⟩ := q3
    cases e'
    exact ite_ff ⟨H3, I3, q'⟩
  | true =>
    refine ite_tt (test_last (thn (hc pins s3 σ H3 _ I3 q3) fun w' s4 ⟨z', H4, I4, r4, q4⟩ => thn (ho' pins s4 σ H4 y z' u w' _ I4 r2 r4 q4) fun d' s5 ⟨z2, H5, I5, r5, k2, e2, q5⟩ => ?_))
    subst e2
    cases r5
    exact wpAny_truthy_bool ⟨H5, I5, q5⟩
def TruV (K : PySem.W.Frag) (x : V) (H : Hp) (k : Bool) : Prop :=
  match x with
  | .non => k = false
  | .bl b => k = b
  | .int i => k = (i != 0)
  | .str y => y.length ≤ sizeLine ∧ k = ((y.length : Int) != 0)
  | .byt y => y.size ≤ sizeLine ∧ k = ((y.size : Int) != 0)
  | .ref p => (∃ xs, SqL K H p xs ∧ k = !xs.isEmpty) ∨ (∃ xs, SqT K H p xs ∧ k = !xs.isEmpty) ∨ ∃ kvs, H p = some (.dK kvs) ∧ k = !kvs.isEmpty
  | _ => False
theorem isEmpty_kv {κ : Type} {kvs : List (κ × V)} {vs : List (κ × Value)} (r : KV kvs vs) : (!vs.isEmpty) = !kvs.isEmpty := by
  cases r <;> rfl
theorem isEmpty_of {xs : List V} {its : List Value} (r : Vals xs its) : (!its.toArray.isEmpty) = !xs.isEmpty := by
  cases r <;> simp
theorem line63 : (sizeLine : Nat) < 2 ^ 63 := by rw [sizeLine_eq]; decide
theorem tru_ok : TruR X (fun x H Q => ∃ k, TruV X.K x H k ∧ Q k H) := by
  intro pins s σ H x v Q I rx h
  obtain ⟨k, e, q⟩ := h
  have hl := line63
  have hs : sizeLine = 16777216 := sizeLine_eq
  cases x with
  | non =>
    cases rx
    have e' : k = false := e
    subst e'
    exact truthy_none ⟨H, I, q⟩
  | bl b =>
    cases rx
    have e' : k = b := e
    subst e'
    exact wpAny_truthy_bool ⟨H, I, q⟩
  | int i =>
    obtain ⟨t, rfl⟩ := rx
    have e' : k = (i != 0) := e
    subst e'
    exact PySem.P.truthy_int ⟨H, I, q⟩
  | str y =>
    obtain ⟨t, rfl⟩ := rx
    obtain ⟨hy, e'⟩ : y.length ≤ sizeLine ∧ k = ((y.length : Int) != 0) := e
    subst e'
    exact PySem.P.truthy_str (by omega) ⟨H, I.tok _, q⟩
  | byt y =>
    obtain ⟨t, rfl⟩ := rx
    obtain ⟨hy, e'⟩ : y.size ≤ sizeLine ∧ k = ((y.size : Int) != 0) := e
    subst e'
    exact PySem.W.truthy_bytes (by omega) ⟨H, I.tok _, q⟩
  | ref p =>
    cases rx
    have e' : (∃ xs, SqL X.K H p xs ∧ k = !xs.isEmpty) ∨ (∃ xs, SqT X.K H p xs ∧ k = !xs.isEmpty) ∨ ∃ kvs, H p = some (.dK kvs) ∧ k = !kvs.isEmpty := e
    rcases e' with ⟨xs, hx, e'⟩ | ⟨xs, hx, e'⟩ | ⟨kvs, hx, e'⟩
    · subst e'
      obtain ⟨its, r, pl, hz⟩ := I.list hx
      have hlen := r.length
      exact wpAny_truthy_list pl.isList (by simp only [List.size_toArray]; omega) ⟨H, I.tok _, by rw [isEmpty_of r]; exact q⟩
    · subst e'
      obtain ⟨its, r, pl, hz⟩ := I.tuple hx
      have hlen := r.length
      exact truthy_tuple pl (by simp only [List.size_toArray]; omega) ⟨H, I.tok _, by rw [isEmpty_of r]; exact q⟩
    · subst e'
      obtain ⟨hz, hS, vs, r, m⟩ : kvs.length ≤ sizeLine ∧ (p == sysModules) = false ∧ ∃ vs, KV kvs vs ∧ s.heap.DictOf (mixKind X.prog X.w) p vs := I.hok p _ hx
      have hlen : kvs.length = vs.length := Paired.length r
      exact wpAny_truthy_dict hS m (by omega) ⟨H, I.tok _, by rw [isEmpty_kv r]; exact q⟩
  | _ => exact (show False from e).elim
theorem pt_truth (ha : PE X a ta) (he : ∀ whole, isTrue a X.env whole = (do let v ← whole; standAt a.pos; holding [v] (truthy v))) :
    PT X a (fun σ H Q => ta σ H fun x H' => ∃ k, TruV X.K x H' k ∧ Q k H') := by
  intro pins s σ H Q I h
  exact isTrue_plain (thn (ha pins s σ H _ I h) fun v s1 ⟨x, H1, I1, r1, q1⟩ => tru_ok pins s1 σ H1 x v Q I1 r1 q1) (he _)
theorem op_add_str : OpR X (binaryOp .Add) (fun x y H Q => ∃ i j, x = .str i ∧ y = .str j ∧ i.length + j.length ≤ sizeLine ∧ Q (.str (i ++ j)) H) := by
  intro pins s σ H x y v u Q I rx ry h
  obtain ⟨i, j, rfl, rfl, hz, q⟩ := h
  obtain ⟨t, rfl⟩ := rx
  obtain ⟨t', rfl⟩ := ry
  exact add_str (fun t' tk => ⟨.str (i ++ j), H, I.tok _, ⟨_, rfl⟩, q⟩) hz
theorem vals1 {x : V} {us : List Value} (r : Vals [x] us) : ∃ u, us = [u] ∧ RelV x u := by
  cases r with
  | cons r1 r2 => cases r2; exact ⟨_, rfl, r1⟩
theorem vals2 {x y : V} {us : List Value} (r : Vals [x, y] us) : ∃ u w', us = [u, w'] ∧ RelV x u ∧ RelV y w' := by
  cases r with
  | cons r1 r2 =>
    cases r2 with
    | cons r3 r4 => cases r4; exact ⟨_, _, rfl, r1, r3⟩
theorem call_abs : CallR X (.builtin "abs") (fun xs H Q => ∃ i, xs = [.int i] ∧ Q (.int (if i < 0 then -i else i)) H) := by
  intro pins s σ H xs us Q I r h
  obtain ⟨i, rfl, q⟩ := h
  obtain ⟨u, rfl, t, rfl⟩ := vals1 r
  exact call_abs_int fun u tk => ⟨.int (if i < 0 then -i else i), H, I.tok _, ⟨_, rfl⟩, q⟩
theorem call_min2 (hc : X.calm = true) : CallR X (.builtin "min") (fun xs H Q => ∃ i j, xs = [.int i, .int j] ∧ Q (.int (if j < i then j else i)) H) := by
  intro pins s σ H xs us Q I r h
  obtain ⟨i, j, rfl, q⟩ := h
  obtain ⟨u, w', rfl, ⟨t, rfl⟩, ⟨t', rfl⟩⟩ := vals2 r
  refine min_two_ints (I.ok.hd hc) fun h' tk k => ⟨_, H, I.kept k, ?_, q⟩
  by_cases hj : j < i
  · rw [if_pos hj, if_pos hj]; exact ⟨_, rfl⟩
  · rw [if_neg hj, if_neg hj]; exact ⟨_, rfl⟩
theorem call_ord : CallR X (.builtin "ord") (fun xs H Q => ∃ x, xs = [.str x] ∧ x.length = 1 ∧ Q (.int (x.cps.getD 0 0 : Nat)) H) := by
  intro pins s σ H xs us Q I r h
  obtain ⟨x, rfl, hz, q⟩ := h
  obtain ⟨u, rfl, t, rfl⟩ := vals1 r
  exact ord_of_one hz ⟨.int _, H, I.tok _, ⟨_, rfl⟩, q⟩
end
end L2
namespace L2
open PySem PySem.Spec PyProof.Rows
structure ObjM (h : Heap) (x dx C : Addr) (mA : Str → Option Value) : Prop where
  obj : h.get? x = some (PySem.W.instObj C dx)
  ns : h.Ns1 dx mA
  ne : dx ≠ x
section
variable {prog : Program} {w : World} {A : Around} {E : Value → Shared → Prop} {s : Shared} {K : PySem.W.Frag} {x dx C f : Addr} {mA : Str → Option Value} {name : Str} {v : Value}
end
section
variable {P : Program} {w : World} {H H' : Hp} {h h' : Heap} {a C dx : Addr} {fs fs' : List (Str × V)}
end
structure Cls (K : PySem.W.Frag) (C : Addr) : Prop where
  pg : PySem.W.plainGet K C Str.empty = true
  hd : PySem.W.hasDictIn K C = true
  po : PySem.W.plainOver K C = true
  sa : PySem.W.findIn K (.ref C) "__setattr__" = some (some (.builtin "object.__setattr__"))
structure Con (K : PySem.W.Frag) (C : Addr) (f : Str) (v : V) (u : Value) : Prop where
  at_ : PySem.W.findIn K (.ref C) f = some (some u)
  rel : RelV v u
  get : PySem.W.specialIn K u "__get__" = some none
  cp : PySem.W.copiedNames.contains f = false
structure Meth (K : PySem.W.Frag) (C : Addr) (m : Str) (f : Addr) : Prop where
  at_ : PySem.W.findIn K (.ref C) m = some (some (.ref f))
  fn : PySem.W.isFn K (.ref f) = true
  kp : PySem.W.keepIn K (.ref f) = true
section
variable {X : Cx} {pins : List (Addr × Obj)} {σ : St} {H : Hp} {s : Shared} {a C dx : Addr} {fs : List (Str × V)} {f : Str} {v : V} {A : Around} {E : Value → Shared → Prop}
end
section
variable {X : Cx} {o e value : Expr} {f : Str} {pos pos' tpos : Pos} {ta tv : TE}
end
section
variable {X : Cx} {pins : List (Addr × Obj)} {σ : St} {H : Hp} {s : Shared} {A : Around} {E : Value → Shared → Prop} {Q : Value → Shared → Prop} {c : Value} {b : Bool}
inductive TyOf (K : PySem.W.Frag) (H : Hp) : V → Value → Prop where
  | non : TyOf K H .non (.type "NoneType")
  | bl (x : Bool) : TyOf K H (.bl x) (.type "bool")
  | int (i : Int) : TyOf K H (.int i) (.type "int")
  | str (x : Str) : TyOf K H (.str x) (.type "str")
  | flt (x : UInt64) : TyOf K H (.flt x) (.type "float")
  | lst {a : Addr} {xs : List V} (e : H a = some (.lst xs)) : TyOf K H (.ref a) (.type "list")
  | frz {a : Addr} {o : Obj} {xs : List V} (e : H a = some (.frz o (.lst xs))) : TyOf K H (.ref a) (.type "list")
  | tup {a : Addr} {xs : List V} (e : H a = some (.tup xs)) : TyOf K H (.ref a) (.type "tuple")
  | dK {a : Addr} {kvs : List (Key × V)} (e : H a = some (.dK kvs)) : TyOf K H (.ref a) (.type "dict")
  | dT {a : Addr} {kvs : List (List Key × V)} (e : H a = some (.dT kvs)) : TyOf K H (.ref a) (.type "dict")
  | ins {a C dx : Addr} {fs : List (Str × V)} (e : H a = some (.ins C dx fs)) (cl : Cls K C) (ha : PySem.W.findIn K (.ref C) "__class__" = some (some (.builtin "object.__class__")))
      (hn : PySem.W.specialIn K (.builtin "object.__class__") "__get__" = some (some (.builtin "getset_descriptor.__get__"))) (htk : PySem.W.takesIn K (.builtin "object.__class__") = some true)
      (hm : PySem.W.mroIn K C (.type "object") = some true) : TyOf K H (.ref a) (.ref C)
end
end L2
namespace L2
open PySem PySem.Spec PyProof.Rows
structure Room (k : Nat) (A : Around) : Prop where
  hd : A.handled = none
  dp : A.depth + 3 * k + 5 < recursionLimit
  un : A.units + 16 * k + 200 < cLine
theorem Room.mono {j k : Nat} {A : Around} (r : Room k A) (h : j ≤ k) : Room j A := ⟨r.hd, by have := r.dp; omega, by have := r.un; omega⟩
theorem Room.deeper {k : Nat} {A : Around} (r : Room (k + 1) A) (env : Env) : Room k (A.deeper env) :=
  ⟨r.hd, by have := r.dp; show A.depth + 1 + 3 * k + 5 < _; omega, by have := r.un; show A.units + 3 + 16 * k + 200 < _; omega⟩
theorem Room.depth {k : Nat} {A : Around} (r : Room k A) : A.depth < recursionLimit := by have := r.dp; omega
def tNil : TA := fun _ H Q => Q [] H
def tCons (ta : TE) (tr : TA) : TA := fun σ H Q => ta σ H fun x H1 => tr σ H1 fun xs H2 => Q (x :: xs) H2
section
variable {X : Cx} {e : Expr} {es : List Expr} {te : TE} {t : TA} {pos : Pos}
theorem pa_nil : PA X [] tNil := fun _ _ _ _ H Q I h => Calls.spliced_nil ⟨[], H, I, .nil, h⟩
theorem pa_cons (ha : PE X e te) (hr : PA X es t) (hs : starEach (e :: es) X.env = (false, eval e X.env) :: starEach es X.env := by rfl) : PA X (e :: es) (tCons te t) := by
  intro pos pins s σ H Q I h
  rw [hs]
  show wpAny _ _ (spliced ((false, eval e X.env) :: backTo pos (starEach es X.env))) _ _ s
  refine Calls.spliced_cons (thn (ha pins s σ H _ I h) fun u s1 ⟨x, H1, I1, r1, q1⟩ => ?_)
  exact thn (hr pos pins s1 σ H1 _ I1 q1) fun us s2 ⟨xs, H2, I2, r2, q2⟩ => ⟨x :: xs, H2, I2, .cons r1 r2, q2⟩
def tTup (t : TA) : TE := fun σ H Q => t σ H fun xs H1 => xs.length ≤ sizeLine ∧ ∀ p, H1 p = none → Q (.ref p) (upd H1 p (.tup xs))
def tLst (t : TA) : TE := fun σ H Q => t σ H fun xs H1 => xs.length ≤ sizeLine ∧ ∀ p, H1 p = none → Q (.ref p) (upd H1 p (.lst xs))
theorem pe_tup {x1} (h : PA X es t) : PE X (.Tuple es x1 pos) (tTup t) := by
  intro pins s σ H Q I hq
  refine wpAny_Tuple_spliced (thn (h pos pins s σ H _ I hq) fun us s1 ⟨xs, H1, I1, r, z, q⟩ => ⟨by rw [← r.length]; exact z, ?_⟩)
  have hf : H1 s1.heap.objs.size = none := I1.hok.fresh (Nat.le_refl _)
  refine ⟨.ref s1.heap.objs.size, upd H1 s1.heap.objs.size (.tup xs), I1.laid (t' := s1.toks) (fun b u e => Heap.get?_push_of_some _ e) (Nat.le_refl _) ?_, rfl, q _ hf⟩
  exact ⟨z, us, r, ⟨_, Heap.get?_push_size _ rfl, rfl, _, rfl⟩, NoDi.new _ _⟩
theorem pe_lst (h : PA X es t) : PE X (.List es pos) (tLst t) := by
  intro pins s σ H Q I hq
  refine wpAny_List_spliced (thn (h pos pins s σ H _ I hq) fun us s1 ⟨xs, H1, I1, r, z, q⟩ => ⟨by rw [← r.length]; exact z, ?_⟩)
  have hf : H1 s1.heap.objs.size = none := I1.hok.fresh (Nat.le_refl _)
  refine ⟨.ref s1.heap.objs.size, upd H1 s1.heap.objs.size (.lst xs), I1.laid (t' := s1.toks) (fun b u e => Heap.get?_push_of_some _ e) (Nat.le_refl _) ?_, rfl, q _ hf⟩
  exact ⟨z, us, 0, r, Heap.get?_push_size _ rfl⟩
end
abbrev Sp := List V → Hp → VK → XK → Prop
abbrev CXT := List Env → Hp → Shared → XK → Value → Shared → Prop
structure Env0 (P : Program) (w : World) (K : PySem.W.Frag) (mg : Str → Option Value) (base : Heap) (A : Around) (outer : List Env) (s : Shared) (H : Hp) : Prop where
  frames : A.frames = some outer
  mod : Mod K mg base
  bs : ∀ b o, base.get? b = some o → s.heap.get? b = some o ∧ H b = none
  bsz : base.objs.size ≤ s.heap.objs.size
  funs : s.heap.FunFrames base outer
  frf : ∀ b ∈ frs outer, H b = none
  hok : HOk P w H s.heap
  bare : AllBare s.gens
def CE (outer : List Env) (P : Program) (w : World) (H : Hp) (s : Shared) (Q : VK) (u : Value) (s' : Shared) : Prop :=
  ∃ v H', s'.os = s.os ∧ AllBare s'.gens ∧ Un (frs outer) [] H H' s.heap s'.heap ∧ HOk P w H' s'.heap ∧ RelV v u ∧ Q v H'
def CR (CX : CXT) (outer : List Env) (P : Program) (w : World) (H : Hp) (s : Shared) (Q : VK) (E : XK) (r : Result) (s' : Shared) : Prop :=
  match r with
  | .ok (.ret u) => CE outer P w H s Q u s'
  | .ok _ => False
  | .error e => CX outer H s E e s'
structure FnOk (P : Program) (w : World) (K : PySem.W.Frag) (mg : Str → Option Value) (base : Heap) (CX : CXT) (k : Nat) (f : Addr) (fd : FuncData) (ps : List Str) (sp : Sp) : Prop where
  len : ∀ vs H Q E, sp vs H Q E → vs.length = ps.length
  run : ∀ (A : Around) (outer : List Env) (s : Shared) (H : Hp) (args : Args) (us : List Value) (vs : List V) (Q : VK) (E : XK), Room k A → Env0 P w K mg base A outer s H → BindsTo s fd args (ps.zip us) → Vals vs us → sp vs H Q E →
    codeAny (model P w) A (.call (.ref f) args) (CR CX outer P w H s Q E) s
theorem FnOk.mono {P : Program} {w : World} {K : PySem.W.Frag} {mg : Str → Option Value} {base : Heap} {CX : CXT} {j k : Nat} {f : Addr} {fd : FuncData} {ps : List Str} {sp : Sp} (F : FnOk P w K mg base CX j f fd ps sp) (h : j ≤ k) :
    FnOk P w K mg base CX k f fd ps sp := ⟨F.len, fun A outer s H args us vs Q E hr => F.run A outer s H args us vs Q E (hr.mono h)⟩
section
variable {X : Cx} {pins : List (Addr × Obj)} {σ : St} {H : Hp} {s s' : Shared}
theorem Inv.env0 (I : Inv X pins σ H s) : Env0 X.prog X.w X.K X.mg X.base X.A X.stack s H :=
  ⟨I.ok.frames, I.ok.mod, I.bs, Nat.le_trans I.ok.bsz I.sz, I.stack, I.stkFree, I.hok, I.bare⟩
theorem Inv.after {Q : VK} {u : Value} (I : Inv X pins σ H s) (h : CE X.stack X.prog X.w H s Q u s') : EP X pins σ Q u s' := by
  obtain ⟨v, H', os, bare, un, hok, r, q⟩ := h
  obtain ⟨hh, g, d, t, os'⟩ := s'
  obtain rfl : os' = s.os := os
  exact ⟨v, H', I.call (h' := hh) (g' := g) (d' := d) (t' := t) (ch := []) un hok bare (fun b z => absurd z (by simp)), r, q⟩
end
def Binds (K : PySem.W.Frag) (fd : FuncData) (ps : List Str) (ds : List Value) : Prop :=
  ∀ (s : Shared) (us : List Value), K.In s.heap → (us ++ ds).length = ps.length → BindsTo s fd ⟨us, []⟩ (ps.zip (us ++ ds))
theorem Binds.all {K : PySem.W.Frag} {fd : FuncData} {ps : List Str} (h : ∀ us : List Value, us.length = ps.length → bindArgs fd ⟨us, []⟩ = pure (ps.zip us)) : Binds K fd ps [] := fun s us _ hl => by
  rw [List.append_nil] at hl ⊢
  exact .of_eq (h us hl)
section
variable {X : Cx} {CX : CXT} {k : Nat} {f C : Addr} {fd : FuncData} {ps : List Str} {sp : Sp} {dvs : List V} {ds : List Value} {E : XK} {x m : Str} {p pos apos : Pos} {e o : Expr} {es : List Expr} {ta : TE} {t : TA}
structure Mk (K : PySem.W.Frag) (C f : Addr) : Prop where
  makes : PySem.W.makesIn K C = true
  init : PySem.W.findIn K (.ref C) "__init__" = some (some (.ref f))
  fn : PySem.W.isFn K (.ref f) = true
  kp : PySem.W.keepIn K (.ref C) = true
end
section
variable {X : Cx} {CX : CXT} {k : Nat} {f C : Addr} {fd : FuncData} {ps ks : List Str} {sp : Sp} {E : XK} {x m : Str} {p pos apos kpos : Pos} {e o : Expr} {es : List Expr} {kws : List Keyword} {te ta : TE} {t tk : TA} {nm : Option Str}
structure KBinds (K : PySem.W.Frag) (fd : FuncData) (ps ks : List Str) (g : List Value → List Value → List Value) (gV : List V → List V → List V) : Prop where
  to : ∀ (s : Shared) (us ws : List Value), K.In s.heap → (g us ws).length = ps.length → BindsTo s fd ⟨us, ks.zip ws⟩ (ps.zip (g us ws))
  rel : ∀ {vs : List V} {us : List Value} {zs : List V} {ws : List Value}, Vals vs us → Vals zs ws → Vals (gV vs zs) (g us ws)
variable {g : List Value → List Value → List Value} {gV : List V → List V → List V}
end
structure FnScope (N P : List Str) (sc : Scope) : Prop where
  kind : sc.kind = .function
  co : sc.isCoroutine = false
  gen : sc.isGenerator = false
  nd : N.Nodup
  pre : N.take P.length = P
  par : ∀ x ∈ P, sc.names.lookup x = some .local ∨ sc.names.lookup x = some .cell
  nofree : ∀ y ∈ sc.names, y.2 ≠ .free
theorem bindL_out {kindOf : Str → Option NameKind} {x : Str} : ∀ {binds : List (Str × Value)} {m : Str → Option Value}, (∀ v, (x, v) ∉ binds) → bindL kindOf binds m x = m x
  | [], _, _ => rfl
  | (n, v) :: r, m, h => by
    unfold bindL
    rw [bindL_out fun w hw => h w (List.mem_cons_of_mem _ hw)]
    split
    · have : x ≠ n := by rintro rfl; exact h v List.mem_cons_self
      simp [this]
    · rfl
theorem bindC_out {kindOf : Str → Option NameKind} {x : Str} : ∀ {binds : List (Str × Value)} {m : Str → Option Value}, (∀ v, (x, v) ∉ binds) → bindC kindOf binds m x = m x
  | [], _, _ => rfl
  | (n, v) :: r, m, h => by
    unfold bindC
    rw [bindC_out fun w hw => h w (List.mem_cons_of_mem _ hw)]
    split
    · rfl
    · have : x ≠ n := by rintro rfl; exact h v List.mem_cons_self
      simp [this]
theorem bindL_get {kindOf : Str → Option NameKind} {x : Str} {v : Value} : ∀ {P : List Str} {vs : List Value} {i : Nat} {m : Str → Option Value}, P.Nodup → P[i]? = some x → vs[i]? = some v → kindOf x = some .local →
    bindL kindOf (P.zip vs) m x = some v
  | [], _, _, _, _, h, _, _ => by simp at h
  | _ :: _, [], _, _, _, _, h, _ => by simp at h
  | p :: P, w :: vs, 0, m, nd, h1, h2, hk => by
    simp at h1 h2; subst h1; subst h2
    show bindL kindOf ((p, w) :: P.zip vs) m p = _
    unfold bindL
    rw [bindL_out fun v hv => (List.nodup_cons.mp nd).1 (List.of_mem_zip hv).1, if_pos hk]
    simp
  | p :: P, w :: vs, i + 1, m, nd, h1, h2, hk => by
    show bindL kindOf ((p, w) :: P.zip vs) m x = _
    unfold bindL
    exact bindL_get (i := i) (List.nodup_cons.mp nd).2 (by simpa using h1) (by simpa using h2) hk
theorem bindC_get {kindOf : Str → Option NameKind} {x : Str} {v : Value} : ∀ {P : List Str} {vs : List Value} {i : Nat} {m : Str → Option Value}, P.Nodup → P[i]? = some x → vs[i]? = some v → kindOf x ≠ some .local →
    bindC kindOf (P.zip vs) m x = some v
  | [], _, _, _, _, h, _, _ => by simp at h
  | _ :: _, [], _, _, _, _, h, _ => by simp at h
  | p :: P, w :: vs, 0, m, nd, h1, h2, hk => by
    simp at h1 h2; subst h1; subst h2
    show bindC kindOf ((p, w) :: P.zip vs) m p = _
    unfold bindC
    rw [bindC_out fun v hv => (List.nodup_cons.mp nd).1 (List.of_mem_zip hv).1, if_neg hk]
    simp
  | p :: P, w :: vs, i + 1, m, nd, h1, h2, hk => by
    show bindC kindOf ((p, w) :: P.zip vs) m x = _
    unfold bindC
    exact bindC_get (i := i) (List.nodup_cons.mp nd).2 (by simpa using h1) (by simpa using h2) hk
def start (N : List Str) (vs : List V) : St := vs.map some ++ List.replicate (N.length - vs.length) none
def cxOf (CX : CXT) (P : Program) (w : World) (K : PySem.W.Frag) (mg : Str → Option Value) (base : Heap) (N : List Str) (qual : Str) (scope : Scope) (f : Addr) (cd : Value) (A : Around) (outer : List Env) (s : Shared) (H : Hp) (E : XK) : Cx where
  prog := P
  w := w
  K := K
  mg := mg
  base := base
  A := A.deeper (envOfC qual scope s.heap.objs.size f cd)
  N := N
  s₀ := s
  H₀ := H
  env := envOfC qual scope s.heap.objs.size f cd
  outer := outer
  stack := envOfC qual scope s.heap.objs.size f cd :: outer
  ex := []
  calm := true
  fn := fun _ => true
  pn := []
  xe := fun e s' => wpAny (model P w) (A.deeper (envOfC qual scope s.heap.objs.size f cd)) (leaving (envOfC qual scope s.heap.objs.size f cd) e) (fun _ s'' => CX outer H s E e s'') (fun e' s'' => CX outer H s E e' s'') s'
theorem cell_has {sc : Scope} {n : Nat} {x : Str} (h : sc.names.lookup x = some .cell) : ∃ c, (cellsFrom n sc.names []).lookup x = some c := by
  have q := PySem.W.cellsFrom_some sc.names n [] (.inl h)
  exact Option.isSome_iff_exists.mp q
theorem inv_start {CX : CXT} {P : Program} {w : World} {K : PySem.W.Frag} {mg : Str → Option Value} {base : Heap} {N ps : List Str} {qual : Str} {scope : Scope} {f : Addr} {cd : Value} {A : Around} {outer : List Env} {s s1 : Shared} {H : Hp} {E : XK} {us : List Value} {vs : List V}
    (S : FnScope N ps scope) (hd : A.handled = none) (e0 : Env0 P w K mg base A outer s H) (hl : vs.length = ps.length) (r : Vals vs us)
    (x : InCallC s s.heap.objs.size (bindL (envOfC qual scope s.heap.objs.size f cd).kindOf (ps.zip us) fun _ => none) (cellsFrom (s.heap.objs.size + 1) scope.names []) (bindC (envOfC qual scope s.heap.objs.size f cd).kindOf (ps.zip us) fun _ => none) s1) :
    Inv (cxOf CX P w K mg base N qual scope f cd A outer s H E) [] (start N vs) H s1 := by
  have hpl : ps.length ≤ N.length := by have := congrArg List.length S.pre; rw [List.length_take] at this; omega
  obtain ⟨h1, tk, rfl, hk⟩ := x.done
  have noA : ∀ b : Addr, b ∉ (cxOf CX P w K mg base N qual scope f cd A outer s H E).ex := fun b z => absurd (show b ∈ ([] : List Addr) from z) (by simp)
  refine ⟨⟨e0.mod, S.kind, rfl, rfl, Nat.le_refl _, fun y z c h1 h2 => ?_, fun y hy => ?_, fun y c _ h => ?_, fun _ => hd, Around.frames_deeper e0.frames, .inr ⟨rfl, rfl⟩, fun b z => absurd z (noA b), e0.bs, e0.bsz, fun b _ _ => noA b, fun b z => absurd z (noA b), e0.funs, e0.frf⟩,
    rfl, e0.bare, Un.kept hk, ⟨_, x.toInCall.ns, fun i y v h1 h2 h3 => ?_⟩, fun y c h => ⟨_, x.cell y c h⟩, e0.hok.fresh (Nat.le_refl _), fun y c h => ?_, fun p hp => absurd (show p ∈ ([] : List (Addr × Obj)) from hp) (by simp), e0.hok.kept hk, ?_⟩
  · exact name_of_addr x.apart (PySem.mem_of_lookup h1) (PySem.mem_of_lookup h2)
  · have hy : scope.names.lookup y = some .cell ∨ scope.names.lookup y = some .free := hy
    rcases hy with hy | hy
    · exact cell_has hy
    · exact absurd rfl (S.nofree _ (PySem.mem_of_lookup hy))
  · exact Nat.le_of_lt (x.above y c (PySem.mem_of_lookup h))
  · have hi : i < vs.length := by
      unfold start at h2
      by_cases hi : i < vs.length
      · exact hi
      · rw [List.getElem?_append_right (by simpa using hi)] at h2
        rw [List.getElem?_replicate] at h2
        split at h2 <;> cases h2
    have ha : vs[i]? = some v := by
      unfold start at h2
      rw [List.getElem?_append_left (by simpa using hi), List.getElem?_map] at h2
      cases e : vs[i]? with
      | none => rw [e] at h2; cases h2
      | some a => rw [e] at h2; cases h2; rfl
    obtain ⟨u, hu, rv⟩ := r.get ha
    have hp : ps[i]? = some y := by
      rw [← S.pre, List.getElem?_take_of_lt (by omega)]; exact h1
    have ndP : ps.Nodup := by rw [← S.pre]; exact S.nd.sublist (List.take_sublist _ _)
    refine ⟨u, rv, ?_⟩
    rcases S.par y (List.mem_of_getElem? hp) with k | k
    · exact .inl ⟨k, bindL_get ndP hp hu k⟩
    · obtain ⟨c, e⟩ := cell_has (n := s.heap.objs.size + 1) k
      refine .inr ⟨.inl k, c, e, ?_⟩
      have q := x.cell y c e
      rw [bindC_get ndP hp hu (by show scope.names.lookup y ≠ _; rw [k]; decide)] at q
      exact q
  · exact e0.hok.fresh (Nat.le_of_lt (x.above y c (PySem.mem_of_lookup h)))
  · unfold start
    show _ = N.length
    rw [List.length_append, List.length_map, List.length_replicate]
    omega
theorem fn_of {CX : CXT} {P : Program} {w : World} {K : PySem.W.Frag} {mg : Str → Option Value} {base : Heap} {k : Nat} {f : Addr} {name qual : Str} {params : Arguments} {body : List Stmt} {scope : Scope} {dV kV doc pm cdv ct oc : Value} {an od : Option Addr}
    {osl : Array (Option Value)} {N ps : List Str} {sp : Sp} (lk : K.lookup f = some ⟨oc, od, .func (PySem.W.fnOf name qual params body scope dV kV doc pm an cdv ct), osl⟩) (hcd : PySem.W.codeIn K cdv qual = true) (S : FnScope N ps scope)
    (len : ∀ vs H Q E, sp vs H Q E → vs.length = ps.length)
    (hbody : ∀ (A : Around) (outer : List Env) (s : Shared) (H : Hp) (vs : List V) (Q : VK) (E : XK), Room k (A.deeper (envOfC qual scope s.heap.objs.size f cdv)) → sp vs H Q E →
      ∃ t, PSs (cxOf CX P w K mg base N qual scope f cdv A outer s H E) body t ∧ t { nx := fun _ H' => Q .non H', rt := Q } (start N vs) H) :
    FnOk P w K mg base CX (k + 1) f (PySem.W.fnOf name qual params body scope dV kV doc pm an cdv ct) ps sp := by
  refine ⟨len, fun A outer s H args us vs Q E hr e0 hb r hsp => ?_⟩
  have hl := len _ _ _ _ hsp
  have KX : K.In s.heap := e0.mod.kin.keeps fun b o e => (e0.bs b o e).1
  have lim : s.heap.NoLimit := e0.mod.nolimit.keeps fun b o e => (e0.bs b o e).1
  have hkind : ∀ y ∈ ps.zip us, scope.names.lookup y.1 = some .local ∨ (scope.names.lookup y.1 = some .cell ∧ ((cellsFrom (s.heap.objs.size + 1) scope.names []).lookup y.1).isSome = true) := fun ⟨n, v⟩ hy => by
    rcases S.par n (List.of_mem_zip hy).1 with q | q
    · exact .inl q
    · exact .inr ⟨q, PySem.W.cellsFrom_some _ _ _ (.inl q)⟩
  refine codeAny_call_function hr.depth (KX _ _ lk) rfl S.co S.gen rfl (PySem.W.codeRec_of KX hcd) (hb _ _ _ _ ?_)
  refine wpAny_newFunctionEnv_cells S.kind hkind fun env he s1 x => ?_
  subst he
  refine ⟨lim.keeps x.toInCall.keep, codeAny_func ?_⟩
  obtain ⟨t, ht, hq⟩ := hbody A outer s H vs Q E (hr.deeper _) hsp
  have I : Inv (cxOf CX P w K mg base N qual scope f cdv A outer s H E) [] (start N vs) H s1 := inv_start S hr.hd e0 hl r x
  refine wpAny_mono (ht [] s1 (start N vs) H _ I hq) (fun fl s' hs => ?_) fun e s' hs => hs
  have fin : ∀ {σ' : St} {H' : Hp} {v : V} {u : Value}, Inv (cxOf CX P w K mg base N qual scope f cdv A outer s H E) [] σ' H' s' → RelV v u → Q v H' → CE outer P w H s Q u s' :=
    fun {σ' H' v u} J rv q => ⟨v, H', J.os, J.bare, J.base, J.hok, rv, q⟩
  cases fl with
  | ret u =>
    obtain ⟨v, σ', H', J, rv, q⟩ := hs
    exact fin J rv q
  | next =>
    obtain ⟨σ', H', J, q⟩ := hs
    exact fin (v := V.non) (u := Value.none) J rfl q
  | brk =>
    obtain ⟨_, _, _, q⟩ := hs
    exact False.elim q
  | cont =>
    obtain ⟨_, _, _, q⟩ := hs
    exact False.elim q
end L2
namespace L2
open PySem PySem.Spec PyProof.Rows
section
variable {X : Cx} {x : Str} {p pos : Pos} {e : Expr} {es : List Expr} {t : TA} {id T : String} {r : List V → Hp → VK → Prop}
def tCB (r : List V → Hp → VK → Prop) (t : TA) : TE := fun σ H Q => t σ H fun vs H1 => r vs H1 Q
theorem pe_callB (hc : CallR X (.builtin id) r) (hg : Gl X x) (hm : X.mg x = none) (hv : bootBuiltins x = some (.builtin id)) (ha : PA X (e :: es) t) (hn : x ≠ "__name__" := by decide) (hdb : (x == ("__debug__" : Str)) = false := by decide)
    (he : starEach (e :: es) X.env = (false, eval e X.env) :: starEach es X.env := by rfl) (hpl : (backTo pos (starEach es X.env)).any (·.1) = false := by rfl) : PE X (.Call (.Name x p) (e :: es) [] pos) (tCB r t) := by
  intro pins s σ H Q I h
  refine wpAny_Call_Name_kw (ld_blt I hg hm hv ?_ hn hdb)
  exact PyProof.Rows.callWith_builtin1 (thn (ha pos pins s σ H _ I h) fun us s1 ⟨vs, H1, I1, r1, q1⟩ => hc pins s1 σ H1 vs us Q I1 r1 q1) he hpl
theorem pe_callTy (hc : CallR X (.type T) r) (hg : Gl X x) (hm : X.mg x = none) (hv : bootBuiltins x = some (.type T)) (ha : PA X (e :: es) t) (hn : x ≠ "__name__" := by decide) (hdb : (x == ("__debug__" : Str)) = false := by decide)
    (he : starEach (e :: es) X.env = (false, eval e X.env) :: starEach es X.env := by rfl) (hpl : (backTo pos (starEach es X.env)).any (·.1) = false := by rfl) : PE X (.Call (.Name x p) (e :: es) [] pos) (tCB r t) := by
  intro pins s σ H Q I h
  refine wpAny_Call_Name_kw (ld_blt I hg hm hv ?_ hn hdb)
  exact PyProof.Rows.callWith_type1 (thn (ha pos pins s σ H _ I h) fun us s1 ⟨vs, H1, I1, r1, q1⟩ => hc pins s1 σ H1 vs us Q I1 r1 q1) he hpl
end
end L2
namespace HT
open PySem PyProof.Rows
def lexLt : List Int → List Int → Bool
  | [], [] => false
  | [], _ :: _ => true
  | _ :: _, [] => false
  | x :: xs, y :: ys => if x = y then lexLt xs ys else decide (x < y)
theorem lexLt_cons (x y : Int) (xs ys : List Int) : lexLt (x :: xs) (y :: ys) = if x = y then lexLt xs ys else decide (x < y) := rfl
theorem lexLt_nil_nil : lexLt [] [] = false := rfl
theorem lexLt_nil_cons (y : Int) (ys : List Int) : lexLt [] (y :: ys) = true := rfl
theorem lexLt_cons_nil (x : Int) (xs : List Int) : lexLt (x :: xs) [] = false := rfl
theorem eqAt_int (A : Around) (s : Shared) (a : Int) (t : Tok) (c : Int) (u : Tok) : ∃ e, SeqAt.EqAt A s (.int a t) (.int c u) e ∧ (e = true ↔ a = c) :=
  ⟨(a == c), SeqAt.EqAt.int_int a t c u, by simp⟩
theorem rcLt_int (A : Around) (s : Shared) (a : Int) (t : Tok) (c : Int) (u : Tok) (prog : Program) (w : World) (E : Value → Shared → Prop) (Q : Value → Shared → Prop) (h : Q (.bool (decide (a < c))) s) :
    wpAny (model prog w) A (richCompare .Lt (.int a t) (.int c u)) Q E s :=
  (PyProof.Rows.lt_int h : wpAny (model prog w) A (compareOp .Lt (.int a t) (.int c u)) Q E s)
section
open PySem.SeqAt
open PySem.AutoSeq1 (wpAny_loadPart')
open PySem.MeetsSeq PySem.MeetsSeq2 PySem.MeetsSeq3
theorem tuple_lt_ints (l b : Addr) (items items2 : Array Value) (n n2 : Nat) (dd dd2 : Option Addr) (sl sl2 : Array (Option Value)) (ns ms : List Int) (hi : IntsAre items.toList ns) (hj : IntsAre items2.toList ms) :
    Meets (Builtin.«tuple.__lt__» ⟨[.ref l, .ref b], []⟩)
      (fun _ R s => s.heap.get? l = some { cls := .type "tuple", dict := dd, data := .seq items n, slots := sl } ∧ s.heap.get? b = some { cls := .type "tuple", dict := dd2, data := .seq items2 n2, slots := sl2 } ∧
        R (.ok (.ret (.bool (lexLt ns ms)))) s) :=
  .of_wp fun prog w A R s h => by
    obtain ⟨hp, g, d, tk, os⟩ := s; obtain ⟨hl, hb, h⟩ := h
    have f2 := AutoSeq1.sub_tuple_tuple
    have z1 : items.size = ns.length := by rw [← hi.length]; simp
    have z2 : items2.size = ms.length := by rw [← hj.length]; simp
    wp_walk using wpAny_loadPart' hl, wpAny_loadPart' hb, wpAny_forIn_list _ (fun rest b s' => b.1 = none ∧ s' = ⟨hp, g, d, tk, os⟩ ∧ ∃ (vs ws : List Value) (ns' ms' : List Int), rest = vs.zip ws ∧
      IntsAre vs ns' ∧ IntsAre ws ms' ∧ ns'.length + items2.size = ms'.length + items.size ∧ R (.ok (.ret (.bool (lexLt ns' ms')))) ⟨hp, g, d, tk, os⟩) _
    case turn =>
      rintro ⟨y, x⟩ rest b s' ⟨hb', rfl, vs, ws, ns', ms', hz, hvi, hwi, hlen, hR⟩
      cases hvi with
      | nil => rw [List.zip_nil_left] at hz; cases hz
      | cons a t hvi' =>
        cases hwi with
        | nil => rw [List.zip_nil_right] at hz; cases hz
        | cons c u hwi' =>
          rw [List.zip_cons_cons] at hz
          injection hz with hyx hrest
          injection hyx with hy hx
          subst hy hx
          rw [lexLt_cons] at hR
          simp only [List.length_cons] at hlen
          obtain ⟨e, he, hiff⟩ := eqAt_int A.in1 ⟨hp, g, d, tk, os⟩ a t c u
          refine wpAny_bind (he prog w _ _ ?_)
          cases e with
          | true =>
            rw [if_pos (hiff.mp rfl)] at hR
            wp_walk
            exact ⟨rfl, rfl, _, _, _, _, hrest, hvi', hwi', by omega, hR⟩
          | false =>
            rw [if_neg (fun q => absurd (hiff.mpr q) Bool.false_ne_true)] at hR
            have hri := rcLt_int A.in1 ⟨hp, g, d, tk, os⟩ a t c u prog w
            wp_walk using hri
            exact ⟨_, rfl, by simpa using hR⟩
    case fin =>
      rintro ⟨b1, b2⟩ s' ⟨hb', rfl, vs, ws, ns', ms', hz, hvi, hwi, hlen, hR⟩
      simp only at hb'
      subst hb'
      have hv : lexLt ns' ms' = decide (items.size < items2.size) := by
        cases hvi with
        | nil =>
          cases hwi with
          | nil =>
            simp only [List.length_nil] at hlen
            rw [lexLt_nil_nil]
            exact (decide_eq_false (by omega)).symm
          | cons c u hw =>
            simp only [List.length_nil, List.length_cons] at hlen
            rw [lexLt_nil_cons]
            exact (decide_eq_true (by omega)).symm
        | cons a t hv =>
          cases hwi with
          | nil =>
            simp only [List.length_nil, List.length_cons] at hlen
            rw [lexLt_cons_nil]
            exact (decide_eq_false (by omega)).symm
          | cons c u hw =>
            rw [List.zip_cons_cons] at hz
            cases hz
      rw [hv] at hR
      wp_walk
      exact ⟨_, rfl, by simpa [Builtin.Tuple.tupleCompareSizes] using hR⟩
    case h =>
      exact ⟨rfl, rfl, items.toList, items2.toList, ns, ms, rfl, hi, hj, by omega, h⟩
end
section
variable {prog : Program} {w : World} {A : Around} {E : Value → Shared → Prop} {s : Shared}
theorem lt_tupInts {l b : Addr} {items items2 : Array Value} {ns ms : List Int} {Q : Value → Shared → Prop} (hl : IsTup s.heap l items) (hb : IsTup s.heap b items2) (hi : IntsAre items.toList ns) (hj : IntsAre items2.toList ms)
    (hu : A.units < cLine) (h : Q (.bool (lexLt ns ms)) s) : wpAny (model prog w) A (compareOp .Lt (.ref l) (.ref b)) Q E s := by
  obtain ⟨⟨cls, dd, data, sl⟩, ho, hc, n, hd⟩ := id hl
  obtain ⟨⟨cls2, dd2, data2, sl2⟩, ho2, hc2, n2, hd2⟩ := id hb
  simp only at hc hd hc2 hd2
  subst hc hd hc2 hd2
  exact richCompare_meets_room (op := .Lt) ⟨_, ho, rfl⟩ ⟨_, ho2, rfl⟩ PySem.F.slot_tuple_lt PySem.F.entry_tuple_lt (PySem.F.args_tuple_lt_2 _ _) (tuple_lt_ints l b items items2 n n2 dd dd2 sl sl2 ns ms hi hj)
    ⟨ho, ho2, show Value.bool (lexLt ns ms) ≠ Value.notImplemented ∧ Q (.bool (lexLt ns ms)) s from ⟨(fun x => nomatch x), h⟩⟩ hu
theorem cat_tup {t b : Addr} {vs ws : List Value} {Q : Value → Shared → Prop} (ht : IsTup s.heap t vs.toArray) (hb : IsTup s.heap b ws.toArray) (hv : vs ≠ [])
    (h1 : ws = [] → Q (.ref t) s) (h2 : ws ≠ [] → Q (.ref s.heap.objs.size) { s with heap := s.heap.push { cls := .type "tuple", data := .seq (vs ++ ws).toArray } })
    (hsz : vs.length + ws.length ≤ sizeLine) : wpAny (model prog w) A (binaryOp .Add (.ref t) (.ref b)) Q E s := by
  obtain ⟨⟨cls, dd, data, sl⟩, ho, hc, n, hd⟩ := id ht
  obtain ⟨⟨cls2, dd2, data2, sl2⟩, ho2, hc2, n2, hd2⟩ := id hb
  simp only at hc hd hc2 hd2
  subst hc hd hc2 hd2
  have e : vs.toArray ++ ws.toArray = (vs ++ ws).toArray := by simp
  by_cases hw : ws = []
  · exact concat_meets ⟨_, ho, rfl⟩ ⟨_, ho2, rfl⟩ noFill_tuple_add seq_tuple_add PySem.F.slot_tuple_add PySem.F.entry_tuple_add (PySem.F.args_tuple_add_2 _ _)
      (tuple_addW1 t b vs.toArray ws.toArray n n2 dd dd2 sl sl2 (by simpa using hv) (by simp [hw])) ⟨ho, ho2, h1 hw⟩
  · refine concat_meets ⟨_, ho, rfl⟩ ⟨_, ho2, rfl⟩ noFill_tuple_add seq_tuple_add PySem.F.slot_tuple_add PySem.F.entry_tuple_add (PySem.F.args_tuple_add_2 _ _)
      (tuple_addW2 t b vs.toArray ws.toArray n n2 dd dd2 sl sl2 (by simpa using hv) (by simpa using hw) (by rw [List.size_toArray, List.size_toArray]; exact hsz)) ⟨ho, ho2, ?_⟩
    rw [e]
    exact h2 hw
def sIx (n d : Nat) : Option Int → Nat
  | none => d
  | some v => if v < 0 then (v + (n : Int)).toNat else min v.toNat n
theorem sIx_none (n d : Nat) : sIx n d none = d := rfl
theorem sIx_nat (n d k : Nat) : sIx n d (some (k : Int)) = min k n := by
  show (if (k : Int) < 0 then ((k : Int) + (n : Int)).toNat else min (k : Int).toNat n) = min k n
  rw [if_neg (by omega), Int.toNat_natCast]
theorem sIx_le (n d : Nat) (hd : d ≤ n) (o : Option Int) : sIx n d o ≤ n := by
  cases o with
  | none => exact hd
  | some v =>
    show (if v < 0 then (v + (n : Int)).toNat else min v.toNat n) ≤ n
    by_cases hv : v < 0
    · rw [if_pos hv]; omega
    · rw [if_neg hv]; exact Nat.min_le_right _ _
theorem clip_eq (v : Int) (n d : Nat) : (if v < 0 then max (v + (n : Int)) 0 else min v (n : Int)) = ((sIx n d (some v) : Nat) : Int) := by
  show (if v < 0 then max (v + (n : Int)) 0 else min v (n : Int)) = (((if v < 0 then (v + (n : Int)).toNat else min v.toNat n) : Nat) : Int)
  by_cases hv : v < 0
  · simp only [if_pos hv]; omega
  · simp only [if_neg hv]; omega
theorem adjust_gen (lo hi : Option Int) (n : Nat) : Builtin.Slice.sliceAdjust lo hi 1 (n : Int) = (((sIx n 0 lo : Nat) : Int), ((sIx n n hi : Nat) : Int)) := by
  have h1 : ¬ ((1 : Int) < 0) := by omega
  unfold Builtin.Slice.sliceAdjust
  simp only [h1, if_false]
  refine Prod.ext ?_ ?_
  · cases lo with
    | none => rfl
    | some v => exact clip_eq v n 0
  · cases hi with
    | none => rfl
    | some v => exact clip_eq v n n
theorem places_gen (i j : Nat) : Builtin.Slice.slicePlaces (i : Int) (j : Int) 1 = j - i := by
  unfold Builtin.Slice.slicePlaces
  have h1 : (1 : Int) > 0 := by omega
  simp only [h1, if_true, Int.ediv_one]
  split <;> omega
theorem slicePart_ {v : Value} {o : Option Int} {Q : Option Int → Shared → Prop} (p : IsPart v o) (h : Q o s) : wpAny (model prog w) A (Builtin.Slice.slicePartIndex v) Q E s := by
  cases p with
  | none => exact slicePart_none h
  | int i t => exact slicePart_int h
theorem sliceApplied_gen {sl : Addr} {vl vu : Value} {lo hi : Option Int} {n : Nat} {Q : Int × Int × Nat → Shared → Prop} (hs : s.heap.IsSliceOf sl vl vu .none) (pl : IsPart vl lo) (pu : IsPart vu hi)
    (h : Q (((sIx n 0 lo : Nat) : Int), 1, sIx n n hi - sIx n 0 lo) s) : wpAny (model prog w) A (Builtin.Slice.sliceApplied (.ref sl) (pure (n : Int))) Q E s := by
  obtain ⟨os, hos, hcs, hds⟩ := id hs
  unfold Builtin.Slice.sliceApplied Builtin.Slice.sliceFields
  refine wpAny_bind (wpAny_bind (wpAny_field hos hds (x := vl) rfl (wpAny_bind (wpAny_field hos hds (x := vu) rfl (wpAny_bind (wpAny_field hos hds (x := .none) rfl (wpAny_pure ?_)))))))
  refine wpAny_bind (slicePart_none ?_)
  show wpAny _ _ (if ((1 : Int) == 0) = true then _ else _) _ _ s
  rw [if_neg (by decide)]
  refine wpAny_bind (slicePart_ pl (wpAny_bind (slicePart_ pu (wpAny_bind (wpAny_pure ?_)))))
  show wpAny _ _ (match Builtin.Slice.sliceAdjust lo hi 1 (n : Int) with | (lo, hi) => pure (lo, (1 : Int), Builtin.Slice.slicePlaces lo hi 1)) _ _ s
  rw [adjust_gen lo hi n]
  show wpAny _ _ (pure (((sIx n 0 lo : Nat) : Int), (1 : Int), Builtin.Slice.slicePlaces ((sIx n 0 lo : Nat) : Int) ((sIx n n hi : Nat) : Int) 1)) _ _ s
  rw [places_gen]
  exact wpAny_pure h
theorem pick_gen (xs : Array Value) (i k : Nat) : ((List.range k).filterMap fun (m : Nat) => xs[((i : Int) + (m : Int) * 1).toNat]?).toArray = ((xs.toList.drop i).take k).toArray := by
  have e : (fun (m : Nat) => xs[((i : Int) + (m : Int) * 1).toNat]?) = fun m => xs[i + m]? := by
    funext m
    have : ((i : Int) + (m : Int) * 1).toNat = i + m := by omega
    rw [this]
  rw [e]
  have := pick_run xs i k
  rw [List.filterMap_map] at this
  have e2 : ((fun x => xs[x]?) ∘ fun x => i + x) = fun m => xs[i + m]? := rfl
  rw [e2] at this
  rw [this]
theorem getItem_tuple_cut {t sl : Addr} {items : Array Value} {vl vu : Value} {lo hi : Option Int} {Q : Value → Shared → Prop} (ht : IsTup s.heap t items) (hs : s.heap.IsSliceOf sl vl vu .none) (pl : IsPart vl lo) (pu : IsPart vu hi)
    (hw : ¬ (sIx items.size 0 lo = 0 ∧ sIx items.size items.size hi = items.size))
    (h : Q (.ref s.heap.objs.size) { s with heap := s.heap.push { cls := .type "tuple", data := .seq ((items.toList.drop (sIx items.size 0 lo)).take (sIx items.size items.size hi - sIx items.size 0 lo)).toArray } })
    (hsz : items.size ≤ sizeLine) : wpAny (model prog w) A (getItem (.ref t) (.ref sl)) Q E s := by
  have htake : sizeOk (.seq ((items.toList.drop (sIx items.size 0 lo)).take (sIx items.size items.size hi - sIx items.size 0 lo)).toArray) := by
    show ((items.toList.drop (sIx items.size 0 lo)).take (sIx items.size items.size hi - sIx items.size 0 lo)).toArray.size ≤ sizeLine
    rw [List.size_toArray, List.length_take, List.length_drop, Array.length_toList]
    omega
  have hj : sIx items.size items.size hi ≤ items.size := sIx_le _ _ (Nat.le_refl _) hi
  obtain ⟨os, hos, hcs, hds⟩ := id hs
  have hTs : s.TypeIs (.ref sl) "slice" := ⟨os, hos, hcs⟩
  unfold getItem
  try with_reducible refine wpAny_holding ?_
  first | refine wpAny_bind (wpAny_pure ?_) | skip
  refine wpAny_bind (wpAny_sequenceKey ht.typeIs (by decide) ?_)
  refine wpAny_bind (wpAny_callSpecial?_slot (name := Str.ofString "__getitem__") ht.typeIs PyProof.Rows.slot_tuple_getitem
    (wpAny_call_entry PyProof.Rows.slot_tuple_getitem ht.typeIs entry_tuple_getitem ?_ (args_tuple_getitem _ _)))
  show wpAny _ _ (Builtin.Tuple.tupleItemsOf (.ref t) >>= _) _ _ s
  refine wpAny_bind (tupleItemsOf_ ht ?_)
  refine wpAny_bind (wpAny_typeOf hTs ?_)
  rw [if_pos (by decide)]
  refine wpAny_bind (sliceApplied_gen hs pl pu ?_)
  have hno : ¬ ((((sIx items.size 0 lo : Nat) : Int) == 0 && (1 : Int) == 1 && (sIx items.size items.size hi - sIx items.size 0 lo) == items.size) = true) := by
    intro q
    rw [Bool.and_eq_true, Bool.and_eq_true] at q
    have q1 : ((sIx items.size 0 lo : Nat) : Int) = 0 := eq_of_beq q.1.1
    have q2 : sIx items.size items.size hi - sIx items.size 0 lo = items.size := eq_of_beq q.2
    exact hw ⟨by omega, by omega⟩
  show wpAny _ _ (if (((sIx items.size 0 lo : Nat) : Int) == 0 && (1 : Int) == 1 && (sIx items.size items.size hi - sIx items.size 0 lo) == items.size) = true then _ else _) _ _ s
  rw [if_neg hno, pick_gen]
  first
    | exact wpAny_bind (m := Builtin.Tuple.tupleExact _) (wpAny_newObj_type (wpAny_pure ⟨_, rfl, wpAny_pure h⟩) htake)
    | exact wpAny_bind (m := Builtin.Tuple.tupleExact _) (wpAny_newObj_type (wpAny_bind (wpAny_pure (wpAny_pure ⟨_, rfl, wpAny_pure h⟩))) htake)
    | exact wpAny_bind (wpAny_bind (m := Builtin.Tuple.tupleExact _) (wpAny_newObj_type (wpAny_pure (wpAny_pure ⟨_, rfl, wpAny_pure h⟩)) htake))
    | exact wpAny_bind (wpAny_bind (m := Builtin.Tuple.tupleExact _) (wpAny_newObj_type (wpAny_pure ⟨_, rfl, wpAny_pure h⟩) htake))
end
end HT
namespace L2
open PySem PySem.Spec PyProof.Rows
abbrev TO := St → Hp → (Option Int → Hp → Prop) → Prop
def PO (X : Cx) (e : Option Expr) (t : TO) : Prop :=
  ∀ (pins : List (Addr × Obj)) (s : Shared) (σ : St) (H : Hp) (Q : Option Int → Hp → Prop), Inv X pins σ H s → t σ H Q →
    wpAny (model X.prog X.w) X.A (evalPart e X.env) (fun u s' => ∃ o H', Inv X pins σ H' s' ∧ IsPart u o ∧ Q o H') X.xe s
def tNoPart : TO := fun _ H Q => Q none H
def tPart (t : TE) : TO := fun σ H Q => t σ H fun x H1 => ∃ i, x = .int i ∧ Q (some i) H1
theorem intsAre_of {ns : List Int} : ∀ {us : List Value}, Vals (ns.map V.int) us → IntsAre us ns := by
  induction ns with
  | nil => intro us r; rw [List.map_nil] at r; cases r; exact .nil
  | cons n ns ih =>
    intro us r
    rw [List.map_cons] at r
    cases r with
    | cons r1 r2 =>
      obtain ⟨t, e⟩ := r1
      subst e
      exact .cons n t (ih r2)
section
variable {X : Cx} {e : Expr} {te : TE} {lo hi : Option Expr} {tl th : TO} {pos p2 : Pos}
theorem po_none : PO X none tNoPart := by
  intro pins s σ H Q I h
  rw [evalPart_none]
  exact wpAny_pure ⟨none, H, I, .none, h⟩
theorem po_some (h : PE X e te) : PO X (some e) (tPart te) := by
  intro pins s σ H Q I hw
  rw [evalPart_some]
  refine thn (h pins s σ H _ I hw) fun u s1 ⟨x, H1, I1, r1, q1⟩ => ?_
  obtain ⟨i, rfl, q⟩ := q1
  obtain ⟨t, rfl⟩ := r1
  exact ⟨some i, H1, I1, .int i t, q⟩
def SlR (X : Cx) (r : V → Option Int → Option Int → Hp → VK → Prop) : Prop :=
  ∀ (pins : List (Addr × Obj)) (s : Shared) (σ : St) (H : Hp) (x : V) (v vl vu : Value) (lo hi : Option Int) (sl : Addr) (Q : VK), Inv X pins σ H s → RelV x v → s.heap.IsSliceOf sl vl vu .none → IsPart vl lo → IsPart vu hi → r x lo hi H Q →
    ∃ T id, typeLookup (.type T) "__getitem__" = pure (some (.builtin id)) ∧ s.TypeIs v T ∧ wpAny (model X.prog X.w) X.A (getItem v (.ref sl)) (EP X pins σ Q) X.xe s
theorem SlR.or {r r' : V → Option Int → Option Int → Hp → VK → Prop} (h : SlR X r) (h' : SlR X r') : SlR X (fun x lo hi H Q => r x lo hi H Q ∨ r' x lo hi H Q) := by
  intro pins s σ H x v vl vu lo hi sl Q I rx hs pl pu q
  rcases q with q | q
  · exact h pins s σ H x v vl vu lo hi sl Q I rx hs pl pu q
  · exact h' pins s σ H x v vl vu lo hi sl Q I rx hs pl pu q
def tSl (r : V → Option Int → Option Int → Hp → VK → Prop) (te : TE) (tl th : TO) : TE := fun σ H Q => te σ H fun x H1 => tl σ H1 fun l H2 => th σ H2 fun u H3 => r x l u H3 Q
theorem pe_slice {r : V → Option Int → Option Int → Hp → VK → Prop} (hr : SlR X r) (he : PE X e te) (hl : PO X lo tl) (hu : PO X hi th) : PE X (.Subscript e (.Slice lo hi none p2) pos) (tSl r te tl th) := by
  intro pins s σ H Q I h
  refine Subscript_ (thn (he pins s σ H _ I h) fun v s1 ⟨x, H1, I1, r1, q1⟩ => ?_)
  refine wpAny_Slice (thn (hl pins s1 σ H1 _ I1 q1) fun vl s2 ⟨l, H2, I2, pl, q2⟩ => thn (hu pins s2 σ H2 _ I2 q2) fun vu s3 ⟨u, H3, I3, pu, q3⟩ => ?_)
  rw [evalPart_none]
  refine wpAny_pure ?_
  have I4 : Inv X pins σ H3 { s3 with heap := s3.heap.push { cls := .type "slice", data := .fields #[vl, vu, .none] } } := I3.kept (t' := s3.toks) fun b ob q => Heap.get?_push_of_some _ q
  obtain ⟨T, id, hT, ht, hg⟩ := hr pins { s3 with heap := s3.heap.push { cls := .type "slice", data := .fields #[vl, vu, .none] } } σ H3 x v vl vu l u s3.heap.objs.size Q I4 r1 (Heap.IsSliceOf.new ..) pl pu q3
  show wpAny (model X.prog X.w) X.A (subscriptTail e (.Slice lo hi none p2) v (.ref s3.heap.objs.size)) (EP X pins σ Q) X.xe { s3 with heap := s3.heap.push { cls := .type "slice", data := .fields #[vl, vu, .none] } }
  exact tail_any (ops := [.ref s3.heap.objs.size, v]) ht hT hg (by with_unfolding_all rfl)
def cutV (xs : List V) (lo hi : Option Int) : List V := (xs.drop (HT.sIx xs.length 0 lo)).take (HT.sIx xs.length xs.length hi - HT.sIx xs.length 0 lo)
theorem cutV_length (xs : List V) (lo hi : Option Int) : (cutV xs lo hi).length ≤ xs.length := by
  unfold cutV
  rw [List.length_take, List.length_drop]
  omega
def rSlT (K : PySem.W.Frag) : V → Option Int → Option Int → Hp → VK → Prop := fun x lo hi H Q => ∃ a xs, x = .ref a ∧ SqT K H a xs ∧
  ¬ (HT.sIx xs.length 0 lo = 0 ∧ HT.sIx xs.length xs.length hi = xs.length) ∧ ∀ p, H p = none → Q (.ref p) (upd H p (.tup (cutV xs lo hi)))
theorem sl_tup : SlR X (rSlT X.K) := by
  intro pins s σ H x v vl vu lo hi sl Q I rx hs pl pu h
  obtain ⟨a, xs, rfl, hx, hw, q⟩ := h
  cases rx
  obtain ⟨its, r, ht, hz⟩ := I.tuple hx
  have hlen : its.toArray.size = xs.length := by rw [List.size_toArray]; exact r.length.symm
  refine ⟨"tuple", _, PyProof.Rows.slot_tuple_getitem.lookup, ht.typeIs, ?_⟩
  refine HT.getItem_tuple_cut ht hs pl pu (by rw [hlen]; exact hw) ?_ (by rw [hlen]; exact hz)
  rw [hlen]
  refine ⟨.ref s.heap.objs.size, _, I.laid (t' := s.toks) (o := .tup (cutV xs lo hi)) (fun b ob q => Heap.get?_push_of_some _ q) (Nat.le_refl _) ?_, rfl, q _ (I.hok.fresh (Nat.le_refl _))⟩
  exact ⟨Nat.le_trans (cutV_length xs lo hi) hz, _, (r.drop (HT.sIx xs.length 0 lo)).take (HT.sIx xs.length xs.length hi - HT.sIx xs.length 0 lo), IsTup.new _ _, NoDi.new _ _⟩
def rLtT (K : PySem.W.Frag) : R2 := fun x y H Q => ∃ a b ns ms, x = .ref a ∧ y = .ref b ∧ SqT K H a (ns.map V.int) ∧ SqT K H b (ms.map V.int) ∧ Q (.bl (HT.lexLt ns ms)) H
theorem op_ltT (hu : X.A.units < cLine) : OpR X (compareOp .Lt) (rLtT X.K) := by
  intro pins s σ H x y v u Q I rx ry h
  obtain ⟨a, b, ns, ms, rfl, rfl, ha, hb, q⟩ := h
  cases rx
  cases ry
  obtain ⟨its, r1, p1, _⟩ := I.tuple ha
  obtain ⟨its2, r2, p2, _⟩ := I.tuple hb
  have i1 : IntsAre its.toArray.toList ns := intsAre_of r1
  have i2 : IntsAre its2.toArray.toList ms := intsAre_of r2
  exact HT.lt_tupInts p1 p2 i1 i2 hu ⟨.bl (HT.lexLt ns ms), H, I, rfl, q⟩
def rCatT (K : PySem.W.Frag) : R2 := fun x y H Q => ∃ a b xs ys, x = .ref a ∧ y = .ref b ∧ SqT K H a xs ∧ SqT K H b ys ∧ xs ≠ [] ∧ xs.length + ys.length ≤ sizeLine ∧
  (ys = [] → Q (.ref a) H) ∧ (ys ≠ [] → ∀ p, H p = none → Q (.ref p) (upd H p (.tup (xs ++ ys))))
theorem Vals.nil_iff {xs : List V} {us : List Value} (r : Vals xs us) : us = [] ↔ xs = [] := by
  cases r with
  | nil => simp
  | cons _ _ => simp
theorem op_catT : OpR X (binaryOp .Add) (rCatT X.K) := by
  intro pins s σ H x y v u Q I rx ry h
  obtain ⟨a, b, xs, ys, rfl, rfl, ha, hb, hx, hz, q1, q2⟩ := h
  cases rx
  cases ry
  obtain ⟨its, r1, p1, _⟩ := I.tuple ha
  obtain ⟨its2, r2, p2, _⟩ := I.tuple hb
  refine HT.cat_tup p1 p2 (fun z => hx (r1.nil_iff.mp z)) (fun z => ⟨.ref a, H, I, rfl, q1 (r2.nil_iff.mp z)⟩) (fun z => ?_) (by rw [← r1.length, ← r2.length]; exact hz)
  refine ⟨.ref s.heap.objs.size, _, I.laid (t' := s.toks) (o := .tup (xs ++ ys)) (fun b ob q => Heap.get?_push_of_some _ q) (Nat.le_refl _) ?_, rfl, q2 (fun w => z (r2.nil_iff.mpr w)) _ (I.hok.fresh (Nat.le_refl _))⟩
  exact ⟨by rw [List.length_append]; exact hz, _, r1.append r2, IsTup.new _ _, NoDi.new _ _⟩
end
end L2
namespace L2
open PySem PySem.Spec PyProof.Rows
def ixN (n : Nat) (i : Int) : Option Nat := if 0 ≤ i then (if i < n then some i.toNat else none) else if -(n : Int) ≤ i then some (i + n).toNat else none
def atI {α : Type} (xs : List α) (i : Int) : Option α := (ixN xs.length i).bind fun j => xs[j]?
theorem ixN_seq {n : Nat} {i : Int} {j : Nat} (h : ixN n i = some j) : seqIndex? i n = some j ∧ j < n ∧ -(n : Int) ≤ i ∧ i < n := by
  unfold ixN at h
  by_cases h0 : 0 ≤ i
  · rw [if_pos h0] at h
    by_cases h1 : i < n
    · rw [if_pos h1] at h
      have e : i.toNat = j := Option.some.inj h
      exact ⟨by rw [seqIndex_of h0 h1, e], by omega, by omega, h1⟩
    · rw [if_neg h1] at h; cases h
  · rw [if_neg h0] at h
    by_cases h1 : -(n : Int) ≤ i
    · rw [if_pos h1] at h
      have e : (i + n).toNat = j := Option.some.inj h
      exact ⟨by rw [seqIndex_neg (by omega) h1, e], by omega, h1, by omega⟩
    · rw [if_neg h1] at h; cases h
theorem atI_get {α : Type} {xs : List α} {i : Int} {v : α} (h : atI xs i = some v) : ∃ j, seqIndex? i xs.length = some j ∧ xs[j]? = some v ∧ j < xs.length ∧ -(xs.length : Int) ≤ i ∧ i < xs.length := by
  unfold atI at h
  cases e : ixN xs.length i with
  | none => rw [e] at h; cases h
  | some j =>
    rw [e] at h
    obtain ⟨h1, h2, h3, h4⟩ := ixN_seq e
    exact ⟨j, h1, h, h2, h3, h4⟩
theorem atI_nat {α : Type} {xs : List α} {j : Nat} {v : α} (h : xs[j]? = some v) : atI xs (j : Int) = some v := by
  have hj : j < xs.length := (List.getElem?_eq_some_iff.mp h).1
  have e : ixN xs.length (j : Int) = some j := by
    unfold ixN
    rw [if_pos (by omega), if_pos (by omega)]; simp
  unfold atI; rw [e]; exact h
def PlainIx (b : Expr) : Prop := ∀ o i, subscripted b false o i = operate [o, i] (getItem o i)
def IxR (X : Cx) (r : R2) : Prop :=
  ∀ (value slice : Expr) (pins : List (Addr × Obj)) (s : Shared) (σ : St) (H : Hp) (x y : V) (v u : Value) (Q : VK), Inv X pins σ H s → RelV x v → RelV y u → r x y H Q →
    subscripted slice false v u = operate [v, u] (getItem v u) → wpAny (model X.prog X.w) X.A (subscriptTail value slice v u) (EP X pins σ Q) X.xe s
def MtR (X : Cx) (id : String) (r : V → List V → Hp → VK → Prop) : Prop :=
  ∀ (pins : List (Addr × Obj)) (s : Shared) (σ : St) (H : Hp) (x : V) (xs : List V) (v : Value) (us : List Value) (Q : VK), Inv X pins σ H s → RelV x v → Vals xs us → r x xs H Q →
    wpAny (model X.prog X.w) X.A (call (.builtin id) (v :: us)) (EP X pins σ Q) X.xe s
section
variable {X : Cx} {a b : Expr} {ta tb : TE} {pos : Pos}
theorem IxR.or {r r' : R2} (h : IxR X r) (h' : IxR X r') : IxR X (fun x y H Q => r x y H Q ∨ r' x y H Q) := by
  intro value slice pins s σ H x y v u Q I rx ry q hs
  rcases q with q | q
  · exact h value slice pins s σ H x y v u Q I rx ry q hs
  · exact h' value slice pins s σ H x y v u Q I rx ry q hs
theorem pe_ix {r : R2} (hr : IxR X r) (ha : PE X a ta) (hb : PE X b tb) (hs : PlainIx b) : PE X (.Subscript a b pos) (tOp r ta tb) := by
  intro pins s σ H Q I h
  exact Subscript_ (binT ha hb I h fun v u s2 x y H2 I2 rx ry q => hr a b pins s2 σ H2 x y v u Q I2 rx ry q (hs _ _))
def rIxL (K : PySem.W.Frag) : R2 := fun x y H Q => ∃ p xs i v, x = .ref p ∧ y = .int i ∧ SqL K H p xs ∧ atI xs i = some v ∧ Q v H
def rIxT (K : PySem.W.Frag) : R2 := fun x y H Q => ∃ p xs i v, x = .ref p ∧ y = .int i ∧ SqT K H p xs ∧ atI xs i = some v ∧ Q v H
def rIxS : R2 := fun x y H Q => ∃ z i c, x = .str z ∧ y = .int i ∧ z.length ≤ sizeLine ∧ atI z.cps.toList i = some c ∧ Q (.str ⟨#[c]⟩) H
theorem ix_list : IxR X (rIxL X.K) := by
  intro value slice pins s σ H x y v u Q I rx ry h hs
  obtain ⟨p, xs, i, z, rfl, rfl, hq, he, q⟩ := h
  cases rx
  obtain ⟨t, rfl⟩ := ry
  obtain ⟨its, r, pl, hz⟩ := I.list hq
  obtain ⟨j, h1, h2, h3, h4, h5⟩ := atI_get he
  obtain ⟨w, ew, rw'⟩ := r.get h2
  have hl := r.length
  have hn := line63
  have fin : EP X pins σ Q w s := ⟨z, H, I, rw', q⟩
  by_cases h0 : 0 ≤ i
  · have hj : i.toNat = j := by
      rw [seqIndex_of h0 h5] at h1
      exact Option.some.inj h1
    exact item_listR pl.isList h0 (by omega) (by rw [hj]; simpa using ew) fin hs
  · have hj : (i + (its.toArray.size : Int)).toNat = j := by
      rw [seqIndex_neg (by omega) h4] at h1
      rw [List.size_toArray, ← hl]
      exact Option.some.inj h1
    exact subscriptTail_builtinR (x := w) pl.isList.typeIs slot_list_getitem.lookup
      (wpAny_getItem_list_neg (Q := fun r s' => r = w ∧ EP X pins σ Q r s') pl.isList (by omega) (by rw [List.size_toArray] <;> omega) (by omega) (by rw [hj]; simpa using ew) ⟨rfl, fin⟩) hs
theorem ix_tup : IxR X (rIxT X.K) := by
  intro value slice pins s σ H x y v u Q I rx ry h hs
  obtain ⟨p, xs, i, z, rfl, rfl, hq, he, q⟩ := h
  cases rx
  obtain ⟨t, rfl⟩ := ry
  obtain ⟨its, r, pl, hz⟩ := I.tuple hq
  obtain ⟨j, h1, h2, h3, h4, h5⟩ := atI_get he
  obtain ⟨w, ew, rw'⟩ := r.get h2
  have hl := r.length
  have hn := line63
  have fin : EP X pins σ Q w s := ⟨z, H, I, rw', q⟩
  exact subscriptTail_builtinR (x := w) pl.typeIs slot_tuple_getitem.lookup
    (getItem_tuple (j := j) (Q := fun r s' => r = w ∧ EP X pins σ Q r s') pl (by omega) (by omega) (by rw [List.size_toArray, ← hl]; exact h1) (by simpa using ew) ⟨rfl, fin⟩) hs
theorem ix_str : IxR X rIxS := by
  intro value slice pins s σ H x y v u Q I rx ry h hs
  obtain ⟨z, i, c, rfl, rfl, hz, he, q⟩ := h
  obtain ⟨t, rfl⟩ := rx
  obtain ⟨t', rfl⟩ := ry
  obtain ⟨j, h1, h2, h3, h4, h5⟩ := atI_get he
  have hl : z.cps.toList.length = z.length := by simp [Str.length]
  rw [hl] at h1 h4 h5
  have hn := line63
  exact tail_any (typeIs_str s z t) slot_str_getitem.lookup (getItem_str (c := c) (by
    have e1 : decide (i < -(2 ^ 63 : Int)) = false := decide_eq_false (by omega)
    have e2 : decide (i ≥ 2 ^ 63) = false := decide_eq_false (by omega)
    rw [e1, e2, Bool.or_false]) (by rw [h1]; simpa using h2) ⟨.str ⟨#[c]⟩, H, I.tok _, ⟨_, rfl⟩, q⟩) hs
def rIx (K : PySem.W.Frag) : R2 := fun x y H Q => rIxL K x y H Q ∨ rIxT K x y H Q ∨ rIxS x y H Q
theorem ix_seq : IxR X (rIx X.K) := ix_list.or (ix_tup.or ix_str)
theorem mapSeq_set (its : List Value) (n j : Nat) (u : Value) : Obj.mapSeq (·.setIfInBounds j u) { cls := .type "list", data := .seq its.toArray n } = { cls := .type "list", data := .seq (its.set j u).toArray n } := by
  simp [Obj.mapSeq]
theorem Inv.lst {pins : List (Addr × Obj)} {σ : St} {H : Hp} {s : Shared} {p : Addr} {xs : List V} (I : Inv X pins σ H s) (h : H p = some (.lst xs)) :
    ∃ (its : List Value) (n : Nat), Vals xs its ∧ s.heap.get? p = some { cls := .type "list", data := .seq its.toArray n } ∧ xs.length ≤ sizeLine := by
  obtain ⟨z, its, n, r, e⟩ := I.hok p _ h
  exact ⟨its, n, r, e, z⟩
theorem Inv.lstUpd {pins : List (Addr × Obj)} {σ : St} {H : Hp} {s : Shared} {p : Addr} {xs ys : List V} {its its' : List Value} {n n' : Nat} {f : Obj → Obj} (I : Inv X pins σ H s) (h : H p = some (.lst xs))
    (ho : s.heap.get? p = some { cls := .type "list", data := .seq its.toArray n }) (hf : f { cls := .type "list", data := .seq its.toArray n } = { cls := .type "list", data := .seq its'.toArray n' }) (r : Vals ys its') (hz : ys.length ≤ sizeLine) (t : Nat) :
    Inv X pins σ (upd H p (.lst ys)) { s with heap := s.heap.update p f, toks := t } := by
  have e : (s.heap.update p f).get? p = some { cls := .type "list", data := .seq its'.toArray n' } := by
    rw [Heap.get?_update_self f ho (by rw [hf] <;> rfl), hf]
  refine I.write (x := p) (e := p) (by rw [h]; trivial) (.inl rfl) (fun b u hb q => (Heap.get?_update_other _ _ (Ne.symm hb)).trans q) ⟨_, e⟩ ?_
  exact ⟨hz, its', n', r, e⟩
def rSetL : V → V → V → Hp → (Hp → Prop) → Prop := fun o i v H Q => ∃ p xs k j, o = .ref p ∧ i = .int k ∧ H p = some (.lst xs) ∧ ixN xs.length k = some j ∧ Q (upd H p (.lst (xs.set j v)))
theorem set_list : PSet X rSetL := by
  intro pins s σ H o i v ov iv u Q I ro ri rv h
  obtain ⟨p, xs, k, j, rfl, rfl, hp, hj, q⟩ := h
  cases ro
  obtain ⟨t, rfl⟩ := ri
  obtain ⟨its, n, r, ho, hz⟩ := I.lst hp
  obtain ⟨h1, h2, h3, h4⟩ := ixN_seq hj
  have hl := r.length
  have hn := line63
  have I' : Inv X pins σ (upd H p (.lst (xs.set j v))) { s with heap := s.heap.update p (Obj.mapSeq (·.setIfInBounds j u)) } :=
    I.lstUpd hp ho (mapSeq_set its n j u) (r.set rv j) (by rw [List.length_set]; exact hz) s.toks
  by_cases h0 : 0 ≤ k
  · have hk : k.toNat = j := by
      rw [seqIndex_of h0 h4] at h1
      exact Option.some.inj h1
    exact PySem.W.ki_setAt ho h0 (by omega) (by rw [List.size_toArray, ← hl]; exact h4) (by rw [hk]; exact ⟨_, I', q⟩)
  · have hk : (k + (its.toArray.size : Int)).toNat = j := by
      rw [seqIndex_neg (by omega) h3] at h1
      rw [List.size_toArray, ← hl]
      exact Option.some.inj h1
    exact PySem.W.ki_setBack ho (by omega) (by rw [List.size_toArray, ← hl]; exact h3) (by omega) (by rw [hk]; exact ⟨_, I', q⟩)
theorem slice_bounds (lo hi : Option Int) (n : Nat) : (sliceBounds lo hi none n).1 = ((HT.sIx n 0 lo : Nat) : Int) ∧ (sliceBounds lo hi none n).2.1 = ((HT.sIx n n hi : Nat) : Int) ∧ (sliceBounds lo hi none n).2.2 = 1 := by
  refine ⟨?_, ?_, rfl⟩
  · cases lo with
    | none => simp [sliceBounds, HT.sIx]
    | some i =>
      simp only [sliceBounds, HT.sIx, Option.getD_none, show (1 : Int) > 0 by decide, if_true]
      by_cases h : i < 0
      · simp only [h, if_true] <;> omega
      · simp only [h, if_false] <;> omega
  · cases hi with
    | none => simp [sliceBounds, HT.sIx]
    | some i =>
      simp only [sliceBounds, HT.sIx, Option.getD_none, show (1 : Int) > 0 by decide, if_true]
      by_cases h : i < 0
      · simp only [h, if_true] <;> omega
      · simp only [h, if_false] <;> omega
theorem slicePick_cut (its : List Value) (lo hi : Option Int) : slicePick its.toArray lo hi none = ((its.drop (HT.sIx its.length 0 lo)).take (HT.sIx its.length its.length hi - HT.sIx its.length 0 lo)).toArray := by
  obtain ⟨h1, h2, h3⟩ := slice_bounds lo hi its.toArray.size
  unfold slicePick
  rw [h1, h2, h3]
  simp only [sliceRange_one, pick_run, List.size_toArray] <;> rfl
def rSlL (K : PySem.W.Frag) : V → Option Int → Option Int → Hp → VK → Prop := fun x lo hi H Q => ∃ a xs, x = .ref a ∧ SqL K H a xs ∧ ∀ p, H p = none → Q (.ref p) (upd H p (.lst (cutV xs lo hi)))
theorem sl_list : SlR X (rSlL X.K) := by
  intro pins s σ H x v vl vu lo hi sl Q I rx hs pl pu h
  obtain ⟨a, xs, rfl, hx, q⟩ := h
  cases rx
  obtain ⟨its, r, ht, hz⟩ := I.list hx
  have hlen := r.length
  refine ⟨"list", _, slot_list_getitem.lookup, ht.isList.typeIs, ?_⟩
  refine wpAny_getItem_list_slice ht.isList hs pl pu .none (by simp) ?_ (by rw [List.size_toArray] <;> omega)
  rw [slicePick_cut, ← hlen]
  refine ⟨.ref s.heap.objs.size, _, I.laid (t' := s.toks) (o := .lst (cutV xs lo hi)) (fun b ob q => Heap.get?_push_of_some _ q) (Nat.le_refl _) ?_, rfl, q _ (I.hok.fresh (Nat.le_refl _))⟩
  exact ⟨Nat.le_trans (cutV_length xs lo hi) hz, _, 0, (r.drop (HT.sIx xs.length 0 lo)).take (HT.sIx xs.length xs.length hi - HT.sIx xs.length 0 lo), Heap.get?_push_size _ rfl⟩
def flatV : V → Bool
  | .non => true
  | .bl _ => true
  | .int _ => true
  | .str _ => true
  | _ => false
def eqV : V → V → Bool
  | .non, .non => true
  | .bl a, .bl b => a == b
  | .bl a, .int b => (if a then 1 else 0) == b
  | .int a, .bl b => a == (if b then 1 else 0)
  | .int a, .int b => a == b
  | .str a, .str b => a == b
  | _, _ => false
theorem eqAt_V {A : Around} {s : Shared} {y x : V} {u v : Value} (ry : RelV y u) (rx : RelV x v) (fy : flatV y = true) (fx : flatV x = true) : SeqAt.EqAt A s u v (eqV y x) := by
  cases y with
  | non =>
    cases ry
    cases x with
    | non => cases rx; exact SeqAt.EqAt.same _
    | bl b => cases rx; exact SeqAt.EqAt.none_bool b
    | int b => obtain ⟨t, rfl⟩ := rx; exact SeqAt.EqAt.none_int b t
    | str b => obtain ⟨t, rfl⟩ := rx; exact SeqAt.EqAt.none_str b t
    | _ => exact absurd (show false = true from fx) Bool.false_ne_true
  | bl a =>
    cases ry
    cases x with
    | non => cases rx; exact SeqAt.EqAt.bool_none a
    | bl b => cases rx; exact SeqAt.EqAt.bool_bool a b
    | int b => obtain ⟨t, rfl⟩ := rx; exact SeqAt.EqAt.bool_int a b t
    | str b => obtain ⟨t, rfl⟩ := rx; exact SeqAt.EqAt.bool_str a b t
    | _ => exact absurd (show false = true from fx) Bool.false_ne_true
  | int a =>
    obtain ⟨t', rfl⟩ := ry
    cases x with
    | non => cases rx; exact SeqAt.EqAt.int_none a t'
    | bl b => cases rx; exact SeqAt.EqAt.int_bool a t' b
    | int b => obtain ⟨t, rfl⟩ := rx; exact SeqAt.EqAt.int_int a t' b t
    | str b => obtain ⟨t, rfl⟩ := rx; exact SeqAt.EqAt.int_str a t' b t
    | _ => exact absurd (show false = true from fx) Bool.false_ne_true
  | str a =>
    obtain ⟨t', rfl⟩ := ry
    cases x with
    | non => cases rx; exact SeqAt.EqAt.str_none a t'
    | bl b => cases rx; exact SeqAt.EqAt.str_bool a t' b
    | int b => obtain ⟨t, rfl⟩ := rx; exact SeqAt.EqAt.str_int a t' b t
    | str b => obtain ⟨t, rfl⟩ := rx; exact SeqAt.EqAt.str_str a t' b t
    | _ => exact absurd (show false = true from fx) Bool.false_ne_true
  | _ => exact absurd (show false = true from fy) Bool.false_ne_true
def eqU (x : V) (u : Value) : Bool := match u with
  | .none => eqV .non x
  | .bool b => eqV (.bl b) x
  | .int i _ => eqV (.int i) x
  | .str z _ => eqV (.str z) x
  | _ => false
theorem eqU_of {x y : V} {u : Value} (r : RelV y u) (f : flatV y = true) : eqU x u = eqV y x := by
  cases y with
  | non => cases r; rfl
  | bl b => cases r; rfl
  | int i => obtain ⟨t, rfl⟩ := r; rfl
  | str z => obtain ⟨t, rfl⟩ := r; rfl
  | _ => exact absurd (show false = true from f) Bool.false_ne_true
theorem any_eqU {x : V} : ∀ {xs : List V} {us : List Value}, Vals xs us → xs.all flatV = true → us.any (eqU x) = xs.any fun y => eqV y x
  | _, _, .nil, _ => rfl
  | y :: xs, u :: us, .cons r t, f => by
    rw [List.all_cons, Bool.and_eq_true] at f
    rw [List.any_cons, List.any_cons, eqU_of r f.1, any_eqU t f.2]
theorem mem_eqAt {A : Around} {s : Shared} {x : V} {v : Value} (rx : RelV x v) (fx : flatV x = true) : ∀ {xs : List V} {us : List Value}, Vals xs us → xs.all flatV = true → ∀ u ∈ us, SeqAt.EqAt A s u v (eqU x u)
  | _, _, .nil, _ => fun u hu => by cases hu
  | y :: xs, u :: us, .cons r t, f => fun u' hu => by
    rw [List.all_cons, Bool.and_eq_true] at f
    rcases List.mem_cons.mp hu with rfl | hu
    · rw [eqU_of r f.1]; exact eqAt_V r rx f.1 fx
    · exact mem_eqAt rx fx t f.2 u' hu
def inV (x : V) (xs : List V) : Bool := xs.any fun y => eqV y x
def rIn (K : PySem.W.Frag) (neg : Bool) : R2 := fun x y H Q => ∃ p xs, y = .ref p ∧ (SqL K H p xs ∨ SqT K H p xs) ∧ flatV x = true ∧ xs.all flatV = true ∧ Q (.bl (if neg then !inV x xs else inV x xs)) H
theorem op_in_seq : OpR X (compareOp .In) (rIn X.K false) := by
  intro pins s σ H x y v u Q I rx ry h
  obtain ⟨p, xs, rfl, hq, fx, fs, q⟩ := h
  cases ry
  rcases hq with hq | hq
  · obtain ⟨its, r, pl, hz⟩ := I.list hq
    refine SeqAt.in_listAt (eqU x) pl.isList (fun w hw => mem_eqAt rx fx r fs w (by simpa using hw)) ⟨.bl _, H, I, rfl, ?_⟩
    rw [show its.toArray.any (eqU x) = its.any (eqU x) by simp, any_eqU r fs]
    exact q
  · obtain ⟨its, r, pl, hz⟩ := I.tuple hq
    refine SeqAt.in_tupleAt (eqU x) pl (fun w hw => mem_eqAt rx fx r fs w (by simpa using hw)) ⟨.bl _, H, I, rfl, ?_⟩
    rw [show its.toArray.any (eqU x) = its.any (eqU x) by simp, any_eqU r fs]
    exact q
theorem op_notIn_seq : OpR X (compareOp .NotIn) (rIn X.K true) := by
  intro pins s σ H x y v u Q I rx ry h
  obtain ⟨p, xs, rfl, hq, fx, fs, q⟩ := h
  cases ry
  rcases hq with hq | hq
  · obtain ⟨its, r, pl, hz⟩ := I.list hq
    refine SeqAt.notIn_listAt (eqU x) pl.isList (fun w hw => mem_eqAt rx fx r fs w (by simpa using hw)) ⟨.bl _, H, I, rfl, ?_⟩
    rw [show its.toArray.any (eqU x) = its.any (eqU x) by simp, any_eqU r fs]
    exact q
  · obtain ⟨its, r, pl, hz⟩ := I.tuple hq
    refine SeqAt.notIn_tupleAt (eqU x) pl (fun w hw => mem_eqAt rx fx r fs w (by simpa using hw)) ⟨.bl _, H, I, rfl, ?_⟩
    rw [show its.toArray.any (eqU x) = its.any (eqU x) by simp, any_eqU r fs]
    exact q
theorem op_notIn_str : OpR X (compareOp .NotIn) (fun x y H Q => ∃ i j, x = .str i ∧ y = .str j ∧ Q (.bl (!(!(Builtin.Str.occurrences j i 0 j.length 1).isEmpty))) H) := by
  intro pins s σ H x y v u Q I rx ry h
  obtain ⟨i, j, rfl, rfl, q⟩ := h
  obtain ⟨t, rfl⟩ := rx
  obtain ⟨t', rfl⟩ := ry
  exact notIn_str ⟨.bl _, H, I, rfl, q⟩
theorem call_len_seq : CallR X (.builtin "len") (fun xs H Q => ∃ p ys, xs = [.ref p] ∧ (SqL X.K H p ys ∨ SqT X.K H p ys) ∧ Q (.int ys.length) H) := by
  intro pins s σ H xs us Q I r h
  obtain ⟨p, ys, rfl, hq, q⟩ := h
  obtain ⟨u, rfl, rx⟩ := vals1 r
  cases rx
  have hn := line63
  rcases hq with hq | hq
  · obtain ⟨its, r', pl, hz⟩ := I.list hq
    have hlen := r'.length
    exact Calls.call_len_list pl.isList (by simp only [List.size_toArray] <;> omega) ⟨.int ys.length, H, I.tok _, ⟨s.toks + 1, by rw [List.size_toArray, hlen]⟩, q⟩
  · obtain ⟨its, r', pl, hz⟩ := I.tuple hq
    have hlen := r'.length
    exact len_tuple pl (by simp only [List.size_toArray] <;> omega) ⟨.int ys.length, H, I.tok _, ⟨s.toks + 1, by rw [List.size_toArray, hlen]⟩, q⟩
theorem call_len_str : CallR X (.builtin "len") (fun xs H Q => ∃ z, xs = [.str z] ∧ z.length ≤ sizeLine ∧ Q (.int z.length) H) := by
  intro pins s σ H xs us Q I r h
  obtain ⟨z, rfl, hz, q⟩ := h
  obtain ⟨u, rfl, t, rfl⟩ := vals1 r
  have hn := line63
  exact len_str (by omega) ⟨.int z.length, H, I.tok _, ⟨_, rfl⟩, q⟩
theorem CallR.or {f : Value} {r r' : List V → Hp → VK → Prop} (h : CallR X f r) (h' : CallR X f r') : CallR X f (fun xs H Q => r xs H Q ∨ r' xs H Q) := by
  intro pins s σ H xs us Q I rs q
  rcases q with q | q
  · exact h pins s σ H xs us Q I rs q
  · exact h' pins s σ H xs us Q I rs q
theorem call_tuple_of : CallR X (.type "tuple") (fun xs H Q => ∃ p ys, xs = [.ref p] ∧ ((SqL X.K H p ys ∧ ∀ l, H l = none → Q (.ref l) (upd H l (.tup ys))) ∨ (SqT X.K H p ys ∧ Q (.ref p) H))) := by
  intro pins s σ H xs us Q I r h
  obtain ⟨p, ys, rfl, h⟩ := h
  obtain ⟨u, rfl, rx⟩ := vals1 r
  cases rx
  rcases h with ⟨hq, q⟩ | ⟨hq, q⟩
  · obtain ⟨its, r', pl, hz⟩ := I.list hq
    have hlen := r'.length
    refine call_tuple_list pl.isList (fun h' kp => ?_) (by simp only [List.size_toArray] <;> omega)
    have I1 : Inv X pins σ H { s with heap := h' } := I.kept (t' := s.toks) kp
    have I2 : Inv X pins σ (upd H h'.objs.size (.tup ys)) { s with heap := h'.push { cls := .type "tuple", data := .seq its.toArray } } :=
      I1.laid (t' := s.toks) (fun b o e => Heap.get?_push_of_some _ e) (Nat.le_refl _) (show ObjOk X.prog X.w _ _ _ (.tup ys) from ⟨hz, its, r', IsTup.new _ _, NoDi.new _ _⟩)
    exact ⟨.ref h'.objs.size, _, I2, rfl, q _ (I1.hok.fresh (Nat.le_refl _))⟩
  · obtain ⟨its, r', pl, hz⟩ := I.tuple hq
    exact call_tuple_same pl ⟨.ref p, H, I, rfl, q⟩
def tyV (K : PySem.W.Frag) (T : String) (x : V) (H : Hp) : Prop := match x with
  | .str _ => T = "str"
  | .int _ => T = "int"
  | .ref p => (T = "list" ∧ ∃ xs, SqL K H p xs) ∨ (T = "tuple" ∧ ((∃ o, K.lookup p = some o ∧ o.cls = .type "tuple" ∧ o.dict = none) ∨ ∃ xs, H p = some (.tup xs))) ∨
      (T = "dict" ∧ ((∃ kvs, H p = some (.dK kvs)) ∨ ∃ kvs, H p = some (.dT kvs))) ∨ (T = "set" ∧ ∃ S n, H p = some (.set S n))
  | _ => False
theorem tyV_is {pins : List (Addr × Obj)} {σ : St} {H : Hp} {s : Shared} {T : String} {x : V} {v : Value} (I : Inv X pins σ H s) (r : RelV x v) (ty : tyV X.K T x H) :
    s.TypeIs v T ∧ ∀ a, v = .ref a → ∃ ob, s.heap.get? a = some ob ∧ ob.dict = none := by
  cases x with
  | str z =>
    obtain ⟨t, rfl⟩ := r
    cases (show T = "str" from ty)
    exact ⟨typeIs_str s z t, fun _ e => nomatch e⟩
  | int i =>
    obtain ⟨t, rfl⟩ := r
    cases (show T = "int" from ty)
    exact ⟨typeIs_int s i t, fun _ e => nomatch e⟩
  | ref p =>
    cases r
    rcases ty with ⟨rfl, xs, hq⟩ | ⟨rfl, ⟨o, hk, hc, hd⟩ | ⟨xs, hk⟩⟩ | ⟨rfl, hk⟩ | ⟨rfl, S, n, hk⟩
    · obtain ⟨its, _, pl, _⟩ := I.list hq
      refine ⟨pl.isList.typeIs, fun a e => ?_⟩
      cases e
      obtain ⟨o, n, e, c, hd, _⟩ := pl
      exact ⟨o, e, hd⟩
    · refine ⟨⟨o, I.kIn p o hk, hc⟩, fun a e => ?_⟩
      cases e
      exact ⟨o, I.kIn _ o hk, hd⟩
    · obtain ⟨_, _, _, ⟨o, e1, e2, _⟩, nd⟩ := I.hok p _ hk
      refine ⟨⟨o, e1, e2⟩, fun a e => ?_⟩
      cases e
      exact ⟨o, e1, nd o e1⟩
    · have z : ∃ o, s.heap.get? p = some o ∧ o.ExactDict := by
        rcases hk with ⟨kvs, hk⟩ | ⟨kvs, hk⟩
        · obtain ⟨_, _, _, _, o, _, _, e, ex, _⟩ := I.hok p _ hk
          exact ⟨o, e, ex⟩
        · obtain ⟨_, _, _, _, o, _, _, e, ex, _⟩ := I.hok p _ hk
          exact ⟨o, e, ex⟩
      obtain ⟨o, e, ex⟩ := z
      refine ⟨⟨o, e, ex.1⟩, fun a e2 => ?_⟩
      cases e2
      exact ⟨o, e, ex.2.1⟩
    · obtain ⟨o, _, _, _, e, ex, _⟩ := I.hok p _ hk
      refine ⟨⟨o, e, ex.1⟩, fun a e2 => ?_⟩
      cases e2
      exact ⟨o, e, ex.2.1⟩
  | _ => exact False.elim ty
def tBM (K : PySem.W.Frag) (T : String) (r : V → List V → Hp → VK → Prop) (to : TE) (t : TA) : TE := fun σ H Q => to σ H fun x H1 => tyV K T x H1 ∧ t σ H1 fun xs H2 => r x xs H2 Q
variable {o e : Expr} {es : List Expr} {to : TE} {t : TA} {name : Str} {apos cpos : Pos} {T id : String} {r : V → List V → Hp → VK → Prop}
theorem pe_bm (pa : PlainAttrs T) (slot : Slot T name id) (hty : typeOf (.builtin id) = pure (.type "method_descriptor")) (hm : MtR X id r) (ho : PE X o to) (ha : PA X (e :: es) t)
    (hbase : attributeBase o name X.env (eval o X.env) = eval o X.env := by rfl)
    (hfew : ((backTo cpos (starEach (e :: es) X.env)).all (fun x => !x.1) && (backToKw cpos (keywordEach [] X.env)).all (fun x => x.1.isSome)
      && decide ((e :: es).length + ([] : List Keyword).length + (if ([] : List Keyword).isEmpty then 0 else 1) < 30)) = true := by rfl)
    (hline : (apos.endLine == cpos.line) = true := by rfl) (hs : starEach (e :: es) X.env = (false, eval e X.env) :: starEach es X.env := by rfl) (hplain : (backTo cpos (starEach es X.env)).any (·.1) = false := by rfl) :
    PE X (.Call (.Attribute o name apos) (e :: es) [] cpos) (tBM X.K T r to t) := by
  intro pins s σ H Q I h
  refine wpAny_Call_method_late hbase hfew hline rfl (thn (ho pins s σ H _ I h) fun v s1 ⟨x, H1, I1, r1, ty, q1⟩ => ?_)
  obtain ⟨h1, h2⟩ := tyV_is I1 r1 ty
  refine ⟨T, id, pa, slot, hty, h1, h2, ?_⟩
  have hA := ha cpos pins s1 σ H1 _ I1 q1
  rw [hs] at hA ⊢
  refine Calls.callWith_builtin (by show (false || (backTo cpos (starEach es X.env)).any (·.1)) = false; rw [hplain] <;> rfl) (Calls.evalArgs_plain ?_)
  exact thn hA fun us s2 ⟨vs, H2, I2, r2, q2⟩ => hm pins s2 σ H2 x vs v us Q I2 r1 r2 q2
/- xs.append(e), list.index on a module's tuple .. are MtR facts of 06m -/
end
end L2
namespace L2
open PySem PySem.Spec PyProof.Rows
def MtM (X : Cx) (id : String) (r : V → List V → Hp → VK → Prop) : Prop :=
  ∀ (pins : List (Addr × Obj)) (s : Shared) (σ : St) (H : Hp) (x : V) (xs : List V) (v : Value) (us : List Value) (Q : VK), Inv X pins σ H s → RelV x v → Vals xs us → r x xs H Q →
    wpAny (model X.prog X.w) X.A (call (.builtin id) (v :: us)) (EP X pins σ Q) X.xe s
theorem Vals.one : ∀ {x : V} {us : List Value}, Vals [x] us → ∃ u, us = [u] ∧ RelV x u
  | _, _, .cons r .nil => ⟨_, rfl, r⟩
theorem Vals.rep {xs : List V} {us : List Value} (h : Vals xs us) : ∀ k : Nat, Vals (List.replicate k xs).flatten (List.replicate k us).flatten
  | 0 => .nil
  | k + 1 => by
    rw [List.replicate_succ, List.replicate_succ, List.flatten_cons, List.flatten_cons]
    exact Vals.append h (Vals.rep h k)
theorem foldl_rep (its : List Value) : ∀ (k : Nat) (acc : List Value),
    List.foldl (fun x1 x2 => x1 ++ x2) acc.toArray (List.replicate k its.toArray) = (acc ++ (List.replicate k its).flatten).toArray
  | 0, acc => by simp
  | k + 1, acc => by
    have e : acc.toArray ++ its.toArray = (acc ++ its).toArray := by simp
    have e2 : (acc ++ its) ++ (List.replicate k its).flatten = acc ++ (List.replicate (k + 1) its).flatten := by
      rw [List.replicate_succ, List.flatten_cons, List.append_assoc]
    rw [← e2, ← foldl_rep its k (acc ++ its), ← e, List.replicate_succ, List.foldl_cons]
section
variable {X : Cx} {pins : List (Addr × Obj)} {σ : St} {H : Hp} {s : Shared} {l b : Addr} {xs ys zs : List V}
theorem Inv.lset {its its' : List Value} {n : Nat} {f : Array Value → Array Value} {t' : Nat} (I : Inv X pins σ H s) (hH : H l = some (.lst xs))
    (e : s.heap.get? l = some { cls := .type "list", data := .seq its.toArray n }) (hf : f its.toArray = its'.toArray) (hv : Vals ys its') (hz : ys.length ≤ sizeLine) :
    Inv X pins σ (upd H l (.lst ys)) { s with heap := s.heap.update l (Obj.mapSeq f), toks := t' } := by
  have q := PySem.IsL.update e f
  rw [hf] at q
  refine I.write (x := l) (e := l) (by rw [hH]; exact trivial) (.inl rfl) (fun b' u hb hu => (Heap.get?_update_other s.heap (Obj.mapSeq f) (Ne.symm hb)).trans hu) ⟨_, q⟩ ?_
  exact ⟨hz, its', _, hv, q⟩
theorem Inv.lnew {its : List Value} {t' : Nat} (I : Inv X pins σ H s) (hv : Vals ys its) (hz : ys.length ≤ sizeLine) :
    Inv X pins σ (upd H s.heap.objs.size (.lst ys)) { s with heap := s.heap.push { cls := .type "list", data := .seq its.toArray }, toks := t' } :=
  I.laid (fun _ _ q => Heap.get?_push_of_some _ q) (Nat.le_refl _) ⟨hz, its, 0, hv, Heap.get?_push_size _ rfl⟩
theorem Inv.fresh (I : Inv X pins σ H s) : H s.heap.objs.size = none := I.hok.fresh (Nat.le_refl _)
theorem Inv.lstM (I : Inv X pins σ H s) (hH : H l = some (.lst xs)) : xs.length ≤ sizeLine ∧ ∃ (its : List Value) (n : Nat), Vals xs its ∧ xs.length = its.length ∧ s.heap.get? l = some { cls := .type "list", data := .seq its.toArray n } := by
  obtain ⟨z, its, n, r, e⟩ := I.hok l _ hH
  exact ⟨z, its, n, r, r.length, e⟩
theorem notLongL {n : Nat} (h : n ≤ sizeLine) : Builtin.List.listTooLong n = false := by
  unfold Builtin.List.listTooLong
  exact decide_eq_false (by omega)
end
section
variable {X : Cx}
def rAppend : V → List V → Hp → VK → Prop := fun x vs H Q => ∃ l xs y, x = .ref l ∧ vs = [y] ∧ H l = some (.lst xs) ∧ xs.length < sizeLine ∧ Q .non (upd H l (.lst (xs ++ [y])))
theorem mt_append : MtM X "list.append" rAppend := by
  intro pins s σ H x vs v us Q I rx rv h
  obtain ⟨l, xs, y, rfl, rfl, hH, hz, q⟩ := h
  cases rx
  obtain ⟨u, rfl, ru⟩ := rv.one
  obtain ⟨z, its, n, r, hl, e⟩ := I.lstM hH
  refine call_meets F.slot_list_append ⟨_, e, rfl⟩ F.entry_list_append (F.args_list_append_2 _ _) (PySem.list_append l its.toArray n u (by rw [List.size_toArray]; omega)) ⟨e, ?_⟩
  refine ⟨.non, _, I.lset (its' := its ++ [u]) hH e (by simp) (r.append (.cons ru .nil)) ?_, rfl, q⟩
  rw [List.length_append, List.length_singleton]
  omega
def rExtend : V → List V → Hp → VK → Prop := fun x vs H Q => ∃ l b xs zs, x = .ref l ∧ vs = [.ref b] ∧ H l = some (.lst xs) ∧ H b = some (.lst zs) ∧ xs.length + zs.length ≤ sizeLine ∧ Q .non (upd H l (.lst (xs ++ zs)))
theorem mt_extend : MtM X "list.extend" rExtend := by
  intro pins s σ H x vs v us Q I rx rv h
  obtain ⟨l, b, xs, zs, rfl, rfl, hH, hB, hz, q⟩ := h
  cases rx
  obtain ⟨u, rfl, ru⟩ := rv.one
  cases ru
  obtain ⟨z, its, n, r, hl, e⟩ := I.lstM hH
  obtain ⟨z2, its2, n2, r2, hl2, e2⟩ := I.lstM hB
  have hsz : its.toArray.size + its2.toArray.size ≤ sizeLine := by rw [List.size_toArray, List.size_toArray]; omega
  have hlong : ¬ (!its.toArray.isEmpty && Builtin.List.listTooLong (its.toArray.size + its2.toArray.size)) = true := by
    rw [notLongL hsz, Bool.and_false]
    exact Bool.false_ne_true
  refine call_meets F.slot_list_extend ⟨_, e, rfl⟩ F.entry_list_extend (F.args_list_extend_2 _ _)
    (AutoSeq1.list_extend_list_list_0 l its.toArray n b its2.toArray n2 hlong (by rw [List.size_toArray]; omega) (by omega)) ⟨e, e2, ?_⟩
  refine ⟨.non, _, I.lset (its' := its ++ its2) hH e (by simp) (r.append r2) ?_, rfl, q⟩
  rw [List.length_append]
  omega
def rRep : R2 := fun x y H Q => ∃ l k xs, x = .ref l ∧ y = .int k ∧ H l = some (.lst xs) ∧ -(2 ^ 63) ≤ k ∧ k < 2 ^ 63 ∧ xs.length * k.toNat ≤ sizeLine ∧
  ∀ p, H p = none → Q (.ref p) (upd H p (.lst (List.replicate k.toNat xs).flatten))
theorem len_rep {α : Type} (xs : List α) (k : Nat) : (List.replicate k xs).flatten.length = k * xs.length := by
  induction k with
  | zero => simp
  | succ k ih => rw [List.replicate_succ, List.flatten_cons, List.length_append, ih, Nat.succ_mul, Nat.add_comm]
theorem op_rep : OpR X (binaryOp .Mult) rRep := by
  intro pins s σ H x y v u Q I rx ry h
  obtain ⟨l, k, xs, rfl, rfl, hH, h1, h2, hz, q⟩ := h
  cases rx
  obtain ⟨t, rfl⟩ := ry
  obtain ⟨z, its, n, r, hl, e⟩ := I.lstM hH
  have hlen : its.toArray.size * k.toNat ≤ sizeLine := by rw [List.size_toArray, ← hl]; exact hz
  have hcap : ¬ its.toArray.size * k.toNat > (2 ^ 63 - 1) / 8 := by
    have : (sizeLine : Nat) ≤ (2 ^ 63 - 1) / 8 := by decide
    omega
  have hfit : ¬ (!Builtin.List.listFitsIndex k) = true := by
    rw [fitsIndex_both h1 h2]
    exact Bool.false_ne_true
  have hlong : ¬ Builtin.List.listTooLong (its.toArray.size * k.toNat) = true := by
    rw [notLongL hlen]
    exact Bool.false_ne_true
  have hnew : List.foldl (fun x1 x2 => x1 ++ x2) #[] (List.replicate (if its.toArray.isEmpty = true then 0 else k.toNat) its.toArray) = (List.replicate k.toNat its).flatten.toArray := by
    have f0 : ∀ m : Nat, List.foldl (fun x1 x2 => x1 ++ x2) #[] (List.replicate m its.toArray) = (List.replicate m its).flatten.toArray := fun m => by
      have := foldl_rep its m []
      rw [List.nil_append] at this
      exact this
    rw [f0]
    cases its with
    | nil => simp
    | cons a r' => rw [if_neg (by simp)]
  refine wpAny_binaryOp_repeat_ref (T := "list") (U := "int") (by decide) ⟨_, e, rfl⟩ (fun s' => typeIs_int s' k t) noFill_list_mul F.fills_int_mul F.slot_int_rmul repeat_list F.slot_int_index.lookup
    (call_meets F.slot_int_rmul (typeIs_int s k t) F.entry_int_rmul (F.args_int_rmul_2 _ _) (int___rmul___int_list k t l its.toArray n)
      ⟨e, rfl, ⟨_, e, rfl⟩, call_meets F.slot_list_mul ⟨_, e, rfl⟩ F.entry_list_mul (F.args_list_mul_2 _ _) (AutoListH.list___mul___list_int_3 l its.toArray n k t hfit hcap hlong) ⟨e, ?_⟩⟩)
  rw [hnew]
  exact ⟨.ref _, _, I.lnew (t' := s.toks) (r.rep k.toNat) (by rw [len_rep, Nat.mul_comm]; exact hz), rfl, q _ I.fresh⟩
end
section
variable {prog : Program} {w : World} {A : Around} {E : Value → Shared → Prop} {s : Shared}
set_option maxRecDepth 100000 in
end
section
variable {X : Cx}
end
end L2
namespace Att
open PySem PySem.W PySem.Calls PyProof.Rows
theorem ints_of_wellAll {P : Params} {h : Heap} : ∀ (ns : List Int) (vs : List Value), WellAll P h vs (ns.map WData.int) → IntsAre vs ns := by
  intro ns
  induction ns with
  | nil =>
    intro vs w
    rw [List.map_nil] at w
    cases w
    exact .nil
  | cons n ns ih =>
    intro vs w
    rw [List.map_cons] at w
    cases w with
    | cons a b =>
      cases a
      exact .cons _ _ (ih _ b)
theorem script_of {l : OpenLaw} {n : Nat} (hn : l.most = some n) {P : Params} {h : Heap} {args : List WData} {vals : List Value}
    (hpre : l.row.toRowW.claim.pre args = true) (hwl : WellAll P h vals args) :
    ∃ a vs ns, vals = [Value.ref a] ∧ args = [WData.list (ns.map WData.int)] ∧ h.get? a = some { cls := .type "list", data := .seq vs.toArray } ∧ IntsAre vs ns ∧ ns.length ≤ n := by
  have hsh : WShape.hasAll [] args [.list .int] = true := (pre_splitW hpre).1
  have hc : l.pre.holds [] { args := args } = true := (pre_splitW hpre).2
  obtain ⟨d, r, rfl, h1, h2⟩ := hasAllW_cons hsh
  obtain rfl := hasAllW_nil h2
  obtain ⟨xs, rfl, h3⟩ := hasW_list h1
  obtain ⟨ns, rfl⟩ := items_int h3
  have hlen : ns.length ≤ n := by
    unfold OpenLaw.pre at hc
    have h4 : (WTm.not (.lt (.lit (.int (n : Int))) (.len (.arg 0)))).holds [] { args := [.list (ns.map .int)] } = true := by
      have h4 := (holds_andW hc).1
      rw [hn] at h4
      exact h4
    have h5 := condW_of h4 (w_not (w_lt w_lit (w_len_list (w_arg rfl))))
    rw [List.length_map] at h5
    refine Nat.le_of_not_lt fun q => ?_
    have q' : (n : Int) < ((ns.length : Nat) : Int) := by omega
    first
      | (rw [decide_eq_true q'] at h5; exact absurd h5 (by decide))
      | (simp at h5; omega)
  cases hwl with
  | cons w1 w2 =>
    cases w2
    cases w1 with
    | list ho hall => exact ⟨_, _, ns, rfl, rfl, ho, ints_of_wellAll ns _ hall, hlen⟩
theorem post_true (l : OpenLaw) (args : List WData) : l.row.toRowW.claim.post args (.bool true) args = true :=
  postW_of (r := l.row.toRowW) (X := (true == true))
    (show WShape.has [] (.bool true) .bool = true by first | rfl | decide | simp [WShape.has, WShape.arms, WShape.armsAll])
    (show (WTm.eq .res (.lit (.bool true))).value [] { args := args, res := some (.bool true), after := args } = some (.bool (true == true)) from w_eq_bool (w_res rfl) w_lit) rfl
theorem attach_call {l : OpenLaw} {n : Nat} {q : Program} {loose : List Str} {XP : (Str → Option Value) → Heap → Prop} {YP : World → Heap → Prop} {d : DefRec}
    (hn : l.most = some n) (hdf : d.params.defaults = [])
    (call : ∀ (w : World) (s₀ s₁ : Shared) (mg mb : Str → Option Value) (fa : Addr) (o : Obj) (pm cd doc : Value) (a : Addr) (vs : List Value) (ns : List Int),
      Ground q loose [] XP w s₀ mg mb s₁.heap → YP w s₁.heap →
      s₁.heap.get? fa = some o → o.data = .func (docDef d.name d.params d.body d.scope pm cd doc) → s₁.heap.CodeRec cd d.name → mg d.name = some (.ref fa) →
      s₁.heap.get? a = some { cls := .type "list", data := .seq vs.toArray } → IntsAre vs ns → ns.length ≤ n → s₁.gens = #[] →
      codeAny (model l.prog w) callerA (.call (.ref fa) ⟨[.ref a], []⟩) (fun r s' => r = .ok (.ret (.bool true)) ∧ OldK s₁.heap s'.heap ∧ s'.os = s₁.os ∧ AllBare s'.gens) s₁) :
    WalkO q loose XP YP l.row.toRowW d [] (fun f vs => PySem.call f vs) := by
  intro w s₀ s₁ mg mb G Y fa o pm cd doc dV kV ho hd hcd hD hmg hg args vals as hpre hlay hrd hwl hlo
  obtain rfl : dV = .none := Dflts.none hD hdf
  obtain rfl : kV = .none := Dflts.noKw hD
  obtain ⟨a, vs, ns, rfl, rfl, hobj, hints, hlen⟩ := script_of hn hpre hwl
  refine enter_call (codeAny_mono (call w s₀ s₁ mg mb fa o pm cd doc a vs ns G Y ho (fd_plain hd) hcd hmg hobj hints hlen hg) fun r s' hq => ?_)
  obtain ⟨rfl, h2, h3, h4⟩ := hq
  exact ⟨.inl ⟨.bool true, .bool true, [], rfl, fun _ => rfl, .bool true, post_true l _, fun _ => ⟨List.Pairwise.nil, fun _ hm => (nomatch hm)⟩⟩, h2, h3, h4⟩
section
variable {prog : Program} {w : World} {A : Around} {E : Value → Shared → Prop} {s : Shared} {K : Frag}
end
end Att
namespace L2
open PySem PySem.Spec PyProof.Rows
theorem vals_ints : ∀ {vs : List Value} {ns : List Int}, IntsAre vs ns → Vals (ns.map V.int) vs
  | _, _, .nil => .nil
  | _, _, .cons n t h => .cons ⟨t, rfl⟩ (vals_ints h)
def Only (H : Hp) : Prop := ∀ b, H b = none ∨ ∃ o xs, H b = some (.frz o (.lst xs))
theorem law_call {P : Program} {w : World} {K : PySem.W.Frag} {mg mb : Str → Option Value} {CX : CXT} {k : Nat} {fa a : Addr} {fd : FuncData} {x : Str} {sp : Sp} {s₁ : Shared} {vs : List Value} {ns : List Int}
    (KX : K.In s₁.heap) (hns : s₁.heap.Ns mainGlobals mg) (hb : s₁.heap.Ns builtinsNs mb) (hbb : ∀ x : Str, x ≠ "__name__" → mb x = bootBuiltins x) (hlim : s₁.heap.NoLimit) (hg : s₁.gens = #[])
    (ha : s₁.heap.get? a = some { cls := .type "list", data := .seq vs.toArray }) (hi : IntsAre vs ns) (hl : ns.length ≤ sizeLine) (hr : Room k callerA)
    (F : ∀ base : Heap, K.In base → base.Ns mainGlobals mg → FnOk P w K mg base CX k fa fd [x] sp) (hbind : ∀ (s : Shared) (u : Value), BindsTo s fd ⟨[u], []⟩ [(x, u)])
    (hsp : ∀ H : Hp, Only H → SqL K H a (ns.map V.int) → sp [.ref a] H (fun v _ => v = .bl true) fun _ _ _ => False)
    (hCX : ∀ H e s', CX [] H s₁ (fun _ _ _ => False) e s' → False) :
    codeAny (model P w) callerA (.call (.ref fa) ⟨[.ref a], []⟩) (fun r s' => r = .ok (.ret (.bool true)) ∧ OldK s₁.heap s'.heap ∧ s'.os = s₁.os ∧ AllBare s'.gens) s₁ := by
  have rv := vals_ints hi
  have lenV := hi.length
  -- from an abstract heap in which nothing but the script may be tracked
  have core : ∀ H : Hp, Only H → SqL K H a (ns.map V.int) → HOk P w H s₁.heap → (∀ b, H b ≠ none → b = a) → (H a ≠ none → K.lookup a = none) →
      codeAny (model P w) callerA (.call (.ref fa) ⟨[.ref a], []⟩) (fun r s' => r = .ok (.ret (.bool true)) ∧ OldK s₁.heap s'.heap ∧ s'.os = s₁.os ∧ AllBare s'.gens) s₁ := by
    intro H hO hS hok hA hK
    have base_of : ∀ {b : Addr} {o : Obj}, s₁.heap.get? b = some o → H b = none → (hidT s₁.heap H).get? b = some o := fun e n => hidT_get e n
    have noA : ∀ {b : Addr} {o : Obj} {es : Array DictEntry} {ep : Nat}, s₁.heap.get? b = some o → o.data = .dict es ep → H b = none := fun {b o es ep} e d => by
      cases q : H b with
      | none => rfl
      | some u =>
        have e' : b = a := hA b (by rw [q]; simp)
        subst e'
        rw [ha] at e; cases e
        have d' : Data.seq vs.toArray _ = Data.dict es ep := d
        cases d'
    have nsK : ∀ {b : Addr} {m : Str → Option Value}, s₁.heap.Ns b m → (hidT s₁.heap H).Ns b m := fun {b m} ⟨o, es, ep, e, d, r⟩ => ⟨o, es, ep, base_of e (noA e d), d, r⟩
    have hKb : K.In (hidT s₁.heap H) := fun b o e => base_of (KX b o e) (by
      cases q : H b with
      | none => rfl
      | some u =>
        have e' : b = a := hA b (by rw [q]; simp)
        subst e'
        rw [hK (by rw [q]; simp)] at e; cases e)
    have hM : Mod K mg (hidT s₁.heap H) := ⟨hKb, nsK hns, ⟨mb, nsK hb, hbb⟩, let ⟨mc, h1, h2⟩ := hlim; ⟨mc, nsK h1, h2⟩⟩
    have e0 : Env0 P w K mg (hidT s₁.heap H) callerA [] s₁ H := ⟨rfl, hM, fun b o e => of_hidT e, Nat.le_of_eq (hidT_size _ _), trivial, fun b hb => absurd (show b ∈ ([] : List Addr) from hb) (by simp), hok, .of_eq hg⟩
    refine codeAny_mono ((F _ hKb (nsK hns)).run callerA [] s₁ H ⟨[.ref a], []⟩ [.ref a] [.ref a] _ _ hr e0 (hbind s₁ (.ref a)) (.cons rfl .nil) (hsp H hO hS)) fun r s' h => ?_
    cases r with
    | error e => exact (hCX H e s' h).elim
    | ok fl =>
      cases fl with
      | next => exact False.elim h
      | brk => exact False.elim h
      | cont => exact False.elim h
      | ret u =>
        obtain ⟨v, H', os, bare, un, hok', r', q⟩ := h
        have q' : v = .bl true := q
        subst q'
        obtain rfl : u = Value.bool true := r'
        refine ⟨rfl, OldK.of_keep fun b o e => ?_, os, bare⟩
        cases q : H b with
        | none => exact un.keep b o e q (by intro z; exact absurd (show b ∈ ([] : List Addr) from z) (by simp)) (by simp)
        | some u =>
          rcases hO b with z | ⟨ob, xs, z⟩
          · rw [q] at z; cases z
          · have z2 := un.frzs b ob _ z
            obtain ⟨e1, _⟩ := hok b _ z
            obtain ⟨e2, _⟩ := hok' b _ z2
            rw [e] at e1; cases e1
            exact e2
  cases hk : K.lookup a with
  | some o =>
    -- the script is one of the module's own objects
    have e := KX a o hk
    rw [ha] at e
    cases e
    refine core (fun _ => none) (fun _ => .inl rfl) (.inr ⟨_, vs.toArray, _, hk, rfl, rfl, rfl, by rw [List.size_toArray, lenV]; exact hl, by simpa using rv⟩) (fun b u z => by have z' : (none : Option HO) = some u := z; cases z') (fun b z => absurd rfl z) fun z => absurd rfl z
  | none =>
    refine core (fun b => if b = a then some (.frz { cls := .type "list", data := .seq vs.toArray } (.lst (ns.map V.int))) else none) (fun b => ?_) (.inl (.inr ⟨{ cls := .type "list", data := .seq vs.toArray }, if_pos rfl⟩)) (fun b u z => ?_) (fun b z => ?_) fun _ => hk
    · by_cases hb : b = a
      · exact .inr ⟨_, _, if_pos hb⟩
      · exact .inl (if_neg hb)
    · by_cases hb : b = a
      · have z' := (if_pos hb).symm.trans z
        cases z'
        subst hb
        exact ⟨ha, by rw [List.length_map]; exact hl, vs, _, rv, ha⟩
      · have z' := (if_neg hb).symm.trans z
        cases z'
    · by_cases hb : b = a
      · exact hb
      · exact absurd (if_neg hb) z
end L2
namespace L2
open PySem PySem.Spec PyProof.Rows
abbrev KOf {K : PySem.W.Frag} {h : Heap} (_ : K.In h) : PySem.W.Frag := K
theorem walk_of {l : PySem.W.OpenLaw} {n k : Nat} {q : Program} {loose : List Str} {XP : (Str → Option Value) → Heap → Prop} {YP : World → Heap → Prop} {d : DefRec} {K : Params → PySem.W.Frag} {CX : World → CXT} {sp : World → Sp} {x : Str}
    (hn : l.most = some n) (hn2 : n ≤ sizeLine) (hdf : d.params.defaults = []) (hr : Room k callerA)
    (hY : ∀ (w : World) (h : Heap), YP w h → (K w.params).In h)
    (F : ∀ (w : World) (mg : Str → Option Value) (fa : Addr) (h : Heap), (K w.params).In h → h.Ns mainGlobals mg → mg d.name = some (.ref fa) →
      ∃ fd : FuncData, (∀ (s : Shared) (u : Value), BindsTo s fd ⟨[u], []⟩ [(x, u)]) ∧
        ∀ base : Heap, (K w.params).In base → base.Ns mainGlobals mg → FnOk l.prog w (K w.params) mg base (CX w) k fa fd [x] (sp w))
    (hsp : ∀ (w : World) (H : Hp) (a : Addr) (ns : List Int), ns.length ≤ n → Only H → SqL (K w.params) H a (ns.map V.int) → sp w [.ref a] H (fun v _ => v = .bl true) fun _ _ _ => False)
    (hCX : ∀ (w : World) (H : Hp) (s : Shared) (e : Value) (s' : Shared), CX w [] H s (fun _ _ _ => False) e s' → False) :
    PySem.W.WalkO q loose XP YP l.row.toRowW d [] (fun f vs => PySem.call f vs) := by
  refine Att.attach_call hn hdf fun w s₀ s₁ mg mb fa o pm cd doc a vs ns G Y ho hd hcd hmg hobj hints hlen hg => ?_
  have KX := hY w _ Y
  obtain ⟨fd, hb, hF⟩ := F w mg fa _ KX G.T.g hmg
  exact law_call KX G.T.g G.T.b G.T.builtins G.T.nolimit hg hobj hints (Nat.le_trans hlen hn2) hr hF hb (fun H hO hS => hsp w H a ns hlen hO hS) fun H e s' => hCX w H s₁ e s'
end L2
/- THE LAST THEOREM (shape; LID, My.* are yours):
   My.Adr: a structure of the addresses that your layer names (classes, functions); My.Txt K t: a structure (Prop) of the equations over K;
   My.txt_mk : {K} {implicit addresses ..} (e1 : nsIn K mainGlobals "law" = some (some (.ref f))) (e2 : K.lookup f = some ⟨oc, od, .func (fnOf "law" "law" params body scope dV kV doc pm an cdv ct), sl⟩) (e3 : codeIn K cdv "law" = true) .. : ∃ t, My.Txt K t
set_option maxRecDepth 100000 in
set_option maxHeartbeats 0 in
theorem PySem.Challenge.cw_LID_holds : PySem.Challenge.rw_LID.Holds := by
  w_on; o_law; k_head; (case hw => w_witness2)
  k_fill
  refine L2.walk_of (l := PySem.Challenge.rw_LID) (n := 63) (k := 40) (x := "script") (CX := fun w => ..) (sp := fun _ => My.sp_law) rfl (by decide) rfl ⟨rfl, by decide, by decide⟩ (fun w h Y => PySem.W.kIn_of Y) ?F ?S ?C
  case F =>
    intro w mg fa h KX G hmg
    have T : ∃ t, My.Txt (L2.KOf KX) t := by
      dsimp only [L2.KOf]                          -- K must stand as «<heap const> w.params» for k_is
      refine' My.txt_mk ?e1 ?e2 ?e3 ..
      (case e1 => PySem.W.k_is)                    -- in the order: a name -> its address -> its object -> its parts
      (case e2 => PySem.W.k_is)
      ..
    obtain ⟨t, T⟩ := T
    have e0 := hmg.symm.trans (PySem.W.mg_of KX G T.law)
    cases e0                                       -- fa is the law's own address
    exact ⟨_, fun s u => .of_eq rfl, fun base kb nb => My.law_fn T kb nb⟩     -- if «.of_eq rfl» comes too early: refine' ⟨_, ?b, fun base kb nb => My.law_fn T kb nb⟩; exact fun s u => .of_eq rfl
  case S => exact fun w H a ns hl hO hS => ..
  case C => exact ..
(the tactic k_is has no namespace: write k_is) -/
namespace L2
open PySem PySem.Spec PyProof.Rows
def defArgs (s : Stmt) : Arguments := match s with
  | .FunctionDef _ a _ _ _ _ _ _ _ _ => a
  | _ => { posonlyargs := [], args := [], vararg := none, kwonlyargs := [], kw_defaults := [], kwarg := none, defaults := [] }
def defBody (s : Stmt) : List Stmt := match s with
  | .FunctionDef _ _ b _ _ _ _ _ _ _ => b
  | _ => []
def defScope (s : Stmt) : Scope := match s with
  | .FunctionDef _ _ _ _ _ _ sc _ _ _ => sc
  | _ => { kind := .function, names := [], isGenerator := false, isCoroutine := false }
abbrev CX0 : CXT := fun _ _ _ _ _ _ => False
abbrev E0 : XK := fun _ _ _ => False
structure Fun (K : PySem.W.Frag) (x qual : Str) (st : Stmt) (f : Addr) (fd : FuncData) : Prop where
  ex : ∃ (oc : Value) (od : Option Addr) (kV doc pm : Value) (an : Option Addr) (cdv ct : Value) (osl : Array (Option Value)),
    fd = PySem.W.fnOf x qual (defArgs st) (defBody st) (defScope st) .none kV doc pm an cdv ct ∧ K.lookup f = some ⟨oc, od, .func fd, osl⟩ ∧ PySem.W.codeIn K cdv qual = true
  kp : PySem.W.keepIn K (.ref f) = true
section
variable {P : Program} {w : World} {K : PySem.W.Frag} {mg : Str → Option Value} {base : Heap}
theorem Fun.binds {x qual : Str} {st : Stmt} {f : Addr} {fd : FuncData} {ps : List Str} (F : Fun K x qual st f fd)
    (h : ∀ (kV doc pm : Value) (an : Option Addr) (cdv ct : Value) (us : List Value), us.length = ps.length → bindArgs (PySem.W.fnOf x qual (defArgs st) (defBody st) (defScope st) .none kV doc pm an cdv ct) ⟨us, []⟩ = pure (ps.zip us)) : Binds K fd ps [] := by
  obtain ⟨oc, od, kV, doc, pm, an, cdv, ct, osl, rfl, lk, hcd⟩ := F.ex
  exact .all (h kV doc pm an cdv ct)
theorem fun_mk {x qual : Str} {st : Stmt} {f : Addr} {oc : Value} {od an : Option Addr} {osl : Array (Option Value)} {kV doc pm cdv ct : Value} (l : K.lookup f = some ⟨oc, od, .func (PySem.W.fnOf x qual (defArgs st) (defBody st) (defScope st) .none kV doc pm an cdv ct), osl⟩)
    (c : PySem.W.codeIn K cdv qual = true) (k : PySem.W.keepIn K (.ref f) = true) : Fun K x qual st f (PySem.W.fnOf x qual (defArgs st) (defBody st) (defScope st) .none kV doc pm an cdv ct) := ⟨⟨oc, od, kV, doc, pm, an, cdv, ct, osl, rfl, l, c⟩, k⟩
end
section
variable {X : Cx}
end
end L2
namespace L2
open PySem PySem.Spec PyProof.Rows
section
variable {κ : Type} [DecidableEq κ]
def valV (kvs : List (κ × V)) (k : κ) : Option V := (kvs.find? fun kv => decide (kv.1 = k)).map (·.2)
def putK (kvs : List (κ × V)) (k : κ) (v : V) : List (κ × V) :=
  if (kvs.any fun kv => decide (kv.1 = k)) = true then kvs.map (fun kv => if kv.1 = k then (kv.1, v) else kv) else kvs ++ [(k, v)]
theorem valV_pos {p : κ × V} {r : List (κ × V)} {k : κ} (e : p.1 = k) : valV (p :: r) k = some p.2 := by simp [valV, List.find?_cons, e]
theorem valV_neg {p : κ × V} {r : List (κ × V)} {k : κ} (e : ¬ p.1 = k) : valV (p :: r) k = valV r k := by simp [valV, List.find?_cons, e]
end
abbrev KT (H : Hp) : List (List Key × V) → List (List Key × Addr × Value) → Prop := Paired fun p q => p.1 = q.1 ∧ H q.2.1 = some (.tup (p.1.map kV)) ∧ RelV p.2 q.2.2
section
variable {P : Program} {w : World} {H : Hp} {h : Heap} {a : Addr}
end
section
variable {X : Cx} {pins : List (Addr × Obj)} {σ : St} {H : Hp} {s : Shared} {a : Addr} {y v : V} {u r : Value} {o : Option V} {A : Around} {E : Value → Shared → Prop}
end
section
variable {X : Cx} {pins : List (Addr × Obj)} {σ : St} {H : Hp} {s : Shared} {a : Addr} {kvs : List (Key × V)} {k : Key} {u : Value} {A : Around} {E : Value → Shared → Prop}
end
def NoSl (i : Expr) : Prop := ∀ ov iv, subscripted i false ov iv = operate [ov, iv] (getItem ov iv)
theorem subD_of {prog : Program} {w : World} {A : Around} {E : Value → Shared → Prop} {s : Shared} {env : Env} {value slice : Expr} {pos : Pos} {T id : String} {Q : Value → Shared → Prop}
    (hl : typeLookup (.type T) "__getitem__" = pure (some (.builtin id))) (hs : NoSl slice)
    (h : wpAny (model prog w) A (eval value env) (fun o s₁ => wpAny (model prog w) A (eval slice env) (fun i s₂ => s₂.TypeIs o T ∧ wpAny (model prog w) A (getItem o i) Q E s₂) E s₁) E s) :
    wpAny (model prog w) A (eval (.Subscript value slice pos) env) Q E s := by
  refine Subscript_ (wpAny_mono h (fun o s₁ h₁ => wpAny_mono h₁ (fun i s₂ h₂ => ?_) fun _ _ x => x) fun _ _ x => x)
  obtain ⟨hT, h₂⟩ := h₂
  unfold subscriptTail
  refine wpAny_bind ?_
  rw [getitemInPython_of_ne hT.not_modules]
  refine wpAny_bind (wpAny_specialOf hT hl ?_)
  have fin : wpAny (model prog w) A (subscripted slice false o i) (fun r s₃ => wpAny (model prog w) A (letTemporaryGo value o r >>= fun _ => pure r) Q E s₃) E s₂ := by
    rw [hs o i]
    exact wpAny_operating (wpAny_mono h₂ (fun r s₃ h₃ => wpAny_bind (wpAny_letTemporaryGo (wpAny_pure h₃))) fun _ _ x => x)
  first
    | exact wpAny_pure (wpAny_bind fin)
    | exact wpAny_bind (wpAny_pure (wpAny_bind fin))
    | exact wpAny_bind fin
section
variable {X : Cx} {o i e value : Expr} {pos pos' tpos : Pos} {td ty tv : TE}
end
section
variable {X : Cx} {pos : Pos}
end
abbrev VV : List (V × V) → List (Value × Value) → Prop := Paired fun p q => RelV p.1 q.1 ∧ RelV p.2 q.2
structure M1 (X : Cx) (o : Expr) (m : Str) (apos : Pos) (e : Expr) (cpos : Pos) : Prop where
  base : attributeBase o m X.env (eval o X.env) = eval o X.env
  few : ((backTo cpos (starEach [e] X.env)).all (fun x => !x.1) && (backToKw cpos (keywordEach [] X.env)).all (fun x => x.1.isSome)
    && decide (([e] : List Expr).length + ([] : List Keyword).length + (if ([] : List Keyword).isEmpty then 0 else 1) < 30)) = true
  line : (apos.endLine == cpos.line) = true
  trees : backTo cpos (starEach [e] X.env) = [(false, eval e X.env)]
structure M2 (X : Cx) (o : Expr) (m : Str) (apos : Pos) (e f : Expr) (cpos : Pos) : Prop where
  base : attributeBase o m X.env (eval o X.env) = eval o X.env
  few : ((backTo cpos (starEach [e, f] X.env)).all (fun x => !x.1) && (backToKw cpos (keywordEach [] X.env)).all (fun x => x.1.isSome)
    && decide (([e, f] : List Expr).length + ([] : List Keyword).length + (if ([] : List Keyword).isEmpty then 0 else 1) < 30)) = true
  line : (apos.endLine == cpos.line) = true
  trees : backTo cpos (starEach [e, f] X.env) = [(false, eval e X.env), (false, eval f X.env)]
section
variable {X : Cx} {pins : List (Addr × Obj)} {σ : St} {H : Hp} {s : Shared} {a : Addr} {y d : V} {u r : Value} {o : Option V} {A : Around} {E : Value → Shared → Prop}
end
section
variable {X : Cx} {o e f : Expr} {apos cpos : Pos} {td ty tx : TE}
end
section
variable {X : Cx} {pins : List (Addr × Obj)} {σ : St} {H : Hp} {s : Shared} {a : Addr} {kvs : List (Key × V)} {A : Around} {E : Value → Shared → Prop}
end
section
variable {X : Cx} {pins : List (Addr × Obj)} {σ : St} {H : Hp} {s : Shared} {a : Addr} {y : V} {u : Value} {A : Around} {E : Value → Shared → Prop}
end
end L2
namespace Att
open PySem PySem.W PySem.Calls PyProof.Rows
end Att
namespace L2
open PySem PySem.Spec PyProof.Rows
section
variable {X : Cx}
end
section
variable {κ : Type} [DecidableEq κ]
end
end L2
set_option maxHeartbeats 4000000
namespace J
open PySem PySem.Spec PyProof.Rows L2
structure Lm where
  a:Addr
  c:Addr
  q:PySem.Str
  xs:List V
inductive Wv where
  | non
  | bl (b:Bool)
  | int (i:Int)
  | str (x:PySem.Str)
  | tup (ws:List Wv)
  | ktp (ws:List Wv)
  | ref (l:Nat)
  | ty (n:String)
  | cls (c:PySem.Str)
  | exn (c:PySem.Str)
  | fn (p:Lm) (ws:List Wv)
inductive Ob where
  | lst (ws:List Wv)
  | scr (ns:List Int)
  | dct (kvs:List (L2.Key × Wv))
  | dcT (kvs:List (List L2.Key × Wv))
abbrev Hs:=List Ob
abbrev St:=L2.St
abbrev Rho:=List (Option Wv)
abbrev Mp:=List Addr
def ExnAt (a C:Addr):Heap → Prop:=fun h => ∃ o,h.get? a = some o ∧ o.cls = .ref C ∧ ∃ vs,o.data = .fields vs
def ClsAt (K:PySem.W.Frag) (c:PySem.Str) (C:Addr):Prop:=PySem.W.nsIn K mainGlobals c = some (some (.ref C))
def CodeX (c:Addr) (q:PySem.Str):Heap → Prop:=fun h => h.CodeRec (.ref c) q
def lamDefs:List PySem.Str:=["form_of","formula_by","turned"]
def tabFree (K:PySem.W.Frag) (q:PySem.Str):Option Addr:=match PySem.W.tabIn K q with
  | some (_,P) => if (K.lookup P).isNone = true then some P else none
  | none => none
def lamQ (q:PySem.Str):PySem.Str:=(q ++ ".<locals>.") ++ "<lambda>"
def TbOk (K:PySem.W.Frag) (H:Hp):Prop:=∀ q P,q ∈ lamDefs → tabFree K q = some P → ∃ ps,H P = some (.tbl ps) ∧ TriplesOk ps.toList ∧ ∀ pos cv,codeAmong pos ps.toList = some cv → ∃ c,cv = .ref c ∧ H c = some (.ext (CodeX c (lamQ q)))
theorem TbOk.keep {K:PySem.W.Frag} {H H':Hp} (t:TbOk K H) (h1:∀ a ps,H a = some (.tbl ps) → H' a = some (.tbl ps)) (h2:∀ a φ,H a = some (.ext φ) → H' a = some (.ext φ)):TbOk K H':=fun q P hq hP => by
  obtain ⟨ps,e1,e2,e3⟩:=t q P hq hP
  refine ⟨ps,h1 _ _ e1,e2,fun pos cv e => ?_⟩
  obtain ⟨c,f1,f2⟩:=e3 pos cv e
  exact ⟨c,f1,h2 _ _ f2⟩
def KTup (K:PySem.W.Frag) (a:Addr) (xs:List V):Prop:=∃ (o:Obj) (its:Array Value) (n:Nat),K.lookup a = some o ∧ o.cls = .type "tuple" ∧ o.data = .seq its n ∧ its.size ≤ sizeLine ∧ Vals xs its.toList
mutual
def RelW (K:PySem.W.Frag) (m:Mp) (H:Hp):Wv → V → Prop
  | .non,v => v = .non
  | .bl b,v => v = .bl b
  | .int i,v => v = .int i
  | .str x,v => v = .str x ∧ PyData.strOk x = true
  | .tup ws,v => ∃ a xs,v = .ref a ∧ H a = some (.tup xs) ∧ RelWs K m H ws xs
  | .ktp ws,v => ∃ a xs,v = .ref a ∧ KTup K a xs ∧ RelWs K m H ws xs
  | .ref l,v => ∃ a,v = .ref a ∧ m[l]? = some a
  | .ty n,v => v = .ty n
  | .cls c,v => ∃ C,v = .ref C ∧ ClsAt K c C
  | .exn c,v => ∃ a C,v = .ref a ∧ ClsAt K c C ∧ H a = some (.ext (ExnAt a C))
  | .fn p ws,v => v = .ref p.a ∧ H p.c = some (.ext (CodeX p.c p.q)) ∧ RelWs K m H ws p.xs
def RelWs (K:PySem.W.Frag) (m:Mp) (H:Hp):List Wv → List V → Prop
  | [],xs => xs = []
  | w :: ws,xs => ∃ x r,xs = x :: r ∧ RelW K m H w x ∧ RelWs K m H ws r
end
structure Ext (K:PySem.W.Frag) (m:Mp) (H:Hp) (m':Mp) (H':Hp):Prop where
  pre:∀ (l:Nat) (a:Addr),m[l]? = some a → m'[l]? = some a
  tup:∀ (a:Addr) (xs:List V),H a = some (.tup xs) → H' a = some (.tup xs)
  ext:∀ (a:Addr) (φ:Heap → Prop),H a = some (.ext φ) → H' a = some (.ext φ)
section
variable {K:PySem.W.Frag} {m m1 m2:Mp} {H H1 H2:Hp}
theorem Ext.refl:Ext K m H m H:=⟨fun _ _ h => h,fun _ _ h => h,fun _ _ h => h⟩
theorem Ext.trans (a:Ext K m H m1 H1) (b:Ext K m1 H1 m2 H2):Ext K m H m2 H2 :=
  ⟨fun l x h => b.pre l x (a.pre l x h),fun x xs h => b.tup x xs (a.tup x xs h),fun x φ h => b.ext x φ (a.ext x φ h)⟩
mutual
theorem RelW.mono (e:Ext K m H m1 H1):∀ (w:Wv) (v:V),RelW K m H w v → RelW K m1 H1 w v
  | .non,v,h => by unfold RelW at h ⊢; exact h
  | .bl b,v,h => by unfold RelW at h ⊢; exact h
  | .int i,v,h => by unfold RelW at h ⊢; exact h
  | .str x,v,h => by unfold RelW at h ⊢; exact h
  | .ty n,v,h => by unfold RelW at h ⊢; exact h
  | .cls c,v,h => by unfold RelW at h ⊢; exact h
  | .exn c,v,h => by
    unfold RelW at h ⊢
    obtain ⟨a,C,e1,e2,e3⟩:=h
    exact ⟨a,C,e1,e2,e.ext _ _ e3⟩
  | .ref l,v,h => by
    unfold RelW at h ⊢
    obtain ⟨a,e1,e2⟩:=h
    exact ⟨a,e1,e.pre _ _ e2⟩
  | .tup ws,v,h => by
    unfold RelW at h ⊢
    obtain ⟨a,xs,e1,e2,e3⟩:=h
    exact ⟨a,xs,e1,e.tup _ _ e2,RelWs.mono e ws xs e3⟩
  | .ktp ws,v,h => by
    unfold RelW at h ⊢
    obtain ⟨a,xs,e1,e2,e3⟩:=h
    exact ⟨a,xs,e1,e2,RelWs.mono e ws xs e3⟩
  | .fn p ws,v,h => by
    unfold RelW at h ⊢
    obtain ⟨e1,e2,e3⟩:=h
    exact ⟨e1,e.ext _ _ e2,RelWs.mono e ws p.xs e3⟩
theorem RelWs.mono (e:Ext K m H m1 H1):∀ (ws:List Wv) (xs:List V),RelWs K m H ws xs → RelWs K m1 H1 ws xs
  | [],xs,h => by unfold RelWs at h ⊢; exact h
  | w :: ws,xs,h => by
    unfold RelWs at h ⊢
    obtain ⟨x,r,e1,e2,e3⟩:=h
    exact ⟨x,r,e1,RelW.mono e w x e2,RelWs.mono e ws r e3⟩
end
theorem RelWs.nil:RelWs K m H [] []:=by unfold RelWs; rfl
theorem RelWs.cons {w:Wv} {x:V} {ws:List Wv} {xs:List V} (h:RelW K m H w x) (t:RelWs K m H ws xs):RelWs K m H (w :: ws) (x :: xs):=by unfold RelWs; exact ⟨x,xs,rfl,h,t⟩
theorem RelWs.length:∀ {ws:List Wv} {xs:List V},RelWs K m H ws xs → ws.length = xs.length
  | [],xs,h => by unfold RelWs at h; subst h; rfl
  | w :: ws,xs,h => by
    unfold RelWs at h
    obtain ⟨x,r,e1,_,e3⟩:=h
    subst e1
    simp [RelWs.length e3]
theorem RelWs.get:∀ {ws:List Wv} {xs:List V} {i:Nat} {w:Wv},RelWs K m H ws xs → ws[i]? = some w → ∃ x,xs[i]? = some x ∧ RelW K m H w x
  | [],_,i,w,_,e => by simp at e
  | a :: ws,xs,0,w,h,e => by
    unfold RelWs at h
    obtain ⟨x,r,e1,e2,_⟩:=h
    subst e1
    simp at e
    subst e
    exact ⟨x,rfl,e2⟩
  | a :: ws,xs,i + 1,w,h,e => by
    unfold RelWs at h
    obtain ⟨x,r,e1,_,e3⟩:=h
    subst e1
    obtain ⟨y,f1,f2⟩:=RelWs.get (i:=i) (w:=w) e3 (by simpa using e)
    exact ⟨y,by simpa using f1,f2⟩
theorem RelWs.append:∀ {ws zs:List Wv} {xs ys:List V},RelWs K m H ws xs → RelWs K m H zs ys → RelWs K m H (ws ++ zs) (xs ++ ys)
  | [],_,xs,_,h,g => by unfold RelWs at h; subst h; exact g
  | w :: ws,zs,xs,ys,h,g => by
    unfold RelWs at h
    obtain ⟨x,r,e1,e2,e3⟩:=h
    subst e1
    exact RelWs.cons e2 (RelWs.append e3 g)
theorem RelWs.set:∀ {ws:List Wv} {xs:List V} (i:Nat) {w:Wv} {x:V},RelWs K m H ws xs → RelW K m H w x → RelWs K m H (ws.set i w) (xs.set i x)
  | [],xs,i,w,x,h,_ => by unfold RelWs at h; subst h; exact RelWs.nil
  | a :: ws,xs,0,w,x,h,g => by
    unfold RelWs at h
    obtain ⟨y,r,e1,e2,e3⟩:=h
    subst e1
    exact RelWs.cons g e3
  | a :: ws,xs,i + 1,w,x,h,g => by
    unfold RelWs at h
    obtain ⟨y,r,e1,e2,e3⟩:=h
    subst e1
    exact RelWs.cons e2 (RelWs.set i e3 g)
theorem RelWs.drop:∀ {ws:List Wv} {xs:List V} (i:Nat),RelWs K m H ws xs → RelWs K m H (ws.drop i) (xs.drop i)
  | ws,xs,0,h => by simpa using h
  | [],xs,i + 1,h => by unfold RelWs at h; subst h; simpa using RelWs.nil
  | a :: ws,xs,i + 1,h => by
    unfold RelWs at h
    obtain ⟨y,r,e1,e2,e3⟩:=h
    subst e1
    simpa using RelWs.drop i e3
theorem RelWs.take:∀ {ws:List Wv} {xs:List V} (i:Nat),RelWs K m H ws xs → RelWs K m H (ws.take i) (xs.take i)
  | ws,xs,0,h => by simpa using RelWs.nil
  | [],xs,i + 1,h => by unfold RelWs at h; subst h; simpa using RelWs.nil
  | a :: ws,xs,i + 1,h => by
    unfold RelWs at h
    obtain ⟨y,r,e1,e2,e3⟩:=h
    subst e1
    simpa using RelWs.cons e2 (RelWs.take i e3)
theorem RelWs.ints:∀ (ns:List Int),RelWs K m H (ns.map Wv.int) (ns.map V.int)
  | [] => RelWs.nil
  | n :: ns => RelWs.cons (by unfold RelW; rfl) (RelWs.ints ns)
end
def ScrOk (K:PySem.W.Frag) (H:Hp) (a:Addr) (ns:List Int):Prop :=
  (∃ o,H a = some (.frz o (.lst (ns.map V.int)))) ∨
    ∃ (o:Obj) (its:Array Value) (n:Nat),K.lookup a = some o ∧ o.cls = .type "list" ∧ o.dict = none ∧ o.data = .seq its n ∧ its.size ≤ sizeLine ∧ Vals (ns.map V.int) its.toList
def RelK {κ:Type} (K:PySem.W.Frag) (m:Mp) (H:Hp) (kvs:List (κ × Wv)) (xs:List (κ × V)):Prop:=kvs.map (·.1) = xs.map (·.1) ∧ RelWs K m H (kvs.map (·.2)) (xs.map (·.2))
def ORel (K:PySem.W.Frag) (m:Mp) (H:Hp) (a:Addr):Ob → Prop
  | .lst ws => ∃ xs,H a = some (.lst xs) ∧ RelWs K m H ws xs
  | .scr ns => ScrOk K H a ns
  | .dct kvs => ∃ xs,H a = some (.dK xs) ∧ RelK K m H kvs xs
  | .dcT kvs => ∃ xs,H a = some (.dT xs) ∧ RelK K m H kvs xs
def Ob.mu:Ob → Bool
  | .scr _ => false
  | _ => true
structure Sim (K:PySem.W.Frag) (m:Mp) (st:Hs) (H:Hp):Prop where
  len:m.length = st.length
  obj:∀ (l:Nat) (a:Addr) (o:Ob),m[l]? = some a → st[l]? = some o → ORel K m H a o
  inj:∀ (l l':Nat) (a:Addr) (o o':Ob),m[l]? = some a → m[l']? = some a → st[l]? = some o → st[l']? = some o' → o.mu = true → o'.mu = true → l = l'
  tab:TbOk K H
def lstOf (st:Hs) (l:Nat):Option (List Wv):=match st[l]? with
  | some (.lst ws) => some ws
  | some (.scr ns) => some (ns.map Wv.int)
  | _ => none
section
variable {K:PySem.W.Frag} {m:Mp} {H:Hp} {st:Hs}
def Wr (u:Option HO):Prop:=u = none ∨ (∃ ys,u = some (.lst ys)) ∨ (∃ ys,u = some (.dK ys)) ∨ ∃ ys,u = some (.dT ys)
theorem Wr.ne {p a:Addr} {u:HO} (hp:Wr (H p)) (e:H a = some u) (n1:∀ ys,u ≠ .lst ys) (n2:∀ ys,u ≠ .dK ys) (n3:∀ ys,u ≠ .dT ys):a ≠ p:=fun z => by
  subst z
  rcases hp with q | ⟨ys,q⟩ | ⟨ys,q⟩ | ⟨ys,q⟩
  · rw [q] at e; cases e
  · rw [q] at e; cases e; exact n1 ys rfl
  · rw [q] at e; cases e; exact n2 ys rfl
  · rw [q] at e; cases e; exact n3 ys rfl
theorem tup_updW {p a:Addr} {o:HO} {xs:List V} (hp:Wr (H p)) (h:H a = some (.tup xs)):upd H p o a = some (.tup xs):=by
  rw [upd_ne (hp.ne h (by intro ys z; cases z) (by intro ys z; cases z) (by intro ys z; cases z))]; exact h
theorem scr_updW {p a:Addr} {o:HO} {ns:List Int} (hp:Wr (H p)) (h:ScrOk K H a ns):ScrOk K (upd H p o) a ns:=by
  rcases h with ⟨o',h⟩ | h
  · exact .inl ⟨o',by rw [upd_ne (hp.ne h (by intro ys z; cases z) (by intro ys z; cases z) (by intro ys z; cases z))]; exact h⟩
  · exact .inr h
theorem Wr.of {u:Option HO} (h:u = none ∨ ∃ ys,u = some (.lst ys)):Wr u:=by
  rcases h with q | q
  · exact .inl q
  · exact .inr (.inl q)
theorem Ext.updW {p:Addr} {o:HO} (hp:Wr (H p)):Ext K m H m (upd H p o):=⟨fun _ _ h => h,fun _ _ h => tup_updW hp h,fun a φ h => by
  rw [upd_ne (hp.ne h (by intro ys z; cases z) (by intro ys z; cases z) (by intro ys z; cases z))]
  exact h⟩
theorem Ext.upd {p:Addr} {o:HO} (hp:H p = none ∨ ∃ ys,H p = some (.lst ys)):Ext K m H m (upd H p o):=Ext.updW (Wr.of hp)
theorem RelK.mono {κ:Type} {m1:Mp} {H1:Hp} {kvs:List (κ × Wv)} {xs:List (κ × V)} (e:Ext K m H m1 H1) (h:RelK K m H kvs xs):RelK K m1 H1 kvs xs:=⟨h.1,RelWs.mono e _ _ h.2⟩
theorem ORel.keep {m1:Mp} {b p:Addr} {u:HO} {o:Ob} (ex:Ext K m H m1 (L2.upd H p u)) (hp:Wr (H p)) (hb:o.mu = true → b ≠ p) (h:ORel K m H b o):ORel K m1 (L2.upd H p u) b o:=by
  cases o with
  | lst ws =>
    obtain ⟨xs,e1,e2⟩:=h
    exact ⟨xs,by rw [upd_ne (hb rfl)]; exact e1,RelWs.mono ex _ _ e2⟩
  | dct kvs =>
    obtain ⟨xs,e1,e2⟩:=h
    exact ⟨xs,by rw [upd_ne (hb rfl)]; exact e1,e2.mono ex⟩
  | dcT kvs =>
    obtain ⟨xs,e1,e2⟩:=h
    exact ⟨xs,by rw [upd_ne (hb rfl)]; exact e1,e2.mono ex⟩
  | scr ns => exact scr_updW hp h
theorem ORel.at {b:Addr} {o:Ob} (h:ORel K m H b o) (hm:o.mu = true):∃ u,H b = some u:=by
  cases o with
  | lst ws => obtain ⟨xs,e1,e2⟩:=h; exact ⟨_,e1⟩
  | dct kvs => obtain ⟨xs,e1,e2⟩:=h; exact ⟨_,e1⟩
  | dcT kvs => obtain ⟨xs,e1,e2⟩:=h; exact ⟨_,e1⟩
  | scr ns => simp [Ob.mu] at hm
theorem ORel.wr {b:Addr} {o:Ob} (h:ORel K m H b o) (hm:o.mu = true):Wr (H b):=by
  cases o with
  | lst ws => obtain ⟨xs,e1,e2⟩:=h; exact .inr (.inl ⟨_,e1⟩)
  | dct kvs => obtain ⟨xs,e1,e2⟩:=h; exact .inr (.inr (.inl ⟨_,e1⟩))
  | dcT kvs => obtain ⟨xs,e1,e2⟩:=h; exact .inr (.inr (.inr ⟨_,e1⟩))
  | scr ns => simp [Ob.mu] at hm
theorem TbOk.updW {p:Addr} {o:HO} (t:TbOk K H) (hp:Wr (H p)):TbOk K (L2.upd H p o):=t.keep
  (fun a ps h => by rw [upd_ne (hp.ne h (by intro ys z; cases z) (by intro ys z; cases z) (by intro ys z; cases z))]; exact h)
  fun a φ h => by rw [upd_ne (hp.ne h (by intro ys z; cases z) (by intro ys z; cases z) (by intro ys z; cases z))]; exact h
theorem Ext.more {p:Addr}:Ext K m H (m ++ [p]) H:=⟨fun l a h => by
  rw [List.getElem?_append_left]
  · exact h
  · exact (List.getElem?_eq_some_iff.mp h).1,fun _ _ h => h,fun _ _ h => h⟩
theorem Sim.fresh {p:Addr} {o:HO} (S:Sim K m st H) (hp:H p = none):Sim K m st (upd H p o) :=
  ⟨S.len,fun l a ob h1 h2 => by
    have q:=S.obj l a ob h1 h2
    refine q.keep (Ext.updW (.inl hp)) (.inl hp) fun hm => ?_
    obtain ⟨u,e⟩:=q.at hm
    exact ne_of_none e hp,S.inj,S.tab.updW (.inl hp)⟩
theorem Sim.lstAt {l:Nat} {a:Addr} {ws:List Wv} (S:Sim K m st H) (h1:m[l]? = some a) (h2:st[l]? = some (.lst ws)):∃ xs,H a = some (.lst xs) ∧ RelWs K m H ws xs:=S.obj l a _ h1 h2
theorem Sim.has {l:Nat} {o:Ob} (S:Sim K m st H) (h:st[l]? = some o):∃ a,m[l]? = some a:=by
  have e:l < st.length:=(List.getElem?_eq_some_iff.mp h).1
  have e':l < m.length:=by rw [S.len]; exact e
  exact ⟨m[l],List.getElem?_eq_getElem e'⟩
theorem Sim.read {l:Nat} {a:Addr} {ws:List Wv} (S:Sim K m st H) (h1:m[l]? = some a) (h2:lstOf st l = some ws):∃ xs,SqL K H a xs ∧ RelWs K m H ws xs:=by
  unfold lstOf at h2
  cases e:st[l]? with
  | none => rw [e] at h2; cases h2
  | some o =>
    rw [e] at h2
    cases o with
    | lst zs =>
      cases h2
      obtain ⟨xs,e1,e2⟩:=S.lstAt h1 e
      exact ⟨xs,SqL.of e1,e2⟩
    | dct kvs => cases h2
    | dcT kvs => cases h2
    | scr ns =>
      cases h2
      have q:ScrOk K H a ns:=S.obj l a _ h1 e
      refine ⟨ns.map V.int,?_,RelWs.ints ns⟩
      rcases q with ⟨o,q⟩ | q
      · exact .inl (.inr ⟨o,q⟩)
      · exact .inr q
theorem Sim.allocO {p:Addr} {ob:Ob} {u:HO} (S:Sim K m st H) (hp:H p = none) (r:ORel K (m ++ [p]) (L2.upd H p u) p ob):Sim K (m ++ [p]) (st ++ [ob]) (L2.upd H p u):=by
  have ex:Ext K m H (m ++ [p]) (L2.upd H p u):=Ext.more.trans (Ext.updW (.inl hp))
  have notold:∀ (l:Nat) (o:Ob),m[l]? = some p → st[l]? = some o → o.mu = true → False:=fun l o h1 h2 hm => by
    obtain ⟨v,e⟩:=(S.obj l p o h1 h2).at hm
    rw [hp] at e; cases e
  have old:∀ (l:Nat) (a:Addr),(m ++ [p])[l]? = some a → (l < m.length ∧ m[l]? = some a) ∨ (l = m.length ∧ a = p):=fun l a h => by
    by_cases hl:l < m.length
    · exact .inl ⟨hl,by rw [List.getElem?_append_left hl] at h; exact h⟩
    · have h':=h
      rw [List.getElem?_append_right (by omega)] at h'
      have z:=List.getElem?_eq_some_iff.mp h'
      have z1:l - m.length < 1:=by simpa using z.1
      refine .inr ⟨by omega,?_⟩
      have e0:l - m.length = 0:=by omega
      rw [e0] at h'
      simpa using h'.symm
  have olds:∀ (l:Nat) (o:Ob),l < m.length → (st ++ [ob])[l]? = some o → st[l]? = some o:=fun l o hl h => by
    rw [List.getElem?_append_left (by rw [← S.len]; exact hl)] at h
    exact h
  refine ⟨by simp [S.len],fun l a o h1 h2 => ?_,fun l l' a zs zs' h1 h1' h2 h2' k k' => ?_,S.tab.updW (.inl hp)⟩
  · rcases old l a h1 with ⟨hl,h1⟩ | ⟨hl,rfl⟩
    · have q:=S.obj l a o h1 (olds l o hl h2)
      refine q.keep ex (.inl hp) fun hm => ?_
      obtain ⟨v,e⟩:=q.at hm
      exact ne_of_none e hp
    · have e:o = ob:=by
        rw [hl,S.len,List.getElem?_append_right (Nat.le_refl _),Nat.sub_self] at h2
        simpa using h2.symm
      subst e
      exact r
  · rcases old l a h1 with ⟨hl,g1⟩ | ⟨hl,ea⟩
    · rcases old l' a h1' with ⟨hl',g1'⟩ | ⟨hl',ea'⟩
      · exact S.inj l l' a zs zs' g1 g1' (olds l _ hl h2) (olds l' _ hl' h2') k k'
      · rw [ea'] at g1
        exact (notold l zs g1 (olds l _ hl h2) k).elim
    · rcases old l' a h1' with ⟨hl',g1'⟩ | ⟨hl',_⟩
      · rw [ea] at g1'
        exact (notold l' zs' g1' (olds l' _ hl' h2') k').elim
      · omega
theorem Sim.alloc {p:Addr} {ws:List Wv} {xs:List V} (S:Sim K m st H) (hp:H p = none) (r:RelWs K m H ws xs):Sim K (m ++ [p]) (st ++ [.lst ws]) (upd H p (.lst xs)) :=
  S.allocO hp ⟨xs,upd_same,RelWs.mono (Ext.more.trans (Ext.updW (.inl hp))) _ _ r⟩
theorem Sim.writeO {l:Nat} {a:Addr} {o0 ob:Ob} {u:HO} (S:Sim K m st H) (h1:m[l]? = some a) (h2:st[l]? = some o0) (hm:o0.mu = true) (r:ORel K m (L2.upd H a u) a ob):Sim K m (st.set l ob) (L2.upd H a u):=by
  have wr:Wr (H a):=(S.obj l a o0 h1 h2).wr hm
  have ex:Ext K m H m (L2.upd H a u):=Ext.updW wr
  have hl:l < st.length:=(List.getElem?_eq_some_iff.mp h2).1
  have at':∀ (k:Nat) (o:Ob),(st.set l ob)[k]? = some o → (k = l ∧ o = ob) ∨ (k ≠ l ∧ st[k]? = some o):=fun k o h => by
    by_cases e:l = k
    · subst e
      rw [List.getElem?_set_self hl] at h
      exact .inl ⟨rfl,(Option.some.inj h).symm⟩
    · rw [List.getElem?_set_ne e] at h
      exact .inr ⟨fun z => e z.symm,h⟩
  refine ⟨by simp [S.len],fun k b o g1 g2 => ?_,fun k k' b us us' g1 g1' g2 g2' q q' => ?_,S.tab.updW wr⟩
  · rcases at' k o g2 with ⟨rfl,rfl⟩ | ⟨hk,g2⟩
    · rw [h1] at g1; cases g1
      exact r
    · have q:=S.obj k b o g1 g2
      refine q.keep ex wr fun ho z => ?_
      subst z
      exact hk (S.inj k l b o o0 g1 h1 g2 h2 ho hm)
  · have back:∀ (k:Nat) (o:Ob),(st.set l ob)[k]? = some o → o.mu = true → ∃ o',st[k]? = some o' ∧ o'.mu = true:=fun k o h ho => by
      rcases at' k _ h with ⟨rfl,_⟩ | ⟨_,h⟩
      · exact ⟨o0,h2,hm⟩
      · exact ⟨o,h,ho⟩
    obtain ⟨u1,e1,f1⟩:=back k us g2 q
    obtain ⟨u2,e2,f2⟩:=back k' us' g2' q'
    exact S.inj k k' b u1 u2 g1 g1' e1 e2 f1 f2
theorem Sim.write {l:Nat} {a:Addr} {ws zs:List Wv} {xs:List V} (S:Sim K m st H) (h1:m[l]? = some a) (h2:st[l]? = some (.lst ws)) (r:RelWs K m H zs xs):Sim K m (st.set l (.lst zs)) (upd H a (.lst xs)) :=
  S.writeO h1 h2 rfl ⟨xs,upd_same,RelWs.mono (Ext.updW ((S.obj l a _ h1 h2).wr rfl)) _ _ r⟩
end
structure RelEnv (K:PySem.W.Frag) (m:Mp) (H:Hp) (ρ:Rho) (σ:St):Prop where
  len:ρ.length = σ.length
  get:∀ (i:Nat) (w:Wv),ρ[i]? = some (some w) → ∃ v,σ[i]? = some (some v) ∧ RelW K m H w v
section
variable {K:PySem.W.Frag} {m m1:Mp} {H H1:Hp} {ρ:Rho} {σ:St}
theorem RelEnv.mono (R:RelEnv K m H ρ σ) (e:Ext K m H m1 H1):RelEnv K m1 H1 ρ σ:=⟨R.len,fun i w h => let ⟨v,h1,h2⟩:=R.get i w h; ⟨v,h1,RelW.mono e _ _ h2⟩⟩
theorem RelEnv.set (R:RelEnv K m H ρ σ) (i:Nat) {w:Wv} {v:V} (h:RelW K m H w v):RelEnv K m H (ρ.set i (some w)) (σ.set i (some v)):=by
  refine ⟨by simp [R.len],fun j u e => ?_⟩
  by_cases hj:i = j
  · subst hj
    have hi:i < ρ.length:=by
      have:=(List.getElem?_eq_some_iff.mp e).1
      simpa using this
    rw [List.getElem?_set_self hi] at e
    have e':w = u:=Option.some.inj (Option.some.inj e)
    subst e'
    exact ⟨v,by rw [List.getElem?_set_self (by rw [← R.len]; exact hi)],h⟩
  · rw [List.getElem?_set_ne hj] at e
    obtain ⟨x,h1,h2⟩:=R.get j u e
    exact ⟨x,by rw [List.getElem?_set_ne hj]; exact h1,h2⟩
end
inductive Re (α:Type) where
  | ok (a:α) (st:Hs)
  | err (c:PySem.Str) (st:Hs)
  | bad
def Re.bind {α β:Type} (r:Re α) (f:α → Hs → Re β):Re β:=match r with
  | .ok a st => f a st
  | .err c st => .err c st
  | .bad => .bad
inductive Rs where
  | nx (ρ:Rho) (st:Hs)
  | rt (w:Wv) (st:Hs)
  | bk (ρ:Rho) (st:Hs)
  | ct (ρ:Rho) (st:Hs)
  | err (c:PySem.Str) (ρ:Rho) (st:Hs)
  | bad
def Re.thn {α:Type} (ρ:Rho) (r:Re α) (f:α → Hs → Rs):Rs:=match r with
  | .ok a st => f a st
  | .err c st => .err c ρ st
  | .bad => .bad
def Re.nox {α:Type} (r:Re α):Re α:=match r with
  | .ok a st => .ok a st
  | _ => .bad
abbrev GE:=Rho → Hs → Re Wv
abbrev GT:=Rho → Hs → Re Bool
abbrev GA:=Rho → Hs → Re (List Wv)
abbrev GS:=Rho → Hs → Rs
def Flown (P:Program) (w:World) (outer:List Env) (H:Hp) (s:Shared) (H':Hp) (cls:Value) (e:Value) (s':Shared):Prop :=
  ∃ (a:Addr) (a0:Value) (B:Heap),e = .ref a ∧ s'.os = s.os ∧ AllBare s'.gens ∧ Un (frs outer) [] H H' s.heap s'.heap ∧ HOk P w H' B ∧ Heap.FlyingW B outer a cls a0 s'.heap ∧
    (∀ b o,s.heap.get? b = some o → b ∉ frs outer → ∃ o',B.get? b = some o' ∧ (H b = none → o' = o))
def Raised (X:Cx) (σ:St) (H':Hp) (c:PySem.Str) (e:Value) (s':Shared):Prop :=
  ∃ (C:Addr) (pins:List (Addr × Obj)) (Hc:Hp) (sc:Shared),ClsAt X.K c C ∧ Inv X pins σ Hc sc ∧
    (Flown X.prog X.w X.stack Hc sc H' (.ref C) e s' ∨ (H' = Hc ∧ ∃ a args,e = .ref a ∧ s'.os = sc.os ∧ s'.gens = sc.gens ∧ Heap.MadeExcOf sc.heap s'.heap a (.ref C) args))
def XOk (X:Cx) (σ:St) (m:Mp) (H:Hp) (c:PySem.Str) (st:Hs):Prop :=
  ∀ (m':Mp) (H':Hp) (e:Value) (s':Shared),Ext X.K m H m' H' → Sim X.K m' st H' → Raised X σ H' c e s' → X.xe e s'
theorem XOk.mono {X:Cx} {σ:St} {m m1:Mp} {H H1:Hp} {c:PySem.Str} {st:Hs} (h:XOk X σ m H c st) (e:Ext X.K m H m1 H1):XOk X σ m1 H1 c st :=
  fun m' H' x s' e' S r => h m' H' x s' (e.trans e') S r
def PostG {α:Type} (X:Cx) (σ:St) (m:Mp) (H:Hp) (r:Re α) (ok:α → Hs → Prop):Prop:=match r with
  | .ok a st => ok a st
  | .err c st => XOk X σ m H c st
  | .bad => False
def PostN {α:Type} (r:Re α) (ok:α → Hs → Prop):Prop:=match r with
  | .ok a st => ok a st
  | _ => False
theorem PostG.nox {α:Type} {X:Cx} {σ:St} {m:Mp} {H:Hp} {r:Re α} {ok:α → Hs → Prop} (h:PostG X σ m H r.nox ok):PostN r ok:=by
  cases r with
  | ok a st => exact h
  | err c st => exact h
  | bad => exact h
theorem PostG.bind {α β:Type} {X:Cx} {σ:St} {m:Mp} {H:Hp} {r:Re α} {f:α → Hs → Re β} {ok:β → Hs → Prop} (h:PostG X σ m H (r.bind f) ok):PostG X σ m H r (fun a st => PostG X σ m H (f a st) ok):=by
  cases r with
  | ok a st => exact h
  | err c st => exact h
  | bad => exact h
theorem PostG.imp {α:Type} {X:Cx} {σ:St} {m m1:Mp} {H H1:Hp} {r:Re α} {ok ok':α → Hs → Prop} (h:PostG X σ m H r ok) (e:Ext X.K m H m1 H1) (k:∀ a st,ok a st → ok' a st):PostG X σ m1 H1 r ok':=by
  cases r with
  | ok a st => exact k a st h
  | err c st => exact XOk.mono (c:=c) (st:=st) h e
  | bad => exact h
theorem PostN.imp {α:Type} {r:Re α} {ok ok':α → Hs → Prop} (h:PostN r ok) (k:∀ a st,ok a st → ok' a st):PostN r ok':=by
  cases r with
  | ok a st => exact k a st h
  | err c st => exact h
  | bad => exact h
def okE (K:PySem.W.Frag) (m:Mp) (H:Hp) (Q:VK) (w:Wv) (st:Hs):Prop:=∀ (v:V) (m':Mp) (H':Hp),Ext K m H m' H' → Sim K m' st H' → RelW K m' H' w v → Q v H'
def okT (K:PySem.W.Frag) (m:Mp) (H:Hp) (Q:Bool → Hp → Prop) (b:Bool) (st:Hs):Prop:=∀ (m':Mp) (H':Hp),Ext K m H m' H' → Sim K m' st H' → Q b H'
def okA (K:PySem.W.Frag) (m:Mp) (H:Hp) (Q:List V → Hp → Prop) (ws:List Wv) (st:Hs):Prop:=∀ (vs:List V) (m':Mp) (H':Hp),Ext K m H m' H' → Sim K m' st H' → RelWs K m' H' ws vs → Q vs H'
abbrev PostE (X:Cx) (σ:St) (m:Mp) (H:Hp) (r:Re Wv) (Q:VK):Prop:=PostG X σ m H r (okE X.K m H Q)
abbrev PostT (X:Cx) (σ:St) (m:Mp) (H:Hp) (r:Re Bool) (Q:Bool → Hp → Prop):Prop:=PostG X σ m H r (okT X.K m H Q)
abbrev PostA (X:Cx) (σ:St) (m:Mp) (H:Hp) (r:Re (List Wv)) (Q:List V → Hp → Prop):Prop:=PostG X σ m H r (okA X.K m H Q)
theorem PostE.shift {X:Cx} {σ:St} {m m1:Mp} {H H1:Hp} {r:Re Wv} {Q:VK} (h:PostE X σ m H r Q) (e:Ext X.K m H m1 H1):PostE X σ m1 H1 r Q:=h.imp e fun _ _ k v m' H' e' => k v m' H' (e.trans e')
theorem PostT.shift {X:Cx} {σ:St} {m m1:Mp} {H H1:Hp} {r:Re Bool} {Q:Bool → Hp → Prop} (h:PostT X σ m H r Q) (e:Ext X.K m H m1 H1):PostT X σ m1 H1 r Q:=h.imp e fun _ _ k m' H' e' => k m' H' (e.trans e')
theorem PostA.shift {X:Cx} {σ:St} {m m1:Mp} {H H1:Hp} {r:Re (List Wv)} {Q:List V → Hp → Prop} (h:PostA X σ m H r Q) (e:Ext X.K m H m1 H1):PostA X σ m1 H1 r Q:=h.imp e fun _ _ k v m' H' e' => k v m' H' (e.trans e')
abbrev PostO (K:PySem.W.Frag) (m:Mp) (H:Hp) (r:Re Wv) (Q:VK):Prop:=PostN r (okE K m H Q)
theorem PostO.shift {K:PySem.W.Frag} {m m1:Mp} {H H1:Hp} {r:Re Wv} {Q:VK} (h:PostO K m H r Q) (e:Ext K m H m1 H1):PostO K m1 H1 r Q:=PostN.imp h fun _ _ k v m' H' e' => k v m' H' (e.trans e')
def PostS (X:Cx) (m:Mp) (H:Hp) (r:Rs) (D:Ends):Prop:=match r with
  | .nx ρ st => ∀ (σ:St) (m':Mp) (H':Hp),Ext X.K m H m' H' → Sim X.K m' st H' → RelEnv X.K m' H' ρ σ → D.nx σ H'
  | .rt w st => ∀ (v:V) (m':Mp) (H':Hp),Ext X.K m H m' H' → Sim X.K m' st H' → RelW X.K m' H' w v → D.rt v H'
  | .bk ρ st => ∀ (σ:St) (m':Mp) (H':Hp),Ext X.K m H m' H' → Sim X.K m' st H' → RelEnv X.K m' H' ρ σ → D.bk σ H'
  | .ct ρ st => ∀ (σ:St) (m':Mp) (H':Hp),Ext X.K m H m' H' → Sim X.K m' st H' → RelEnv X.K m' H' ρ σ → D.ct σ H'
  | .err c ρ st => ∀ (σ:St) (m':Mp) (H':Hp) (e:Value) (s':Shared),Ext X.K m H m' H' → Sim X.K m' st H' → RelEnv X.K m' H' ρ σ → Raised X σ H' c e s' → X.xe e s'
  | .bad => False
theorem PostS.shift {X:Cx} {m m1:Mp} {H H1:Hp} {r:Rs} {D:Ends} (h:PostS X m H r D) (e:Ext X.K m H m1 H1):PostS X m1 H1 r D:=by
  cases r with
  | nx ρ st => exact fun σ m' H' e' => h σ m' H' (e.trans e')
  | rt w st => exact fun v m' H' e' => h v m' H' (e.trans e')
  | bk ρ st => exact fun σ m' H' e' => h σ m' H' (e.trans e')
  | ct ρ st => exact fun σ m' H' e' => h σ m' H' (e.trans e')
  | err c ρ st => exact fun σ m' H' x s' e' => h σ m' H' x s' (e.trans e')
  | bad => exact h
theorem PostS.of_thn {α:Type} {X:Cx} {m:Mp} {H:Hp} {ρ:Rho} {σ:St} {r:Re α} {f:α → Hs → Rs} {D:Ends} (R:RelEnv X.K m H ρ σ) (h:PostS X m H (r.thn ρ f) D):PostG X σ m H r (fun a st => PostS X m H (f a st) D):=by
  cases r with
  | ok a st => exact h
  | err c st => exact fun m' H' x s' e' S r => h σ m' H' x s' e' S (R.mono e') r
  | bad => exact h
def SE (X:Cx) (e:Expr):TE:=fun σ H Q => ∀ (pins:List (Addr × Obj)) (s:Shared),Inv X pins σ H s → wpAny (model X.prog X.w) X.A (eval e X.env) (EP X pins σ Q) X.xe s
def ST (X:Cx) (e:Expr):TT:=fun σ H Q => ∀ (pins:List (Addr × Obj)) (s:Shared),Inv X pins σ H s → wpAny (model X.prog X.w) X.A (isTrue e X.env (eval e X.env)) (TP X pins σ Q) X.xe s
def SA (X:Cx) (es:List Expr):TA:=fun σ H Q => ∀ (pos:Pos) (pins:List (Addr × Obj)) (s:Shared),Inv X pins σ H s → wpAny (model X.prog X.w) X.A (spliced (backTo pos (starEach es X.env))) (AP X pins σ Q) X.xe s
def SS (X:Cx) (st:Stmt):TS:=fun D σ H => ∀ (pins:List (Addr × Obj)) (s:Shared),Inv X pins σ H s → wpAny (model X.prog X.w) X.A (exec st X.env) (SP X pins D) X.xe s
def SSs (X:Cx) (st:List Stmt):TS:=fun D σ H => ∀ (pins:List (Addr × Obj)) (s:Shared),Inv X pins σ H s → wpAny (model X.prog X.w) X.A (execs st X.env) (SP X pins D) X.xe s
section
variable {X:Cx}
theorem pe_SE {e:Expr}:PE X e (SE X e):=fun pins s _ _ _ I h => h pins s I
theorem pt_ST {e:Expr}:PT X e (ST X e):=fun pins s _ _ _ I h => h pins s I
theorem pa_SA {es:List Expr}:PA X es (SA X es):=fun pos pins s _ _ _ I h => h pos pins s I
theorem ps_SS {st:Stmt}:PS X st (SS X st):=fun pins s _ _ _ I h => h pins s I
theorem pss_SSs {st:List Stmt}:PSs X st (SSs X st):=fun pins s _ _ _ I h => h pins s I
end
def JE (X:Cx) (e:Expr) (g:GE):Prop:=∀ (ρ:Rho) (st:Hs) (σ:St) (H:Hp) (m:Mp) (Q:VK),Sim X.K m st H → RelEnv X.K m H ρ σ → PostE X σ m H (g ρ st) Q → SE X e σ H Q
def JT (X:Cx) (e:Expr) (g:GT):Prop:=∀ (ρ:Rho) (st:Hs) (σ:St) (H:Hp) (m:Mp) (Q:Bool → Hp → Prop),Sim X.K m st H → RelEnv X.K m H ρ σ → PostT X σ m H (g ρ st) Q → ST X e σ H Q
def JA (X:Cx) (es:List Expr) (g:GA):Prop:=∀ (ρ:Rho) (st:Hs) (σ:St) (H:Hp) (m:Mp) (Q:List V → Hp → Prop),Sim X.K m st H → RelEnv X.K m H ρ σ → PostA X σ m H (g ρ st) Q → SA X es σ H Q
def JS (X:Cx) (s:Stmt) (g:GS):Prop:=∀ (ρ:Rho) (st:Hs) (σ:St) (H:Hp) (m:Mp) (D:Ends),Sim X.K m st H → RelEnv X.K m H ρ σ → PostS X m H (g ρ st) D → SS X s D σ H
def JSs (X:Cx) (s:List Stmt) (g:GS):Prop:=∀ (ρ:Rho) (st:Hs) (σ:St) (H:Hp) (m:Mp) (D:Ends),Sim X.K m st H → RelEnv X.K m H ρ σ → PostS X m H (g ρ st) D → SSs X s D σ H
section
variable {X:Cx}
theorem JE.of {e:Expr} {g:GE} {t:TE} (h:PE X e t) (k:∀ (ρ:Rho) (st:Hs) (σ:St) (H:Hp) (m:Mp) (Q:VK),Sim X.K m st H → RelEnv X.K m H ρ σ → PostE X σ m H (g ρ st) Q → t σ H Q):JE X e g :=
  fun ρ st σ H m Q S R p pins s I => h pins s σ H Q I (k ρ st σ H m Q S R p)
theorem JT.of {e:Expr} {g:GT} {t:TT} (h:PT X e t) (k:∀ (ρ:Rho) (st:Hs) (σ:St) (H:Hp) (m:Mp) (Q:Bool → Hp → Prop),Sim X.K m st H → RelEnv X.K m H ρ σ → PostT X σ m H (g ρ st) Q → t σ H Q):JT X e g :=
  fun ρ st σ H m Q S R p pins s I => h pins s σ H Q I (k ρ st σ H m Q S R p)
theorem JA.of {es:List Expr} {g:GA} {t:TA} (h:PA X es t) (k:∀ (ρ:Rho) (st:Hs) (σ:St) (H:Hp) (m:Mp) (Q:List V → Hp → Prop),Sim X.K m st H → RelEnv X.K m H ρ σ → PostA X σ m H (g ρ st) Q → t σ H Q):JA X es g :=
  fun ρ st σ H m Q S R p pos pins s I => h pos pins s σ H Q I (k ρ st σ H m Q S R p)
theorem JS.of {e:Stmt} {g:GS} {t:TS} (h:PS X e t) (k:∀ (ρ:Rho) (st:Hs) (σ:St) (H:Hp) (m:Mp) (D:Ends),Sim X.K m st H → RelEnv X.K m H ρ σ → PostS X m H (g ρ st) D → t D σ H):JS X e g :=
  fun ρ st σ H m D S R p pins s I => h pins s σ H D I (k ρ st σ H m D S R p)
theorem JSs.of {e:List Stmt} {g:GS} {t:TS} (h:PSs X e t) (k:∀ (ρ:Rho) (st:Hs) (σ:St) (H:Hp) (m:Mp) (D:Ends),Sim X.K m st H → RelEnv X.K m H ρ σ → PostS X m H (g ρ st) D → t D σ H):JSs X e g :=
  fun ρ st σ H m D S R p pins s I => h pins s σ H D I (k ρ st σ H m D S R p)
theorem JE.go {e:Expr} {g:GE} {ρ:Rho} {st:Hs} {σ:St} {H:Hp} {m:Mp} {T:VK} {ok:Wv → Hs → Prop} (h:JE X e g) (S:Sim X.K m st H) (R:RelEnv X.K m H ρ σ) (p:PostG X σ m H (g ρ st) ok)
    (k:∀ (w:Wv) (st1:Hs) (v:V) (m1:Mp) (H1:Hp),ok w st1 → Ext X.K m H m1 H1 → Sim X.K m1 st1 H1 → RelW X.K m1 H1 w v → T v H1):SE X e σ H T :=
  h ρ st σ H m T S R (p.imp Ext.refl fun w st1 q v m1 H1 e1 s1 r1 => k w st1 v m1 H1 q e1 s1 r1)
theorem JT.go {e:Expr} {g:GT} {ρ:Rho} {st:Hs} {σ:St} {H:Hp} {m:Mp} {T:Bool → Hp → Prop} {ok:Bool → Hs → Prop} (h:JT X e g) (S:Sim X.K m st H) (R:RelEnv X.K m H ρ σ) (p:PostG X σ m H (g ρ st) ok)
    (k:∀ (b:Bool) (st1:Hs) (m1:Mp) (H1:Hp),ok b st1 → Ext X.K m H m1 H1 → Sim X.K m1 st1 H1 → T b H1):ST X e σ H T :=
  h ρ st σ H m T S R (p.imp Ext.refl fun b st1 q m1 H1 e1 s1 => k b st1 m1 H1 q e1 s1)
theorem JA.go {es:List Expr} {g:GA} {ρ:Rho} {st:Hs} {σ:St} {H:Hp} {m:Mp} {T:List V → Hp → Prop} {ok:List Wv → Hs → Prop} (h:JA X es g) (S:Sim X.K m st H) (R:RelEnv X.K m H ρ σ) (p:PostG X σ m H (g ρ st) ok)
    (k:∀ (ws:List Wv) (st1:Hs) (vs:List V) (m1:Mp) (H1:Hp),ok ws st1 → Ext X.K m H m1 H1 → Sim X.K m1 st1 H1 → RelWs X.K m1 H1 ws vs → T vs H1):SA X es σ H T :=
  h ρ st σ H m T S R (p.imp Ext.refl fun w st1 q v m1 H1 e1 s1 r1 => k w st1 v m1 H1 q e1 s1 r1)
end
end J
namespace J
open PySem PySem.Spec PyProof.Rows L2
def lim:Nat:=1000000
theorem lim_le {n:Nat} (h:n ≤ lim):n ≤ sizeLine:=Nat.le_trans h (by unfold lim; rw [sizeLine_eq]; decide)
theorem lim_lt {n:Nat} (h:n < lim):n < sizeLine:=Nat.lt_of_lt_of_le h (by unfold lim; rw [sizeLine_eq]; decide)
def gVar (i:Nat):GE:=fun ρ st => match ρ[i]? with
  | some (some w) => .ok w st
  | _ => .bad
def gC (w:Wv):GE:=fun _ st => .ok w st
section
variable {X:Cx}
theorem je_var (i:Nat) {x:Str} {pos:Pos} (hN:X.N[i]? = some x:=by rfl) (hv:Vis X.env.scope x:=by first | exact Or.inl rfl | exact Or.inr (Or.inl rfl) | exact Or.inr (Or.inr rfl)) (hd:(x == ("__debug__":Str)) = false:=by decide)
    (hcd:(x == ("__classdict__":Str)) = false:=by decide):JE X (.Name x pos) (gVar i):=JE.of (pe_var hN hv hd hcd) fun ρ st σ H m Q S R p => by
  unfold gVar at p
  cases e:ρ[i]? with
  | none => rw [e] at p; exact False.elim p
  | some o =>
    cases o with
    | none => rw [e] at p; exact False.elim p
    | some w =>
      rw [e] at p
      obtain ⟨v,h1,h2⟩:=R.get i w e
      exact ⟨v,h1,p v m H Ext.refl S h2⟩
theorem je_int {i:Int} {j pos}:JE X (.Constant (.int i) j pos) (gC (.int i)):=JE.of pe_int fun ρ st σ H m Q S R p => p (.int i) m H Ext.refl S (by unfold RelW; rfl)
theorem je_bl {b:Bool} {j pos}:JE X (.Constant (.bool b) j pos) (gC (.bl b)):=JE.of pe_bl fun ρ st σ H m Q S R p => p (.bl b) m H Ext.refl S (by unfold RelW; rfl)
theorem je_non {j pos}:JE X (.Constant .none j pos) (gC .non):=JE.of pe_non fun ρ st σ H m Q S R p => p .non m H Ext.refl S (by unfold RelW; rfl)
theorem je_str {x:PySem.Str} {j pos} (hx:PyData.strOk x = true:=by decide +kernel):JE X (.Constant (.str x) j pos) (gC (.str x)):=JE.of pe_str fun ρ st σ H m Q S R p => p (.str x) m H Ext.refl S (by unfold RelW; exact ⟨rfl,hx⟩)
theorem je_globI {x:Str} {i:Int} {t:Tok} {pos:Pos} (hg:Gl X x) (hm:X.mg x = some (.int i t)) (hd:(x == ("__debug__":Str)) = false:=by decide):JE X (.Name x pos) (gC (.int i)) :=
  JE.of (pe_glob (v:=.int i) hg hm ⟨t,rfl⟩ hd) fun ρ st σ H m Q S R p => p (.int i) m H Ext.refl S (by unfold RelW; rfl)
theorem je_globS {x y:Str} {t:Tok} {pos:Pos} (hg:Gl X x) (hm:X.mg x = some (.str y t)) (hy:PyData.strOk y = true:=by decide +kernel) (hd:(x == ("__debug__":Str)) = false:=by decide):JE X (.Name x pos) (gC (.str y)) :=
  JE.of (pe_glob (v:=.str y) hg hm ⟨t,rfl⟩ hd) fun ρ st σ H m Q S R p => p (.str y) m H Ext.refl S (by unfold RelW; exact ⟨rfl,hy⟩)
theorem je_ty {x:Str} {T:String} {pos:Pos} (hg:Gl X x) (hm:X.mg x = none) (hv:bootBuiltins x = some (.type T)) (hn:x ≠ "__name__":=by decide) (hd:(x == ("__debug__":Str)) = false:=by decide):JE X (.Name x pos) (gC (.ty T)) :=
  JE.of (pe_bltn (v:=.ty T) hg hm hv rfl hn hd) fun ρ st σ H m Q S R p => p (.ty T) m H Ext.refl S (by unfold RelW; rfl)
abbrev Op2:=Wv → Wv → Hs → Re Wv
def gBin (op:Op2) (ga gb:GE):GE:=fun ρ st => (ga ρ st).bind fun x st1 => (gb ρ st1).bind fun y st2 => (op x y st2).nox
def ReadW (X:Cx) (op:Op2) (r:R2):Prop:=∀ (x y:Wv) (a b:V) (st:Hs) (H:Hp) (m:Mp) (Q:VK),Sim X.K m st H → RelW X.K m H x a → RelW X.K m H y b → PostO X.K m H (op x y st) Q → r a b H Q
def OpW (X:Cx) (f:Value → Value → Sem Value) (op:Op2):Prop:=∃ r,OpR X f r ∧ ReadW X op r
theorem read2 {a b:Expr} {ga gb:GE} {op:Op2} {r:R2} (h2:ReadW X op r) (ha:JE X a ga) (hb:JE X b gb) {ρ:Rho} {st:Hs} {σ:St} {H:Hp} {m:Mp} {Q:VK} (S:Sim X.K m st H) (R:RelEnv X.K m H ρ σ) (p:PostE X σ m H (gBin op ga gb ρ st) Q) :
    tOp r (SE X a) (SE X b) σ H Q:=by
  refine ha.go S R (PostG.bind p) fun x st1 v m1 H1 p1 e1 S1 rx => ?_
  refine hb.go S1 (R.mono e1) ((PostG.bind p1).imp e1 fun _ _ q => q) fun y st2 u m2 H2 p2 e2 S2 ry => ?_
  exact h2 x y v u st2 H2 m2 Q S2 (RelW.mono e2 _ _ rx) ry (PostO.shift (PostG.nox p2) (e1.trans e2))
theorem je_bin {a b:Expr} {ga gb:GE} {o:Operator} {op:Op2} {pos:Pos} (ho:OpW X (binaryOp o) op) (ha:JE X a ga) (hb:JE X b gb):JE X (.BinOp a o b pos) (gBin op ga gb):=by
  obtain ⟨r,h1,h2⟩:=ho
  exact JE.of (pe_op h1 pe_SE pe_SE) fun ρ st σ H m Q S R p => read2 h2 ha hb S R p
theorem je_cmp {a b:Expr} {ga gb:GE} {o:CmpOp} {op:Op2} {pos:Pos} (ho:OpW X (compareOp o) op) (ha:JE X a ga) (hb:JE X b gb) (hm:behindInMarks o b = false):JE X (.Compare a [o] [b] pos) (gBin op ga gb):=by
  obtain ⟨r,h1,h2⟩:=ho
  exact JE.of (pe_cmpR h1 pe_SE pe_SE hm) fun ρ st σ H m Q S R p => read2 h2 ha hb S R p
def tst (w:Wv) (st:Hs):Re Bool:=match w with
  | .bl b => .ok b st
  | _ => .bad
def gTst (g:GE):GT:=fun ρ st => (g ρ st).bind tst
theorem post_tst {σ:St} {m:Mp} {H:Hp} {r:Re Wv} {Q:Bool → Hp → Prop} (p:PostT X σ m H (r.bind tst) Q):PostE X σ m H r (fun x H' => ∃ k,x = .bl k ∧ Q k H'):=by
  cases r with
  | ok w st =>
    cases w with
    | bl b =>
      intro v m' H' e S rw'
      unfold RelW at rw'
      exact ⟨b,rw',p m' H' e S⟩
    | _ => exact False.elim p
  | err c st => exact p
  | bad => exact p
theorem jt_cmp {a b:Expr} {ga gb:GE} {o:CmpOp} {op:Op2} {pos:Pos} (ho:OpW X (compareOp o) op) (ha:JE X a ga) (hb:JE X b gb) (hm:behindInMarks o b = false):JT X (.Compare a [o] [b] pos) (gTst (gBin op ga gb)):=by
  obtain ⟨r,h1,h2⟩:=ho
  exact JT.of (pt_cmpR h1 pe_SE pe_SE hm) fun ρ st σ H m Q S R p => read2 h2 ha hb S R (post_tst p)
def gChain (op op':Op2) (ga gb gc:GE):GE:=fun ρ st => (ga ρ st).bind fun x st1 => (gb ρ st1).bind fun y st2 => (op x y st2).nox.bind fun z st3 => match z with
  | .bl true => (gc ρ st3).bind fun u st4 => (op' y u st4).nox
  | .bl false => .ok (.bl false) st3
  | _ => .bad
theorem readC {a b c:Expr} {ga gb gc:GE} {op op':Op2} {r r':R2} (h2:ReadW X op r) (h2':ReadW X op' r') (ha:JE X a ga) (hb:JE X b gb) (hc:JE X c gc) {ρ:Rho} {st:Hs} {σ:St} {H:Hp} {m:Mp} {Q:VK}
    (S:Sim X.K m st H) (R:RelEnv X.K m H ρ σ) (p:PostE X σ m H (gChain op op' ga gb gc ρ st) Q):tChain r r' (SE X a) (SE X b) (SE X c) σ H Q:=by
  refine ha.go S R (PostG.bind p) fun x st1 v m1 H1 p1 e1 S1 rx => ?_
  refine hb.go S1 (R.mono e1) ((PostG.bind p1).imp e1 fun _ _ q => q) fun y st2 u m2 H2 p2 e2 S2 ry => ?_
  refine h2 x y v u st2 H2 m2 _ S2 (RelW.mono e2 _ _ rx) ry (PostN.imp (PostG.nox (PostG.bind p2)) fun z st3 p3 => ?_)
  intro z' m3 H3 e3 S3 rz
  cases z with
  | bl k =>
    unfold RelW at rz
    refine ⟨k,rz,?_⟩
    cases k with
    | true =>
      rw [if_pos rfl]
      refine hc.go S3 (R.mono (e1.trans (e2.trans e3))) ((PostG.bind p3).imp (e1.trans (e2.trans e3)) fun _ _ q => q) fun q st4 u' m4 H4 p4 e4 S4 rq => ?_
      exact h2' y q u u' st4 H4 m4 Q S4 (RelW.mono (e3.trans e4) _ _ ry) rq (PostO.shift (PostG.nox p4) (e1.trans (e2.trans (e3.trans e4))))
    | false =>
      rw [if_neg Bool.false_ne_true]
      exact p3 (.bl false) m3 H3 (e1.trans (e2.trans e3)) S3 (by unfold RelW; rfl)
  | _ => exact False.elim p3
theorem je_chain {a b c:Expr} {ga gb gc:GE} {o o':CmpOp} {op op':Op2} {pos:Pos} (ho:OpW X (compareOp o) op) (ho':OpW X (compareOp o') op') (ha:JE X a ga) (hb:JE X b gb) (hc:JE X c gc)
    (hm:lastMarks [o,o'] [b,c] = false:=by with_unfolding_all rfl):JE X (.Compare a [o,o'] [b,c] pos) (gChain op op' ga gb gc):=by
  obtain ⟨r,h1,h2⟩:=ho
  obtain ⟨r',h1',h2'⟩:=ho'
  exact JE.of (pe_chain h1 h1' pe_SE pe_SE pe_SE hm) fun ρ st σ H m Q S R p => readC h2 h2' ha hb hc S R p
theorem jt_chain {a b c:Expr} {ga gb gc:GE} {o o':CmpOp} {op op':Op2} {pos:Pos} (ho:OpW X (compareOp o) op) (ho':OpW X (compareOp o') op') (ha:JE X a ga) (hb:JE X b gb) (hc:JE X c gc)
    (hm:lastMarks [o,o'] [b,c] = false:=by with_unfolding_all rfl):JT X (.Compare a [o,o'] [b,c] pos) (gTst (gChain op op' ga gb gc)):=by
  obtain ⟨r,h1,h2⟩:=ho
  obtain ⟨r',h1',h2'⟩:=ho'
  exact JT.of (pt_chain h1 h1' pe_SE pe_SE pe_SE hm) fun ρ st σ H m Q S R p => readC h2 h2' ha hb hc S R (post_tst p)
def gUn (op:Wv → Hs → Re Wv) (ga:GE):GE:=fun ρ st => (ga ρ st).bind op
def opNeg:Wv → Hs → Re Wv
  | .int i,st => .ok (.int (-i)) st
  | _,_ => .bad
theorem je_neg {a:Expr} {ga:GE} {pos:Pos} (ha:JE X a ga):JE X (.UnaryOp .USub a pos) (gUn opNeg ga):=by
  refine JE.of (pe_un un_neg pe_SE) fun ρ st σ H m Q S R p => ?_
  refine ha.go S R (PostG.bind p) fun x st1 v m1 H1 p1 e1 S1 rx => ?_
  cases x with
  | int i =>
    unfold RelW at rx
    exact ⟨i,rx,p1 _ m1 H1 e1 S1 (by unfold RelW; rfl)⟩
  | _ => exact False.elim p1
def SW (X:Cx) (e:Expr):TT:=fun σ H Q => ∀ (wh:Sem Value) (pins:List (Addr × Obj)) (s:Shared),Inv X pins σ H s → wpAny (model X.prog X.w) X.A (isTrue e X.env wh) (TP X pins σ Q) X.xe s
theorem pw_SW {e:Expr}:PW X e (SW X e):=fun wh pins s _ _ _ I h => h wh pins s I
def JW (X:Cx) (e:Expr) (g:GT):Prop:=∀ (ρ:Rho) (st:Hs) (σ:St) (H:Hp) (m:Mp) (Q:Bool → Hp → Prop),Sim X.K m st H → RelEnv X.K m H ρ σ → PostT X σ m H (g ρ st) Q → SW X e σ H Q
theorem JW.of {e:Expr} {g:GT} {t:TT} (h:PW X e t) (k:∀ (ρ:Rho) (st:Hs) (σ:St) (H:Hp) (m:Mp) (Q:Bool → Hp → Prop),Sim X.K m st H → RelEnv X.K m H ρ σ → PostT X σ m H (g ρ st) Q → t σ H Q):JW X e g :=
  fun ρ st σ H m Q S R p wh pins s I => h wh pins s σ H Q I (k ρ st σ H m Q S R p)
theorem JW.jt {e:Expr} {g:GT} (h:JW X e g):JT X e g:=fun ρ st σ H m Q S R p pins s I => h ρ st σ H m Q S R p _ pins s I
def gAnd (ga gb:GT):GT:=fun ρ st => (ga ρ st).bind fun b st1 => if b = true then gb ρ st1 else .ok false st1
def gOr (ga gb:GT):GT:=fun ρ st => (ga ρ st).bind fun b st1 => if b = true then .ok true st1 else gb ρ st1
def gNot (ga:GT):GT:=fun ρ st => (ga ρ st).bind fun b st1 => .ok (!b) st1
theorem jw_and1 {a:Expr} {ga:GT} {pos:Pos} (ha:JT X a ga):JW X (.BoolOp .And [a] pos) ga:=JW.of (pw_and1 pt_ST) fun ρ st σ H m Q S R p => ha ρ st σ H m Q S R p
theorem jw_or1 {a:Expr} {ga:GT} {pos:Pos} (ha:JT X a ga):JW X (.BoolOp .Or [a] pos) ga:=JW.of (pw_or1 pt_ST) fun ρ st σ H m Q S R p => ha ρ st σ H m Q S R p
theorem jw_and {a b:Expr} {rest:List Expr} {ga gb:GT} {pos:Pos} (ha:JT X a ga) (hb:JW X (.BoolOp .And (b :: rest) pos) gb):JW X (.BoolOp .And (a :: b :: rest) pos) (gAnd ga gb):=by
  refine JW.of (pw_and pt_ST pw_SW) fun ρ st σ H m Q S R p => ?_
  refine ha.go S R (PostG.bind p) fun c st1 m1 H1 p1 e1 S1 => ?_
  cases c with
  | true => rw [if_pos rfl] at p1 ⊢; exact hb ρ st1 σ H1 m1 Q S1 (R.mono e1) (PostT.shift p1 e1)
  | false => rw [if_neg Bool.false_ne_true] at p1 ⊢; exact p1 m1 H1 e1 S1
theorem jw_or {a b:Expr} {rest:List Expr} {ga gb:GT} {pos:Pos} (ha:JT X a ga) (hb:JW X (.BoolOp .Or (b :: rest) pos) gb):JW X (.BoolOp .Or (a :: b :: rest) pos) (gOr ga gb):=by
  refine JW.of (pw_or pt_ST pw_SW) fun ρ st σ H m Q S R p => ?_
  refine ha.go S R (PostG.bind p) fun c st1 m1 H1 p1 e1 S1 => ?_
  cases c with
  | true => rw [if_pos rfl] at p1 ⊢; exact p1 m1 H1 e1 S1
  | false => rw [if_neg Bool.false_ne_true] at p1 ⊢; exact hb ρ st1 σ H1 m1 Q S1 (R.mono e1) (PostT.shift p1 e1)
theorem jt_not {a:Expr} {ga:GT} {pos:Pos} (ha:JT X a ga):JT X (.UnaryOp .Not a pos) (gNot ga):=by
  refine JT.of (pt_not pt_ST) fun ρ st σ H m Q S R p => ?_
  exact ha.go S R (PostG.bind p) fun c st1 m1 H1 p1 e1 S1 => p1 m1 H1 e1 S1
def gAndV (ga gb:GE):GE:=fun ρ st => (ga ρ st).bind fun w st1 => match w with
  | .bl true => gb ρ st1
  | .bl false => .ok (.bl false) st1
  | _ => .bad
def gOrV (ga gb:GE):GE:=fun ρ st => (ga ρ st).bind fun w st1 => match w with
  | .bl true => .ok (.bl true) st1
  | .bl false => gb ρ st1
  | _ => .bad
def gNotV (ga:GE):GE:=fun ρ st => (ga ρ st).bind fun w st1 => match w with
  | .bl b => .ok (.bl (!b)) st1
  | _ => .bad
theorem je_one {op} {a:Expr} {ga:GE} {pos:Pos} (ha:JE X a ga):JE X (.BoolOp op [a] pos) ga:=JE.of (pe_one pe_SE) fun ρ st σ H m Q S R p => ha ρ st σ H m Q S R p
theorem je_and {a b:Expr} {rest:List Expr} {ga gb:GE} {pos:Pos} (ha:JE X a ga) (hb:JE X (.BoolOp .And (b :: rest) pos) gb):JE X (.BoolOp .And (a :: b :: rest) pos) (gAndV ga gb):=by
  refine JE.of (pe_and pe_SE pe_SE) fun ρ st σ H m Q S R p => ?_
  refine ha.go S R (PostG.bind p) fun x st1 v m1 H1 p1 e1 S1 rx => ?_
  cases x with
  | bl c =>
    unfold RelW at rx
    refine ⟨c,rx,?_⟩
    cases c with
    | true => rw [if_pos rfl]; exact hb ρ st1 σ H1 m1 Q S1 (R.mono e1) (PostE.shift p1 e1)
    | false => rw [if_neg Bool.false_ne_true]; exact p1 _ m1 H1 e1 S1 (by unfold RelW; rfl)
  | _ => exact False.elim p1
theorem je_or {a b:Expr} {rest:List Expr} {ga gb:GE} {pos:Pos} (ha:JE X a ga) (hb:JE X (.BoolOp .Or (b :: rest) pos) gb):JE X (.BoolOp .Or (a :: b :: rest) pos) (gOrV ga gb):=by
  refine JE.of (pe_or pe_SE pe_SE) fun ρ st σ H m Q S R p => ?_
  refine ha.go S R (PostG.bind p) fun x st1 v m1 H1 p1 e1 S1 rx => ?_
  cases x with
  | bl c =>
    unfold RelW at rx
    refine ⟨c,rx,?_⟩
    cases c with
    | true => rw [if_pos rfl]; exact p1 _ m1 H1 e1 S1 (by unfold RelW; rfl)
    | false => rw [if_neg Bool.false_ne_true]; exact hb ρ st1 σ H1 m1 Q S1 (R.mono e1) (PostE.shift p1 e1)
  | _ => exact False.elim p1
theorem je_not {a:Expr} {ga:GE} {pos:Pos} (ha:JE X a ga):JE X (.UnaryOp .Not a pos) (gNotV ga):=by
  refine JE.of (pe_not pe_SE) fun ρ st σ H m Q S R p => ?_
  refine ha.go S R (PostG.bind p) fun x st1 v m1 H1 p1 e1 S1 rx => ?_
  cases x with
  | bl c =>
    unfold RelW at rx
    exact ⟨c,rx,p1 _ m1 H1 e1 S1 (by unfold RelW; rfl)⟩
  | _ => exact False.elim p1
def gIfE (gt:GT) (ga gb:GE):GE:=fun ρ st => (gt ρ st).bind fun b st1 => if b = true then ga ρ st1 else gb ρ st1
theorem je_if {c a b:Expr} {gt:GT} {ga gb:GE} {pos:Pos} (hc:JT X c gt) (ha:JE X a ga) (hb:JE X b gb):JE X (.IfExp c a b pos) (gIfE gt ga gb):=by
  refine JE.of (pe_ifExp pt_ST pe_SE pe_SE) fun ρ st σ H m Q S R p => ?_
  refine hc.go S R (PostG.bind p) fun k st1 m1 H1 p1 e1 S1 => ?_
  cases k with
  | true => rw [if_pos rfl] at p1 ⊢; exact ha ρ st1 σ H1 m1 Q S1 (R.mono e1) (PostE.shift p1 e1)
  | false => rw [if_neg Bool.false_ne_true] at p1 ⊢; exact hb ρ st1 σ H1 m1 Q S1 (R.mono e1) (PostE.shift p1 e1)
def gNil:GA:=fun _ st => .ok [] st
def gCons (ga:GE) (gr:GA):GA:=fun ρ st => (ga ρ st).bind fun x st1 => (gr ρ st1).bind fun xs st2 => .ok (x :: xs) st2
theorem ja_nil:JA X [] gNil:=JA.of pa_nil fun ρ st σ H m Q S R p => p [] m H Ext.refl S RelWs.nil
theorem ja_cons {e:Expr} {es:List Expr} {ga:GE} {gr:GA} (ha:JE X e ga) (hr:JA X es gr) (hs:starEach (e :: es) X.env = (false,eval e X.env) :: starEach es X.env:=by rfl):JA X (e :: es) (gCons ga gr):=by
  refine JA.of (pa_cons pe_SE pa_SA hs) fun ρ st σ H m Q S R p => ?_
  refine ha.go S R (PostG.bind p) fun x st1 v m1 H1 p1 e1 S1 rx => ?_
  refine hr.go S1 (R.mono e1) ((PostG.bind p1).imp e1 fun _ _ q => q) fun xs st2 vs m2 H2 p2 e2 S2 rs => ?_
  exact p2 (v :: vs) m2 H2 (e1.trans e2) S2 (RelWs.cons (RelW.mono e2 _ _ rx) rs)
def gTup (g:GA):GE:=fun ρ st => (g ρ st).bind fun ws st1 => if ws.length ≤ lim then .ok (.tup ws) st1 else .bad
def gLst (g:GA):GE:=fun ρ st => (g ρ st).bind fun ws st1 => if ws.length ≤ lim then .ok (.ref st1.length) (st1 ++ [.lst ws]) else .bad
theorem je_tup {es:List Expr} {g:GA} {x1 pos} (h:JA X es g):JE X (.Tuple es x1 pos) (gTup g):=by
  refine JE.of (pe_tup pa_SA) fun ρ st σ H m Q S R p => ?_
  refine h.go S R (PostG.bind p) fun ws st1 vs m1 H1 p1 e1 S1 rs => ?_
  by_cases hl:ws.length ≤ lim
  · rw [if_pos hl] at p1
    refine ⟨by rw [← rs.length]; exact lim_le hl,fun q hq => ?_⟩
    have e2:Ext X.K m1 H1 m1 (upd H1 q (.tup vs)):=Ext.upd (.inl hq)
    exact p1 (.ref q) m1 _ (e1.trans e2) (S1.fresh hq) (by unfold RelW; exact ⟨q,vs,rfl,upd_same,RelWs.mono e2 _ _ rs⟩)
  · rw [if_neg hl] at p1; exact False.elim p1
theorem Sim.newest {K:PySem.W.Frag} {m:Mp} {st:Hs} {H:Hp} (S:Sim K m st H) (q:Addr) (H':Hp):RelW K (m ++ [q]) H' (.ref st.length) (.ref q):=by
  unfold RelW
  refine ⟨q,rfl,?_⟩
  rw [← S.len,List.getElem?_append_right (Nat.le_refl _),Nat.sub_self]
  rfl
theorem new_list {m m1:Mp} {H H1:Hp} {st1:Hs} {ws:List Wv} {vs:List V} {Q:VK} (p1:okE X.K m H Q (.ref st1.length) (st1 ++ [.lst ws])) (e1:Ext X.K m H m1 H1) (S1:Sim X.K m1 st1 H1) (rs:RelWs X.K m1 H1 ws vs) (q:Addr) (hq:H1 q = none) :
    Q (.ref q) (upd H1 q (.lst vs)) :=
  p1 (.ref q) (m1 ++ [q]) _ (e1.trans (Ext.more.trans (Ext.upd (.inl hq)))) (S1.alloc hq rs) (S1.newest q _)
theorem je_lst {es:List Expr} {g:GA} {pos} (h:JA X es g):JE X (.List es pos) (gLst g):=by
  refine JE.of (pe_lst pa_SA) fun ρ st σ H m Q S R p => ?_
  refine h.go S R (PostG.bind p) fun ws st1 vs m1 H1 p1 e1 S1 rs => ?_
  by_cases hl:ws.length ≤ lim
  · rw [if_pos hl] at p1
    exact ⟨by rw [← rs.length]; exact lim_le hl,fun q hq => new_list p1 e1 S1 rs q hq⟩
  · rw [if_neg hl] at p1; exact False.elim p1
end
end J
namespace J
open PySem PySem.Spec PyProof.Rows L2
section
variable {X:Cx}
theorem OpR.or {f:Value → Value → Sem Value} {r r':R2} (h:OpR X f r) (h':OpR X f r'):OpR X f (fun x y H Q => r x y H Q ∨ r' x y H Q):=by
  intro pins s σ H x y v u Q I rx ry q
  rcases q with q | q
  · exact h pins s σ H x y v u Q I rx ry q
  · exact h' pins s σ H x y v u Q I rx ry q
theorem op_fdivG:OpR X (binaryOp .FloorDiv) (rI (fun _ j => j ≠ 0 ∧ j.natAbs.log2 < 9000) fun i j => .int (i.fdiv j)):=opI fun i j _ _ _ _ _ hc q => floordiv_int hc.1 q (.inl (PyProof.noPylong_of_log2 hc.2))
theorem op_modG:OpR X (binaryOp .Mod) (rI (fun _ j => j ≠ 0) fun i j => .int (i.fmod j)):=opI fun i j _ _ _ _ _ hc q => mod_int' hc q
theorem op_mulG:OpR X (binaryOp .Mult) (rI (fun i j => IntMulOk i j) fun i j => .int (i * j)):=opI fun _ _ _ _ _ _ _ hc q => mul_int q hc
instance mulDec {a b:Int}:Decidable (IntMulOk a b):=by unfold IntMulOk; infer_instance
def oSub:Op2
  | .int i,.int j,st => .ok (.int (i - j)) st
  | _,_,_ => .bad
def oFdiv:Op2
  | .int i,.int j,st => if j ≠ 0 ∧ j.natAbs.log2 < 9000 then .ok (.int (i.fdiv j)) st else .bad
  | _,_,_ => .bad
def oMod:Op2
  | .int i,.int j,st => if j ≠ 0 then .ok (.int (i.fmod j)) st else .bad
  | _,_,_ => .bad
def oPow:Op2
  | .int i,.int j,st => if 0 ≤ j ∧ j ≤ 1000000 ∧ i.natAbs < 2 ^ 64 then .ok (.int (i ^ j.toNat)) st else .bad
  | _,_,_ => .bad
def oLt0:Op2
  | .int i,.int j,st => .ok (.bl (decide (i < j))) st
  | .str i,.str j,st => .ok (.bl (decide (i.cps.toList < j.cps.toList))) st
  | _,_,_ => .bad
def oLe0:Op2
  | .int i,.int j,st => .ok (.bl (decide (i ≤ j))) st
  | _,_,_ => .bad
def oGt:Op2
  | .int i,.int j,st => .ok (.bl (decide (j < i))) st
  | _,_,_ => .bad
def oGe:Op2
  | .int i,.int j,st => .ok (.bl (decide (j ≤ i))) st
  | _,_,_ => .bad
theorem relInt {m:Mp} {H:Hp} {i:Int} {a:V} (h:RelW X.K m H (.int i) a):a = .int i:=by unfold RelW at h; exact h
theorem relStr {m:Mp} {H:Hp} {x:PySem.Str} {a:V} (h:RelW X.K m H (.str x) a):a = .str x ∧ PyData.strOk x = true:=by unfold RelW at h; exact h
theorem mkInt {m:Mp} {H:Hp} {i:Int}:RelW X.K m H (.int i) (.int i):=by unfold RelW; rfl
theorem mkBl {m:Mp} {H:Hp} {i:Bool}:RelW X.K m H (.bl i) (.bl i):=by unfold RelW; rfl
theorem mkNon {m:Mp} {H:Hp}:RelW X.K m H .non .non:=by unfold RelW; rfl
theorem mkStr {m:Mp} {H:Hp} {x:PySem.Str} (h:PyData.strOk x = true):RelW X.K m H (.str x) (.str x):=by unfold RelW; exact ⟨rfl,h⟩
theorem ow_sub:OpW X (binaryOp .Sub) oSub:=⟨_,op_sub,fun x y a b st H m Q S rx ry p => by
  cases x with
  | int i =>
    cases y with
    | int j => exact ⟨i,j,relInt rx,relInt ry,p _ m H Ext.refl S mkInt⟩
    | _ => exact False.elim p
  | _ => cases y <;> exact False.elim p⟩
theorem ow_fdiv:OpW X (binaryOp .FloorDiv) oFdiv:=⟨_,op_fdivG,fun x y a b st H m Q S rx ry p => by
  cases x with
  | int i =>
    cases y with
    | int j =>
      dsimp only [oFdiv] at p
      by_cases c:j ≠ 0 ∧ j.natAbs.log2 < 9000
      · rw [if_pos c] at p; exact ⟨i,j,relInt rx,relInt ry,c,p _ m H Ext.refl S mkInt⟩
      · rw [if_neg c] at p; exact False.elim p
    | _ => exact False.elim p
  | _ => cases y <;> exact False.elim p⟩
theorem ow_mod:OpW X (binaryOp .Mod) oMod:=⟨_,op_modG,fun x y a b st H m Q S rx ry p => by
  cases x with
  | int i =>
    cases y with
    | int j =>
      dsimp only [oMod] at p
      by_cases c:j ≠ 0
      · rw [if_pos c] at p; exact ⟨i,j,relInt rx,relInt ry,c,p _ m H Ext.refl S mkInt⟩
      · rw [if_neg c] at p; exact False.elim p
    | _ => exact False.elim p
  | _ => cases y <;> exact False.elim p⟩
theorem ow_pow:OpW X (binaryOp .Pow) oPow:=⟨_,op_pow,fun x y a b st H m Q S rx ry p => by
  cases x with
  | int i =>
    cases y with
    | int j =>
      dsimp only [oPow] at p
      by_cases c:0 ≤ j ∧ j ≤ 1000000 ∧ i.natAbs < 2 ^ 64
      · rw [if_pos c] at p; exact ⟨i,j,relInt rx,relInt ry,c,p _ m H Ext.refl S mkInt⟩
      · rw [if_neg c] at p; exact False.elim p
    | _ => exact False.elim p
  | _ => cases y <;> exact False.elim p⟩
theorem ow_lt:OpW X (compareOp .Lt) oLt0:=⟨_,OpR.or op_lt op_lt_str,fun x y a b st H m Q S rx ry p => by
  cases x with
  | int i =>
    cases y with
    | int j => exact .inl ⟨i,j,relInt rx,relInt ry,p _ m H Ext.refl S mkBl⟩
    | _ => exact False.elim p
  | str i =>
    cases y with
    | str j => exact .inr ⟨i,j,(relStr rx).1,(relStr ry).1,p _ m H Ext.refl S mkBl⟩
    | _ => exact False.elim p
  | _ => cases y <;> exact False.elim p⟩
theorem ow_le:OpW X (compareOp .LtE) oLe0:=⟨_,op_le,fun x y a b st H m Q S rx ry p => by
  cases x with
  | int i =>
    cases y with
    | int j => exact ⟨i,j,relInt rx,relInt ry,p _ m H Ext.refl S mkBl⟩
    | _ => exact False.elim p
  | _ => cases y <;> exact False.elim p⟩
theorem ow_gt:OpW X (compareOp .Gt) oGt:=⟨_,op_gt,fun x y a b st H m Q S rx ry p => by
  cases x with
  | int i =>
    cases y with
    | int j => exact ⟨i,j,relInt rx,relInt ry,p _ m H Ext.refl S mkBl⟩
    | _ => exact False.elim p
  | _ => cases y <;> exact False.elim p⟩
theorem ow_ge:OpW X (compareOp .GtE) oGe:=⟨_,op_ge,fun x y a b st H m Q S rx ry p => by
  cases x with
  | int i =>
    cases y with
    | int j => exact ⟨i,j,relInt rx,relInt ry,p _ m H Ext.refl S mkBl⟩
    | _ => exact False.elim p
  | _ => cases y <;> exact False.elim p⟩
def oIs:Op2
  | x,.non,st => .ok (.bl (match x with | .non => true | _ => false)) st
  | _,_,_ => .bad
def oIsNot:Op2
  | x,.non,st => .ok (.bl (match x with | .non => false | _ => true)) st
  | _,_,_ => .bad
theorem isNon {m:Mp} {H:Hp} {x:Wv} {a:V} (h:RelW X.K m H x a):decide (a = V.non) = (match x with | .non => true | _ => false):=by
  cases x with
  | non => unfold RelW at h; subst h; rfl
  | bl b => unfold RelW at h; subst h; rfl
  | int b => unfold RelW at h; subst h; rfl
  | str b => unfold RelW at h; obtain ⟨h,_⟩:=h; subst h; rfl
  | tup b => unfold RelW at h; obtain ⟨q,xs,h,_⟩:=h; subst h; rfl
  | ktp b => unfold RelW at h; obtain ⟨q,xs,h,_⟩:=h; subst h; rfl
  | ref b => unfold RelW at h; obtain ⟨q,h,_⟩:=h; subst h; rfl
  | ty b => unfold RelW at h; subst h; rfl
  | cls b => unfold RelW at h; obtain ⟨q,h,_⟩:=h; subst h; rfl
  | exn b => unfold RelW at h; obtain ⟨q,C,h,_⟩:=h; subst h; rfl
  | fn fp b => unfold RelW at h; obtain ⟨h,_⟩:=h; subst h; rfl
theorem ow_is:OpW X (compareOp .Is) oIs:=⟨_,op_isN,fun x y a b st H m Q S rx ry p => by
  cases y with
  | non =>
    refine ⟨by unfold RelW at ry; exact ry,?_⟩
    rw [isNon rx]
    cases x <;> exact p _ m H Ext.refl S mkBl
  | _ => cases x <;> exact False.elim p⟩
theorem ow_isnot:OpW X (compareOp .IsNot) oIsNot:=⟨_,op_notN,fun x y a b st H m Q S rx ry p => by
  cases y with
  | non =>
    refine ⟨by unfold RelW at ry; exact ry,?_⟩
    rw [isNon rx]
    cases x <;> exact p _ m H Ext.refl S mkBl
  | _ => cases x <;> exact False.elim p⟩
theorem strOk_append {a b:PySem.Str} (ha:PyData.strOk a = true) (hb:PyData.strOk b = true):PyData.strOk (a ++ b) = true:=by
  unfold PyData.strOk at *
  show ((a.cps ++ b.cps).all _) = true
  rw [Array.all_append,ha,hb]
  rfl
def rCatL (K:PySem.W.Frag):R2:=fun x y H Q => ∃ l b xs zs,x = .ref l ∧ y = .ref b ∧ SqL K H l xs ∧ SqL K H b zs ∧ xs.length + zs.length ≤ sizeLine ∧ ∀ p,H p = none → Q (.ref p) (upd H p (.lst (xs ++ zs)))
theorem op_catL:OpR X (binaryOp .Add) (rCatL X.K):=by
  intro pins s σ H x y v u Q I rx ry h
  obtain ⟨l,b,xs,zs,rfl,rfl,hH,hB,hz,q⟩:=h
  cases rx
  cases ry
  obtain ⟨its,r,pl,hs⟩:=I.list hH
  obtain ⟨its2,r2,pl2,hs2⟩:=I.list hB
  have hl:=r.length
  have hl2:=r2.length
  obtain ⟨⟨cls,dd,data,sl⟩,ho,hc,n,hd⟩:=id pl.isList
  obtain ⟨⟨cls2,dd2,data2,sl2⟩,ho2,hc2,n2,hd2⟩:=id pl2.isList
  simp only at hc hd hc2 hd2
  subst hc hd hc2 hd2
  have e:its.toArray ++ its2.toArray = (its ++ its2).toArray:=by simp
  refine PySem.concat_meets ⟨_,ho,rfl⟩ ⟨_,ho2,rfl⟩ PySem.noFill_list_add PySem.seq_list_add PySem.F.slot_list_add PySem.F.entry_list_add (PySem.F.args_list_add_2 _ _) (list_addW l b its.toArray its2.toArray n n2 dd dd2 sl sl2 (by simp; omega)) ⟨ho,ho2,?_⟩
  rw [e]
  exact ⟨.ref _,_,I.lnew (t':=s.toks) (r.append r2) (by rw [List.length_append]; omega),rfl,q _ I.fresh⟩
def rCatE (K:PySem.W.Frag):R2:=fun x y H Q => ∃ a b ys,x = .ref a ∧ y = .ref b ∧ SqT K H a [] ∧ SqT K H b ys ∧ Q (.ref b) H
theorem op_catE:OpR X (binaryOp .Add) (rCatE X.K):=by
  intro pins s σ H x y v u Q I rx ry h
  obtain ⟨a,b,ys,rfl,rfl,ha,hb,q⟩:=h
  cases rx
  cases ry
  obtain ⟨its,r1,p1,_⟩:=I.tuple ha
  obtain ⟨its2,r2,p2,_⟩:=I.tuple hb
  cases r1
  obtain ⟨⟨c1,d1,t1,l1⟩,g1,k1,n1,j1⟩:=id p1
  obtain ⟨⟨c2,d2,t2,l2⟩,g2,k2,n2,j2⟩:=id p2
  simp only at k1 j1 k2 j2
  subst k1 j1 k2 j2
  exact PySem.concat_meets ⟨_,g1,rfl⟩ ⟨_,g2,rfl⟩ PySem.noFill_tuple_add PySem.seq_tuple_add PySem.F.slot_tuple_add PySem.F.entry_tuple_add (PySem.F.args_tuple_add_2 _ _) (tuple_addW0 a b #[] its2.toArray n1 n2 d1 d2 l1 l2 (by simp)) ⟨g1,g2,⟨.ref b,H,I,rfl,q⟩⟩
def oAdd:Op2
  | .int i,.int j,st => .ok (.int (i + j)) st
  | .str i,.str j,st => if i.length + j.length ≤ lim then .ok (.str (i ++ j)) st else .bad
  | .tup i,.tup j,st => if i.length + j.length ≤ lim then .ok (.tup (i ++ j)) st else .bad
  | .ref l,.ref k,st => match lstOf st l,lstOf st k with
    | some i,some j => if i.length + j.length ≤ lim then .ok (.ref st.length) (st ++ [.lst (i ++ j)]) else .bad
    | _,_ => .bad
  | _,_,_ => .bad
instance {α:Type} {xs:List α}:Decidable (xs ≠ []):=match xs with
  | [] => isFalse (fun h => h rfl)
  | _ :: _ => isTrue (fun h => by cases h)
theorem ow_add:OpW X (binaryOp .Add) oAdd:=⟨_,OpR.or op_add (OpR.or op_add_str (OpR.or op_catT (OpR.or op_catL op_catE))),fun x y a b st H m Q S rx ry p => by
  cases x with
  | int i =>
    cases y with
    | int j => exact .inl ⟨i,j,relInt rx,relInt ry,p _ m H Ext.refl S mkInt⟩
    | _ => exact False.elim p
  | str i =>
    cases y with
    | str j =>
      dsimp only [oAdd] at p
      by_cases c:i.length + j.length ≤ lim
      · rw [if_pos c] at p
        exact .inr (.inl ⟨i,j,(relStr rx).1,(relStr ry).1,lim_le c,p _ m H Ext.refl S (mkStr (strOk_append (relStr rx).2 (relStr ry).2))⟩)
      · rw [if_neg c] at p; exact False.elim p
    | _ => exact False.elim p
  | tup i =>
    cases y with
    | tup j =>
      dsimp only [oAdd] at p
      by_cases c:i.length + j.length ≤ lim
      · rw [if_pos c] at p
        by_cases c0:i = []
        · subst c0
          unfold RelW at rx ry
          obtain ⟨a1,xs,rfl,h1,h2⟩:=rx
          obtain ⟨a2,ys,rfl,h3,h4⟩:=ry
          have l1:xs = []:=List.eq_nil_of_length_eq_zero h2.length.symm
          subst l1
          exact .inr (.inr (.inr (.inr ⟨a1,a2,ys,rfl,rfl,SqT.of h1,SqT.of h3,p (.ref a2) m H Ext.refl S (by rw [List.nil_append]; unfold RelW; exact ⟨a2,ys,rfl,h3,h4⟩)⟩)))
        unfold RelW at rx ry
        obtain ⟨a1,xs,rfl,h1,h2⟩:=rx
        obtain ⟨a2,ys,rfl,h3,h4⟩:=ry
        have l1:=h2.length
        have l2:=h4.length
        have n1:xs ≠ []:=fun z => by rw [z] at l1; exact c0 (List.eq_nil_of_length_eq_zero l1)
        refine .inr (.inr (.inl ⟨a1,a2,xs,ys,rfl,rfl,SqT.of h1,SqT.of h3,n1,by rw [← l1,← l2]; exact lim_le c,fun z => ?_,fun _ q hq => ?_⟩))
        · rw [z] at l2
          rw [List.eq_nil_of_length_eq_zero l2,List.append_nil] at p
          exact p (.ref a1) m H Ext.refl S (by unfold RelW; exact ⟨a1,xs,rfl,h1,h2⟩)
        have e2:Ext X.K m H m (upd H q (.tup (xs ++ ys))):=Ext.upd (.inl hq)
        exact p (.ref q) m _ e2 (S.fresh hq) (by unfold RelW; exact ⟨q,xs ++ ys,rfl,upd_same,RelWs.mono e2 _ _ (h2.append h4)⟩)
      · rw [if_neg c] at p; exact False.elim p
    | _ => exact False.elim p
  | ref l =>
    cases y with
    | ref k =>
      dsimp only [oAdd] at p
      unfold RelW at rx ry
      obtain ⟨a1,rfl,h1⟩:=rx
      obtain ⟨a2,rfl,h2⟩:=ry
      cases e1:lstOf st l with
      | none => rw [e1] at p; exact False.elim p
      | some i =>
        cases e2:lstOf st k with
        | none => rw [e1,e2] at p; exact False.elim p
        | some j =>
          rw [e1,e2] at p
          by_cases c:i.length + j.length ≤ lim
          · simp only [if_pos c] at p
            obtain ⟨xs,q1,q2⟩:=S.read h1 e1
            obtain ⟨ys,q3,q4⟩:=S.read h2 e2
            exact .inr (.inr (.inr (.inl ⟨a1,a2,xs,ys,rfl,rfl,q1,q3,by rw [← q2.length,← q4.length]; exact lim_le c,fun q hq => new_list p Ext.refl S (q2.append q4) q hq⟩)))
          · simp only [if_neg c] at p; exact False.elim p
    | _ => exact False.elim p
  | _ => cases y <;> exact False.elim p⟩
def repS (n:Nat) (x:PySem.Str):PySem.Str:=⟨(List.replicate n x.cps).foldl (· ++ ·) #[]⟩
end
end J
namespace J
open PySem PySem.Spec PySem.SeqAt PyProof.Rows L2
def mapO {α β:Type} (f:α → Option β):List α → Option (List β)
  | [] => some []
  | w :: ws => match f w,mapO f ws with
    | some d,some ds => some (d :: ds)
    | _,_ => none
def datum (st:Hs):Nat → Wv → Option PyData
  | 0,w => match w with
    | .non => some .none
    | .bl b => some (.bool b)
    | .int i => some (.int i)
    | .str x => some (.str x)
    | _ => none
  | n + 1,w => match w with
    | .non => some .none
    | .bl b => some (.bool b)
    | .int i => some (.int i)
    | .str x => some (.str x)
    | .tup ws => (mapO (datum st n) ws).map .tuple
    | .ktp ws => (mapO (datum st n) ws).map .tuple
    | .ref l => match lstOf st l with
      | some ws => (mapO (datum st n) ws).map .list
      | none => none
    | .ty _ => none
    | .cls _ => none
    | .exn _ => none
    | .fn _ _ => none
section
variable {X:Cx} {pins:List (Addr × Obj)} {σ:St} {H:Hp} {s:Shared} {m:Mp} {st:Hs}
def DatOk (h:Heap) (n:Nat) (u:Value) (d:PyData):Prop:=∃ as,Reads h u d as ∧ d.canLay0 = true ∧ d.depth ≤ n
theorem datums_ok {n:Nat} (ih:∀ (w:Wv) (a:V) (u:Value) (d:PyData),RelW X.K m H w a → RelV a u → datum st n w = some d → DatOk s.heap n u d) :
    ∀ (ws:List Wv) (xs:List V) (us:List Value) (ds:List PyData),RelWs X.K m H ws xs → Vals xs us → mapO (datum st n) ws = some ds → ∃ as,ReadsAll s.heap us ds as ∧ PyData.canLayAll0 ds = true ∧ PyData.depthAll ds ≤ n
  | [],xs,us,ds,h,r,e => by
    unfold RelWs at h
    subst h
    cases r
    cases e
    exact ⟨[],.nil,rfl,Nat.zero_le _⟩
  | w :: ws,xs,us,ds,h,r,e => by
    unfold RelWs at h
    obtain ⟨x,xr,rfl,h1,h2⟩:=h
    cases r with
    | cons r1 r2 =>
      unfold mapO at e
      cases e1:datum st n w with
      | none => rw [e1] at e; cases e
      | some d =>
        cases e2:mapO (datum st n) ws with
        | none => rw [e1,e2] at e; cases e
        | some dr =>
          rw [e1,e2] at e
          cases e
          obtain ⟨as,q1,q2,q3⟩:=ih w x _ d h1 r1 e1
          obtain ⟨bs,p1,p2,p3⟩:=datums_ok ih ws xr _ dr h2 r2 e2
          refine ⟨as ++ bs,.cons q1 p1,?_,?_⟩
          · show (PyData.canLay0 d && PyData.canLayAll0 dr) = true
            rw [q2,p2]; rfl
          · show max d.depth (PyData.depthAll dr) ≤ n
            omega
theorem datum_ok (I:Inv X pins σ H s) (S:Sim X.K m st H):∀ (n:Nat) (w:Wv) (a:V) (u:Value) (d:PyData),RelW X.K m H w a → RelV a u → datum st n w = some d → DatOk s.heap n u d:=by
  intro n
  induction n with
  | zero =>
    intro w a u d h r e
    cases w with
    | non => unfold RelW at h; subst h; cases r; cases e; exact ⟨[],.none,rfl,Nat.le_refl _⟩
    | bl b => unfold RelW at h; subst h; cases r; cases e; exact ⟨[],.bool b,rfl,Nat.le_refl _⟩
    | int i => unfold RelW at h; subst h; obtain ⟨t,rfl⟩:=r; cases e; exact ⟨[],.int i t,rfl,Nat.le_refl _⟩
    | str x => unfold RelW at h; obtain ⟨rfl,hx⟩:=h; obtain ⟨t,rfl⟩:=r; cases e; exact ⟨[],.str x t,hx,Nat.le_refl _⟩
    | tup ws => cases e
    | ktp ws => cases e
    | ref l => cases e
    | ty t => cases e
    | cls t => cases e
    | exn t => cases e
    | fn fp t => cases e
  | succ n ih =>
    intro w a u d h r e
    cases w with
    | non => unfold RelW at h; subst h; cases r; cases e; exact ⟨[],.none,rfl,Nat.zero_le _⟩
    | bl b => unfold RelW at h; subst h; cases r; cases e; exact ⟨[],.bool b,rfl,Nat.zero_le _⟩
    | int i => unfold RelW at h; subst h; obtain ⟨t,rfl⟩:=r; cases e; exact ⟨[],.int i t,rfl,Nat.zero_le _⟩
    | str x => unfold RelW at h; obtain ⟨rfl,hx⟩:=h; obtain ⟨t,rfl⟩:=r; cases e; exact ⟨[],.str x t,hx,Nat.zero_le _⟩
    | ty t => cases e
    | cls t => cases e
    | exn t => cases e
    | fn fp t => cases e
    | tup ws =>
      unfold RelW at h
      obtain ⟨p,xs,rfl,h1,h2⟩:=h
      cases r
      have e':(mapO (datum st n) ws).map PyData.tuple = some d:=e
      cases e2:mapO (datum st n) ws with
      | none => rw [e2] at e'; cases e'
      | some ds =>
        rw [e2] at e'
        cases e'
        obtain ⟨its,rv,ht,hz⟩:=I.tuple (SqT.of h1)
        obtain ⟨as,q1,q2,q3⟩:=datums_ok ih ws xs its ds h2 rv e2
        obtain ⟨o,ho,hc,k,hd⟩:=ht
        exact ⟨as,.tuple ho hc hd (by simpa using q1),q2,Nat.succ_le_succ q3⟩
    | ktp ws =>
      unfold RelW at h
      obtain ⟨p,xs,rfl,h1,h2⟩:=h
      cases r
      have e':(mapO (datum st n) ws).map PyData.tuple = some d:=e
      cases e2:mapO (datum st n) ws with
      | none => rw [e2] at e'; cases e'
      | some ds =>
        rw [e2] at e'
        cases e'
        obtain ⟨its,rv,ht,hz⟩:=I.tuple (.inr h1)
        obtain ⟨as,q1,q2,q3⟩:=datums_ok ih ws xs its ds h2 rv e2
        obtain ⟨o,ho,hc,k,hd⟩:=ht
        exact ⟨as,.tuple ho hc hd (by simpa using q1),q2,Nat.succ_le_succ q3⟩
    | ref l =>
      unfold RelW at h
      obtain ⟨p,rfl,h1⟩:=h
      cases r
      have e':(match lstOf st l with | some ws => (mapO (datum st n) ws).map PyData.list | none => none) = some d:=e
      cases e1:lstOf st l with
      | none => rw [e1] at e'; cases e'
      | some ws =>
        rw [e1] at e'
        have e'':(mapO (datum st n) ws).map PyData.list = some d:=e'
        cases e2:mapO (datum st n) ws with
        | none => rw [e2] at e''; cases e''
        | some ds =>
          rw [e2] at e''
          cases e''
          obtain ⟨xs,hq,h2⟩:=S.read h1 e1
          obtain ⟨its,rv,ht,hz⟩:=I.list hq
          obtain ⟨as,q1,q2,q3⟩:=datums_ok ih ws xs its ds h2 rv e2
          obtain ⟨o,ho,hc,k,hd⟩:=ht.isList
          exact ⟨_,.list ho hc hd (by simpa using q1),q2,Nat.succ_le_succ q3⟩
end
def oEq:Op2:=fun x y st => match datum st 20 x,datum st 20 y with
  | some a,some b => .ok (.bl (PyData.eqv a b)) st
  | _,_ => .bad
def oNe:Op2:=fun x y st => match datum st 20 x,datum st 20 y with
  | some a,some b => .ok (.bl (!PyData.eqv a b)) st
  | _,_ => .bad
section
variable {X:Cx}
def rDat (K:PySem.W.Frag) (neg:Bool):R2:=fun a b H Q => ∃ m st x y da db,Sim K m st H ∧ RelW K m H x a ∧ RelW K m H y b ∧ datum st 20 x = some da ∧ datum st 20 y = some db ∧ Q (.bl (if neg then !PyData.eqv da db else PyData.eqv da db)) H
theorem shaped_of {n:Nat} {d:PyData} (hn:n ≤ 64) (h:d.canLay0 = true) (k:d.depth ≤ n):shaped d = true:=by
  unfold shaped
  rw [h,decide_eq_true (Nat.le_trans k hn)]
  rfl
theorem op_eqD (hu:X.A.units + 64 < cLine):OpR X (compareOp .Eq) (rDat X.K false):=by
  intro pins s σ H a b v u Q I rx ry h
  obtain ⟨m,st,x,y,da,db,S,h1,h2,e1,e2,q⟩:=h
  obtain ⟨as,q1,q2,q3⟩:=datum_ok I S 20 x a v da h1 rx e1
  obtain ⟨bs,p1,p2,p3⟩:=datum_ok I S 20 y b u db h2 ry e2
  exact eq_dataH q1 p1 (shaped_of (by decide) q2 q3) (shaped_of (by decide) p2 p3) hu ⟨.bl _,H,I,rfl,q⟩
theorem op_neD (hu:X.A.units + 64 < cLine):OpR X (compareOp .NotEq) (rDat X.K true):=by
  intro pins s σ H a b v u Q I rx ry h
  obtain ⟨m,st,x,y,da,db,S,h1,h2,e1,e2,q⟩:=h
  obtain ⟨as,q1,q2,q3⟩:=datum_ok I S 20 x a v da h1 rx e1
  obtain ⟨bs,p1,p2,p3⟩:=datum_ok I S 20 y b u db h2 ry e2
  exact ne_dataH q1 p1 (shaped_of (by decide) q2 q3) (shaped_of (by decide) p2 p3) hu ⟨.bl _,H,I,rfl,q⟩
theorem ow_eq (hu:X.A.units + 64 < cLine):OpW X (compareOp .Eq) oEq:=⟨_,op_eqD hu,fun x y a b st H m Q S rx ry p => by
  unfold oEq at p
  cases e1:datum st 20 x with
  | none => rw [e1] at p; exact False.elim p
  | some da =>
    cases e2:datum st 20 y with
    | none => rw [e1,e2] at p; exact False.elim p
    | some db =>
      rw [e1,e2] at p
      exact ⟨m,st,x,y,da,db,S,rx,ry,e1,e2,p _ m H Ext.refl S mkBl⟩⟩
theorem ow_ne (hu:X.A.units + 64 < cLine):OpW X (compareOp .NotEq) oNe:=⟨_,op_neD hu,fun x y a b st H m Q S rx ry p => by
  unfold oNe at p
  cases e1:datum st 20 x with
  | none => rw [e1] at p; exact False.elim p
  | some da =>
    cases e2:datum st 20 y with
    | none => rw [e1,e2] at p; exact False.elim p
    | some db =>
      rw [e1,e2] at p
      exact ⟨m,st,x,y,da,db,S,rx,ry,e1,e2,p _ m H Ext.refl S mkBl⟩⟩
def flatW:Wv → Bool
  | .non => true
  | .bl _ => true
  | .int _ => true
  | .str _ => true
  | _ => false
def eqF:Wv → Wv → Bool
  | .non,.non => true
  | .bl a,.bl b => a == b
  | .bl a,.int b => (if a then 1 else 0) == b
  | .int a,.bl b => a == (if b then 1 else 0)
  | .int a,.int b => a == b
  | .str a,.str b => a == b
  | _,_ => false
def seqOf (st:Hs):Wv → Option (List Wv)
  | .tup ws => some ws
  | .ktp ws => some ws
  | .ref l => lstOf st l
  | _ => none
def oIn:Op2:=fun x y st => match seqOf st y with
  | some ws => if flatW x = true ∧ ws.all flatW = true then .ok (.bl (ws.any fun z => eqF z x)) st else .bad
  | none => .bad
def oNotIn:Op2:=fun x y st => match seqOf st y with
  | some ws => if flatW x = true ∧ ws.all flatW = true then .ok (.bl (!(ws.any fun z => eqF z x))) st else .bad
  | none => .bad
theorem flat_rel {m:Mp} {H:Hp} {x:Wv} {a:V} (h:RelW X.K m H x a) (f:flatW x = true):flatV a = true:=by
  cases x with
  | non => unfold RelW at h; subst h; rfl
  | bl b => unfold RelW at h; subst h; rfl
  | int b => unfold RelW at h; subst h; rfl
  | str b => unfold RelW at h; obtain ⟨h,_⟩:=h; subst h; rfl
  | _ => cases f
theorem eqF_rel {m:Mp} {H:Hp} {x y:Wv} {a b:V} (h:RelW X.K m H x a) (k:RelW X.K m H y b) (f:flatW x = true) (g:flatW y = true):eqV a b = eqF x y:=by
  cases x with
  | non =>
    unfold RelW at h; subst h
    cases y with
    | str j => unfold RelW at k; obtain ⟨k,_⟩:=k; subst k; rfl
    | tup j => cases g
    | ktp j => cases g
    | ref j => cases g
    | ty j => cases g
    | cls j => cases g
    | exn j => cases g
    | fn fp j => cases g
    | _ => unfold RelW at k; subst k; rfl
  | bl i =>
    unfold RelW at h; subst h
    cases y with
    | str j => unfold RelW at k; obtain ⟨k,_⟩:=k; subst k; rfl
    | tup j => cases g
    | ktp j => cases g
    | ref j => cases g
    | ty j => cases g
    | cls j => cases g
    | exn j => cases g
    | fn fp j => cases g
    | _ => unfold RelW at k; subst k; rfl
  | int i =>
    unfold RelW at h; subst h
    cases y with
    | str j => unfold RelW at k; obtain ⟨k,_⟩:=k; subst k; rfl
    | tup j => cases g
    | ktp j => cases g
    | ref j => cases g
    | ty j => cases g
    | cls j => cases g
    | exn j => cases g
    | fn fp j => cases g
    | _ => unfold RelW at k; subst k; rfl
  | str i =>
    unfold RelW at h; obtain ⟨h,_⟩:=h; subst h
    cases y with
    | str j => unfold RelW at k; obtain ⟨k,_⟩:=k; subst k; rfl
    | tup j => cases g
    | ktp j => cases g
    | ref j => cases g
    | ty j => cases g
    | cls j => cases g
    | exn j => cases g
    | fn fp j => cases g
    | _ => unfold RelW at k; subst k; rfl
  | _ => cases f
theorem flats_rel {m:Mp} {H:Hp} {x:Wv} {a:V} (h:RelW X.K m H x a) (f:flatW x = true):∀ {ws:List Wv} {xs:List V},RelWs X.K m H ws xs → ws.all flatW = true → xs.all flatV = true ∧ inV a xs = ws.any fun z => eqF z x
  | [],xs,r,_ => by unfold RelWs at r; subst r; exact ⟨rfl,rfl⟩
  | w :: ws,xs,r,g => by
    unfold RelWs at r
    obtain ⟨y,yr,rfl,r1,r2⟩:=r
    rw [List.all_cons,Bool.and_eq_true] at g
    obtain ⟨q1,q2⟩:=flats_rel h f r2 g.2
    constructor
    · rw [List.all_cons,flat_rel r1 g.1,q1]; rfl
    · unfold inV at q2 ⊢
      rw [List.any_cons,List.any_cons,eqF_rel r1 h g.1 f,q2]
theorem seq_rel {m:Mp} {H:Hp} {st:Hs} {y:Wv} {b:V} {ws:List Wv} (S:Sim X.K m st H) (h:RelW X.K m H y b) (e:seqOf st y = some ws):∃ p xs,b = .ref p ∧ (SqL X.K H p xs ∨ SqT X.K H p xs) ∧ RelWs X.K m H ws xs:=by
  cases y with
  | tup zs =>
    cases e
    unfold RelW at h
    obtain ⟨p,xs,e1,e2,e3⟩:=h
    exact ⟨p,xs,e1,.inr (SqT.of e2),e3⟩
  | ktp zs =>
    cases e
    unfold RelW at h
    obtain ⟨p,xs,e1,e2,e3⟩:=h
    exact ⟨p,xs,e1,.inr (.inr e2),e3⟩
  | ref l =>
    unfold RelW at h
    obtain ⟨p,e1,e2⟩:=h
    obtain ⟨xs,q1,q2⟩:=S.read e2 e
    exact ⟨p,xs,e1,.inl q1,q2⟩
  | _ => cases e
theorem ow_in:OpW X (compareOp .In) oIn:=⟨_,op_in_seq,fun x y a b st H m Q S rx ry p => by
  unfold oIn at p
  cases e:seqOf st y with
  | none => rw [e] at p; exact False.elim p
  | some ws =>
    rw [e] at p
    by_cases c:flatW x = true ∧ ws.all flatW = true
    · simp only [if_pos c] at p
      obtain ⟨q,xs,e1,e2,e3⟩:=seq_rel S ry e
      obtain ⟨f1,f2⟩:=flats_rel rx c.1 e3 c.2
      refine ⟨q,xs,e1,e2,flat_rel rx c.1,f1,?_⟩
      rw [f2]
      exact p _ m H Ext.refl S mkBl
    · simp only [if_neg c] at p; exact False.elim p⟩
theorem ow_notIn:OpW X (compareOp .NotIn) oNotIn:=⟨_,op_notIn_seq,fun x y a b st H m Q S rx ry p => by
  unfold oNotIn at p
  cases e:seqOf st y with
  | none => rw [e] at p; exact False.elim p
  | some ws =>
    rw [e] at p
    by_cases c:flatW x = true ∧ ws.all flatW = true
    · simp only [if_pos c] at p
      obtain ⟨q,xs,e1,e2,e3⟩:=seq_rel S ry e
      obtain ⟨f1,f2⟩:=flats_rel rx c.1 e3 c.2
      refine ⟨q,xs,e1,e2,flat_rel rx c.1,f1,?_⟩
      rw [f2]
      exact p _ m H Ext.refl S mkBl
    · simp only [if_neg c] at p; exact False.elim p⟩
def oIx:Op2
  | .str z,.int i,st => if z.length ≤ lim then (match atI z.cps.toList i with | some c => .ok (.str ⟨#[c]⟩) st | none => .bad) else .bad
  | x,.int i,st => match seqOf st x with
    | some ws => (match atI ws i with | some w => .ok w st | none => .bad)
    | none => .bad
  | _,_,_ => .bad
theorem atI_rel {m:Mp} {H:Hp} {ws:List Wv} {xs:List V} {i:Int} {w:Wv} (r:RelWs X.K m H ws xs) (h:atI ws i = some w):∃ x,atI xs i = some x ∧ RelW X.K m H w x:=by
  unfold atI at h ⊢
  rw [← r.length]
  cases e:ixN ws.length i with
  | none => rw [e] at h; cases h
  | some j => rw [e] at h; exact r.get h
theorem atI_mem {α:Type} {xs:List α} {i:Int} {v:α} (h:atI xs i = some v):v ∈ xs:=by
  obtain ⟨j,_,h2,_⟩:=atI_get h
  exact List.mem_of_getElem? h2
theorem strOk_one {z:PySem.Str} {c:Nat} (h:PyData.strOk z = true) (hc:c ∈ z.cps.toList):PyData.strOk ⟨#[c]⟩ = true:=by
  unfold PyData.strOk at h ⊢
  rw [Array.all_eq_true_iff_forall_mem] at h
  have q:=h c (by simpa using hc)
  simpa using q
theorem je_ix {a b:Expr} {ga gb:GE} {pos:Pos} (ha:JE X a ga) (hb:JE X b gb) (hs:PlainIx b:=by exact fun _ _ => rfl):JE X (.Subscript a b pos) (gBin oIx ga gb) :=
  JE.of (pe_ix ix_seq pe_SE pe_SE hs) fun ρ st σ H m Q S R p => read2 (op:=oIx) (fun x y a b st H m Q S rx ry p => by
    have seqs:∀ (i:Int),y = .int i → (match seqOf st x with | some ws => (match atI ws i with | some w => Re.ok w st | none => .bad) | none => .bad) = oIx x y st → rIx X.K a b H Q:=fun i hy hp => by
      subst hy
      rw [← hp] at p
      cases e:seqOf st x with
      | none => rw [e] at p; exact False.elim p
      | some ws =>
        rw [e] at p
        dsimp only at p
        cases e1:atI ws i with
        | none => rw [e1] at p; exact False.elim p
        | some w =>
          rw [e1] at p
          obtain ⟨q,xs,e2,e3,e4⟩:=seq_rel S rx e
          obtain ⟨v,f1,f2⟩:=atI_rel e4 e1
          rcases e3 with e3 | e3
          · exact .inl ⟨q,xs,i,v,e2,relInt ry,e3,f1,p v m H Ext.refl S f2⟩
          · exact .inr (.inl ⟨q,xs,i,v,e2,relInt ry,e3,f1,p v m H Ext.refl S f2⟩)
    cases y with
    | int i =>
      cases x with
      | str z =>
        dsimp only [oIx] at p
        by_cases c:z.length ≤ lim
        · simp only [if_pos c] at p
          cases e1:atI z.cps.toList i with
          | none => rw [e1] at p; exact False.elim p
          | some ch =>
            rw [e1] at p
            exact .inr (.inr ⟨z,i,ch,(relStr rx).1,relInt ry,lim_le c,e1,p _ m H Ext.refl S (mkStr (strOk_one (relStr rx).2 (atI_mem e1)))⟩)
        · simp only [if_neg c] at p; exact False.elim p
      | _ => exact seqs i rfl rfl
    | _ => cases x <;> exact False.elim p) ha hb S R p
abbrev GO:=Rho → Hs → Re (Option Int)
def SO (X:Cx) (e:Option Expr):TO:=fun σ H Q => ∀ (pins:List (Addr × Obj)) (s:Shared),Inv X pins σ H s → wpAny (model X.prog X.w) X.A (evalPart e X.env) (fun u s' => ∃ o H',Inv X pins σ H' s' ∧ IsPart u o ∧ Q o H') X.xe s
theorem po_SO {e:Option Expr}:PO X e (SO X e):=fun pins s _ _ _ I h => h pins s I
def okO (K:PySem.W.Frag) (m:Mp) (H:Hp) (Q:Option Int → Hp → Prop) (o:Option Int) (st:Hs):Prop:=∀ (m':Mp) (H':Hp),Ext K m H m' H' → Sim K m' st H' → Q o H'
def JO (X:Cx) (e:Option Expr) (g:GO):Prop:=∀ (ρ:Rho) (st:Hs) (σ:St) (H:Hp) (m:Mp) (Q:Option Int → Hp → Prop),Sim X.K m st H → RelEnv X.K m H ρ σ → PostG X σ m H (g ρ st) (okO X.K m H Q) → SO X e σ H Q
def gNoPart:GO:=fun _ st => .ok none st
def gPart (g:GE):GO:=fun ρ st => (g ρ st).bind fun w st1 => match w with
  | .int i => .ok (some i) st1
  | _ => .bad
theorem jo_none:JO X none gNoPart:=fun ρ st σ H m Q S R p pins s I => po_none pins s σ H Q I (p m H Ext.refl S)
theorem jo_some {e:Expr} {g:GE} (h:JE X e g):JO X (some e) (gPart g):=fun ρ st σ H m Q S R p pins s I =>
  po_some pe_SE pins s σ H Q I (h.go S R (PostG.bind p) fun w st1 v m1 H1 p1 e1 S1 r1 => by
    cases w with
    | int i => exact ⟨i,relInt r1,p1 m1 H1 e1 S1⟩
    | _ => exact False.elim p1)
theorem JO.go {e:Option Expr} {g:GO} {ρ:Rho} {st:Hs} {σ:St} {H:Hp} {m:Mp} {T:Option Int → Hp → Prop} {ok:Option Int → Hs → Prop} (h:JO X e g) (S:Sim X.K m st H) (R:RelEnv X.K m H ρ σ) (p:PostG X σ m H (g ρ st) ok)
    (k:∀ (b:Option Int) (st1:Hs) (m1:Mp) (H1:Hp),ok b st1 → Ext X.K m H m1 H1 → Sim X.K m1 st1 H1 → T b H1):SO X e σ H T :=
  h ρ st σ H m T S R (p.imp Ext.refl fun b st1 q m1 H1 e1 s1 => k b st1 m1 H1 q e1 s1)
def cutW (xs:List Wv) (lo hi:Option Int):List Wv:=(xs.drop (HT.sIx xs.length 0 lo)).take (HT.sIx xs.length xs.length hi - HT.sIx xs.length 0 lo)
def oSl (x:Wv) (lo hi:Option Int) (st:Hs):Re Wv:=match x with
  | .tup ws => if HT.sIx ws.length 0 lo = 0 ∧ HT.sIx ws.length ws.length hi = ws.length then .bad else .ok (.tup (cutW ws lo hi)) st
  | .ref l => match lstOf st l with
    | some ws => .ok (.ref st.length) (st ++ [.lst (cutW ws lo hi)])
    | none => .bad
  | _ => .bad
theorem cut_rel {m:Mp} {H:Hp} {ws:List Wv} {xs:List V} {lo hi:Option Int} (r:RelWs X.K m H ws xs):RelWs X.K m H (cutW ws lo hi) (cutV xs lo hi):=by
  unfold cutW cutV
  rw [← r.length]
  exact (r.drop _).take _
def gSlice (ga:GE) (gl gh:GO):GE:=fun ρ st => (ga ρ st).bind fun x st1 => (gl ρ st1).bind fun lo st2 => (gh ρ st2).bind fun hi st3 => oSl x lo hi st3
theorem je_slice {a:Expr} {lo hi:Option Expr} {ga:GE} {gl gh:GO} {pos p2:Pos} (ha:JE X a ga) (hl:JO X lo gl) (hh:JO X hi gh):JE X (.Subscript a (.Slice lo hi none p2) pos) (gSlice ga gl gh):=by
  refine JE.of (pe_slice (sl_tup.or sl_list) pe_SE po_SO po_SO) fun ρ st σ H m Q S R p => ?_
  refine ha.go S R (PostG.bind p) fun x st1 v m1 H1 p1 e1 S1 rx => ?_
  refine hl.go S1 (R.mono e1) ((PostG.bind p1).imp e1 fun _ _ q => q) fun l st2 m2 H2 p2 e2 S2 => ?_
  refine hh.go S2 (R.mono (e1.trans e2)) ((PostG.bind p2).imp (e1.trans e2) fun _ _ q => q) fun h st3 m3 H3 p3 e3 S3 => ?_
  have e13:=e1.trans (e2.trans e3)
  have rx3:=RelW.mono (e2.trans e3) _ _ rx
  cases x with
  | tup ws =>
    have p3':PostE X σ m H (if HT.sIx ws.length 0 l = 0 ∧ HT.sIx ws.length ws.length h = ws.length then .bad else .ok (.tup (cutW ws l h)) st3) Q:=p3
    by_cases c:HT.sIx ws.length 0 l = 0 ∧ HT.sIx ws.length ws.length h = ws.length
    · rw [if_pos c] at p3'; exact False.elim p3'
    · rw [if_neg c] at p3'
      unfold RelW at rx3
      obtain ⟨q,xs,rfl,f1,f2⟩:=rx3
      refine .inl ⟨q,xs,rfl,SqT.of f1,by rw [← f2.length]; exact c,fun r hr => ?_⟩
      have e4:Ext X.K m3 H3 m3 (upd H3 r (.tup (cutV xs l h))):=Ext.upd (.inl hr)
      exact p3' (.ref r) m3 _ (e13.trans e4) (S3.fresh hr) (by unfold RelW; exact ⟨r,_,rfl,upd_same,RelWs.mono e4 _ _ (cut_rel f2)⟩)
  | ref k =>
    have p3':PostE X σ m H (match lstOf st3 k with | some ws => .ok (.ref st3.length) (st3 ++ [.lst (cutW ws l h)]) | none => .bad) Q:=p3
    unfold RelW at rx3
    obtain ⟨q,rfl,f1⟩:=rx3
    cases e:lstOf st3 k with
    | none => rw [e] at p3'; exact False.elim p3'
    | some ws =>
      rw [e] at p3'
      obtain ⟨xs,g1,g2⟩:=S3.read f1 e
      exact .inr ⟨q,xs,rfl,g1,fun r hr => new_list p3' e13 S3 (cut_rel g2) r hr⟩
  | _ => exact False.elim p3
end
end J
namespace J
open PySem PySem.Spec PyProof.Rows L2
section
variable {X:Cx}
def CallW (X:Cx) (f:Value) (op:List Wv → Hs → Re Wv):Prop:=∃ r,CallR X f r ∧ ∀ (ws:List Wv) (vs:List V) (st:Hs) (H:Hp) (m:Mp) (Q:VK),Sim X.K m st H → RelWs X.K m H ws vs → PostO X.K m H (op ws st) Q → r vs H Q
def gCallB (op:List Wv → Hs → Re Wv) (g:GA):GE:=fun ρ st => (g ρ st).bind fun ws st1 => (op ws st1).nox
theorem je_callB {x:Str} {id:String} {p pos:Pos} {e:Expr} {es:List Expr} {g:GA} {op:List Wv → Hs → Re Wv} (hc:CallW X (.builtin id) op) (hg:Gl X x) (hm:X.mg x = none) (hv:bootBuiltins x = some (.builtin id)) (ha:JA X (e :: es) g)
    (hn:x ≠ "__name__":=by decide) (hdb:(x == ("__debug__":Str)) = false:=by decide) (he:starEach (e :: es) X.env = (false,eval e X.env) :: starEach es X.env:=by rfl) (hpl:(backTo pos (starEach es X.env)).any (·.1) = false:=by rfl) :
    JE X (.Call (.Name x p) (e :: es) [] pos) (gCallB op g):=by
  obtain ⟨r,h1,h2⟩:=hc
  refine JE.of (pe_callB h1 hg hm hv pa_SA hn hdb he hpl) fun ρ st σ H m Q S R p => ?_
  exact ha.go S R (PostG.bind p) fun ws st1 vs m1 H1 p1 e1 S1 rs => h2 ws vs st1 H1 m1 Q S1 rs (PostO.shift (PostG.nox p1) e1)
theorem je_callTy {x:Str} {T:String} {p pos:Pos} {e:Expr} {es:List Expr} {g:GA} {op:List Wv → Hs → Re Wv} (hc:CallW X (.type T) op) (hg:Gl X x) (hm:X.mg x = none) (hv:bootBuiltins x = some (.type T)) (ha:JA X (e :: es) g)
    (hn:x ≠ "__name__":=by decide) (hdb:(x == ("__debug__":Str)) = false:=by decide) (he:starEach (e :: es) X.env = (false,eval e X.env) :: starEach es X.env:=by rfl) (hpl:(backTo pos (starEach es X.env)).any (·.1) = false:=by rfl) :
    JE X (.Call (.Name x p) (e :: es) [] pos) (gCallB op g):=by
  obtain ⟨r,h1,h2⟩:=hc
  refine JE.of (pe_callTy h1 hg hm hv pa_SA hn hdb he hpl) fun ρ st σ H m Q S R p => ?_
  exact ha.go S R (PostG.bind p) fun ws st1 vs m1 H1 p1 e1 S1 rs => h2 ws vs st1 H1 m1 Q S1 rs (PostO.shift (PostG.nox p1) e1)
theorem rel1 {m:Mp} {H:Hp} {w:Wv} {vs:List V} (r:RelWs X.K m H [w] vs):∃ v,vs = [v] ∧ RelW X.K m H w v:=by
  unfold RelWs at r
  obtain ⟨v,t,rfl,h1,h2⟩:=r
  unfold RelWs at h2
  subst h2
  exact ⟨v,rfl,h1⟩
theorem rel2 {m:Mp} {H:Hp} {w w':Wv} {vs:List V} (r:RelWs X.K m H [w,w'] vs):∃ v v',vs = [v,v'] ∧ RelW X.K m H w v ∧ RelW X.K m H w' v':=by
  unfold RelWs at r
  obtain ⟨v,t,rfl,h1,h2⟩:=r
  obtain ⟨v',rfl,h3⟩:=rel1 h2
  exact ⟨v,v',rfl,h1,h3⟩
def oLen:List Wv → Hs → Re Wv
  | [.str z],st => if z.length ≤ lim then .ok (.int z.length) st else .bad
  | [x],st => match seqOf st x with
    | some ws => .ok (.int ws.length) st
    | none => .bad
  | _,_ => .bad
theorem cw_len:CallW X (.builtin "len") oLen:=⟨_,call_len_seq.or call_len_str,fun ws vs st H m Q S r p => by
  match ws,r,p with
  | [],r,p => exact False.elim p
  | x :: y :: t,r,p => cases x <;> exact False.elim p
  | [x],r,p =>
    obtain ⟨v,rfl,rx⟩:=rel1 r
    have seqs:(match seqOf st x with | some ws => Re.ok (Wv.int ws.length) st | none => .bad) = oLen [x] st → (∃ p ys,[v] = [V.ref p] ∧ (SqL X.K H p ys ∨ SqT X.K H p ys) ∧ Q (.int ys.length) H):=fun hp => by
      rw [← hp] at p
      cases e:seqOf st x with
      | none => rw [e] at p; exact False.elim p
      | some ws =>
        rw [e] at p
        obtain ⟨q,xs,rfl,e2,e3⟩:=seq_rel S rx e
        refine ⟨q,xs,rfl,e2,?_⟩
        rw [← e3.length]
        exact p _ m H Ext.refl S mkInt
    cases x with
    | str z =>
      have p':PostO X.K m H (if z.length ≤ lim then .ok (.int z.length) st else .bad) Q:=p
      by_cases c:z.length ≤ lim
      · rw [if_pos c] at p'
        obtain ⟨rfl,_⟩:=relStr rx
        exact .inr ⟨z,rfl,lim_le c,p' _ m H Ext.refl S mkInt⟩
      · rw [if_neg c] at p'; exact False.elim p'
    | _ => exact .inl (seqs rfl)⟩
def oAbs:List Wv → Hs → Re Wv
  | [.int i],st => .ok (.int (if i < 0 then -i else i)) st
  | _,_ => .bad
theorem cw_abs:CallW X (.builtin "abs") oAbs:=⟨_,call_abs,fun ws vs st H m Q S r p => by
  match ws,r,p with
  | [],r,p => exact False.elim p
  | x :: y :: t,r,p => cases x <;> exact False.elim p
  | [x],r,p =>
    obtain ⟨v,rfl,rx⟩:=rel1 r
    cases x with
    | int i => cases relInt rx; exact ⟨i,rfl,p _ m H Ext.refl S mkInt⟩
    | _ => exact False.elim p⟩
def isW (st:Hs) (T:String):Wv → Option Bool
  | .non => some false
  | .bl _ => some (T == "bool" || T == "int")
  | .int _ => some (T == "int")
  | .str _ => some (T == "str")
  | .tup _ => some (T == "tuple")
  | .ktp _ => none
  | .ref l => (lstOf st l).map fun _ => T == "list"
  | .ty _ => none
  | .cls _ => none
  | .exn _ => none
  | .fn _ _ => none
def okTy (T:String):Bool:=T == "int" || T == "str" || T == "bool" || T == "tuple" || T == "list"
def oIsI:List Wv → Hs → Re Wv
  | [x,.ty T],st => if okTy T = true then (match isW st T x with | some b => .ok (.bl b) st | none => .bad) else .bad
  | _,_ => .bad
def rIsI (K:PySem.W.Frag):List V → Hp → VK → Prop:=fun vs H Q => ∃ m st x T v b,vs = [v,.ty T] ∧ Sim K m st H ∧ RelW K m H x v ∧ okTy T = true ∧ isW st T x = some b ∧ Q (.bl b) H
theorem call_isI:CallR X (.builtin "isinstance") (rIsI X.K):=by
  intro pins s σ H xs us Q I r h
  obtain ⟨m,st,x,T,v,b,rfl,S,rx,hT,hb,q⟩:=h
  obtain ⟨u,u',rfl,r1,r2⟩:=vals2 r
  cases r2
  have fin:∀ tk,EP X pins σ Q (.bool b) { s with toks:=tk }:=fun tk => ⟨.bl b,H,I.tok tk,rfl,q⟩
  have fin0:EP X pins σ Q (.bool b) s:=⟨.bl b,H,I,rfl,q⟩
  unfold okTy at hT
  simp only [Bool.or_eq_true,beq_iff_eq] at hT
  cases x with
  | non =>
    unfold RelW at rx; subst rx; cases r1
    cases hb
    rcases hT with (((rfl | rfl) | rfl) | rfl) | rfl <;>
      exact call_isinstance (isinstance_false_none (by decide) (by kernel_rfl) (by rw [isSubtype_type]; kernel_rfl)) (fin _)
  | bl c =>
    unfold RelW at rx; subst rx; cases r1
    rcases hT with (((rfl | rfl) | rfl) | rfl) | rfl <;> cases hb <;> first
      | exact call_isinstance_yes (Tx:="bool") rfl (by kernel_rfl) (by rw [isSubtype_type]; kernel_rfl) fin0
      | exact call_isinstance (isinstance_false_bool (by decide) (by kernel_rfl) (by rw [isSubtype_type]; kernel_rfl)) (fin _)
  | int c =>
    unfold RelW at rx; subst rx; obtain ⟨t,rfl⟩:=r1
    rcases hT with (((rfl | rfl) | rfl) | rfl) | rfl <;> cases hb <;> first
      | exact call_isinstance_yes (Tx:="int") (typeIs_int s c t) (by kernel_rfl) (by rw [isSubtype_type]; kernel_rfl) fin0
      | exact call_isinstance (isinstance_false_int (by decide) (by kernel_rfl) (by rw [isSubtype_type]; kernel_rfl)) (fin _)
  | str c =>
    obtain ⟨rfl,_⟩:=relStr rx; obtain ⟨t,rfl⟩:=r1
    rcases hT with (((rfl | rfl) | rfl) | rfl) | rfl <;> cases hb <;> first
      | exact call_isinstance_yes (Tx:="str") (typeIs_str s c t) (by kernel_rfl) (by rw [isSubtype_type]; kernel_rfl) fin0
      | exact call_isinstance (isinstance_false_str (by decide) (by kernel_rfl) (by rw [isSubtype_type]; kernel_rfl)) (fin _)
  | ktp ws => cases hb
  | tup ws =>
    unfold RelW at rx; obtain ⟨a,xs,rfl,h1,h2⟩:=rx; cases r1
    obtain ⟨its,rv,ht,hz⟩:=I.tuple (SqT.of h1)
    have hty:=ht.typeIs
    obtain ⟨o,ho,hc,k,hd⟩:=ht
    rcases hT with (((rfl | rfl) | rfl) | rfl) | rfl <;> cases hb <;> first
      | exact call_isinstance_yes (Tx:="tuple") hty (by kernel_rfl) (by rw [isSubtype_type]; kernel_rfl) fin0
      | exact call_isinstance (isinstance_false_tuple (by decide) (by kernel_rfl) (by rw [isSubtype_type]; kernel_rfl)) ⟨⟨o,ho,hc⟩,fin _⟩
  | ref l =>
    unfold RelW at rx; obtain ⟨a,rfl,h1⟩:=rx; cases r1
    have hb':(lstOf st l).map (fun _ => T == "list") = some b:=hb
    cases e:lstOf st l with
    | none => rw [e] at hb'; cases hb'
    | some ws =>
      rw [e] at hb'
      obtain ⟨xs,hq,h2⟩:=S.read h1 e
      obtain ⟨its,rv,ht,hz⟩:=I.list hq
      have hty:=ht.isList.typeIs
      obtain ⟨o,ho,hc,k,hd⟩:=ht.isList
      rcases hT with (((rfl | rfl) | rfl) | rfl) | rfl <;> cases hb' <;> first
        | exact call_isinstance_yes (Tx:="list") hty (by kernel_rfl) (by rw [isSubtype_type]; kernel_rfl) fin0
        | exact call_isinstance (isinstance_false_list (by decide) (by kernel_rfl) (by rw [isSubtype_type]; kernel_rfl)) ⟨⟨o,ho,hc⟩,fin _⟩
  | ty t => cases hb
  | cls t => cases hb
  | exn t => cases hb
  | fn fp t => cases hb
theorem cw_isI:CallW X (.builtin "isinstance") oIsI:=⟨_,call_isI,fun ws vs st H m Q S r p => by
  match ws,r,p with
  | [],r,p => exact False.elim p
  | [x],r,p => cases x <;> exact False.elim p
  | x :: y :: z :: t,r,p => cases y <;> exact False.elim p
  | [x,y],r,p =>
    obtain ⟨v,v',rfl,rx,ry⟩:=rel2 r
    cases y with
    | ty T =>
      unfold RelW at ry
      subst ry
      have p':PostO X.K m H (if okTy T = true then (match isW st T x with | some b => .ok (.bl b) st | none => .bad) else .bad) Q:=p
      by_cases c:okTy T = true
      · rw [if_pos c] at p'
        cases e:isW st T x with
        | none => rw [e] at p'; exact False.elim p'
        | some b => rw [e] at p'; exact ⟨m,st,x,T,v,b,rfl,S,rx,c,e,p' _ m H Ext.refl S mkBl⟩
      · rw [if_neg c] at p'; exact False.elim p'
    | _ => exact False.elim p⟩
def gNext:GS:=fun ρ st => .nx ρ st
def gSeq (g h:GS):GS:=fun ρ st => match g ρ st with
  | .nx ρ' st' => h ρ' st'
  | r => r
theorem jss_nil:JSs X [] gNext:=JSs.of pss_nil fun ρ st σ H m D S R p => p σ m H Ext.refl S R
theorem jss_cons {s:Stmt} {rest:List Stmt} {g h:GS} (h1:JS X s g) (h2:JSs X rest h):JSs X (s :: rest) (gSeq g h) :=
  JSs.of (pss_cons ps_SS pss_SSs) fun ρ st σ H m D S R p => h1 ρ st σ H m _ S R (by
    unfold gSeq at p
    cases e:g ρ st with
    | nx ρ' st' => rw [e] at p; exact fun σ' m' H' e' S' R' => h2 ρ' st' σ' H' m' D S' R' (PostS.shift p e')
    | rt w st' => rw [e] at p; exact p
    | bk ρ' st' => rw [e] at p; exact p
    | ct ρ' st' => rw [e] at p; exact p
    | err c ρ' st' => rw [e] at p; exact p
    | bad => rw [e] at p; exact p)
theorem jss_one {s:Stmt} {g:GS} (h1:JS X s g):JSs X [s] g:=JSs.of (pss_one ps_SS) fun ρ st σ H m D S R p => h1 ρ st σ H m D S R p
def gRet (g:GE):GS:=fun ρ st => (g ρ st).thn ρ fun w st' => .rt w st'
theorem js_ret {e:Expr} {g:GE} {pos:Pos} (h:JE X e g):JS X (.Return (some e) pos) (gRet g) :=
  JS.of (ps_ret pe_SE) fun ρ st σ H m D S R p => h.go S R (PostS.of_thn R p) fun w st1 v m1 H1 q e1 S1 r1 => q v m1 H1 e1 S1 r1
theorem js_pass {pos:Pos}:JS X (.Pass pos) gNext:=JS.of ps_pass fun ρ st σ H m D S R p => p σ m H Ext.refl S R
def gExpr (g:GE):GS:=fun ρ st => (g ρ st).thn ρ fun _ st' => .nx ρ st'
theorem js_expr {e:Expr} {g:GE} {pos:Pos} (h:JE X e g) (hs:swapsWith e none pos.line X.env = pure false:=by rfl):JS X (.Expr e pos) (gExpr g) :=
  JS.of (ps_expr pe_SE hs) fun ρ st σ H m D S R p => h.go S R (PostS.of_thn R p) fun w st1 v m1 H1 q e1 S1 r1 => q σ m1 H1 e1 S1 (R.mono e1)
def gIf (gt:GT) (ga gb:GS):GS:=fun ρ st => (gt ρ st).thn ρ fun b st' => if b = true then ga ρ st' else gb ρ st'
theorem js_if {c:Expr} {a b:List Stmt} {gt:GT} {ga gb:GS} {pos:Pos} (hc:JT X c gt) (ha:JSs X a ga) (hb:JSs X b gb):JS X (.If c a b pos) (gIf gt ga gb) :=
  JS.of (ps_if pt_ST pss_SSs pss_SSs) fun ρ st σ H m D S R p => hc.go S R (PostS.of_thn R p) fun k st1 m1 H1 q e1 S1 => by
    cases k with
    | true => rw [if_pos rfl] at q ⊢; exact ha ρ st1 σ H1 m1 D S1 (R.mono e1) (PostS.shift q e1)
    | false => rw [if_neg Bool.false_ne_true] at q ⊢; exact hb ρ st1 σ H1 m1 D S1 (R.mono e1) (PostS.shift q e1)
def gSet (i:Nat) (g:GE):GS:=fun ρ st => (g ρ st).thn ρ fun w st' => .nx (ρ.set i (some w)) st'
theorem js_set (i:Nat) {x:Str} {e:Expr} {g:GE} {pos pos':Pos} (hN:X.N.Nodup) (h:JE X e g) (hi:X.N[i]? = some x:=by rfl) (hx:Loc X.env.scope x:=by first | exact Or.inl rfl | exact Or.inr rfl) (hs:swapsWith e (some (.Name x pos')) pos.line X.env = pure false:=by rfl)
    (hf:X.fn x = true ∨ X.env.scope.names.lookup x = some .local:=by first | exact .inl rfl | exact .inr rfl | assumption):JS X (.Assign [.Name x pos'] e pos) (gSet i g) :=
  JS.of (ps_set hN hi hx pe_SE hs hf) fun ρ st σ H m D S R p => h.go S R (PostS.of_thn R p) fun w st1 v m1 H1 q e1 S1 r1 => q _ m1 H1 e1 S1 ((R.mono e1).set i r1)
def gNever:GS:=fun _ _ => .bad
theorem js_never {s:Stmt}:JS X s gNever:=JS.of ps_never fun ρ st σ H m D S R p => p
theorem jss_never {s:List Stmt}:JSs X s gNever:=JSs.of pss_never fun ρ st σ H m D S R p => p
def oSet (o i v:Wv) (ρ:Rho) (st:Hs):Rs:=match o,i with
  | .ref l,.int k => match st[l]? with
    | some (.lst ws) => (match ixN ws.length k with | some j => .nx ρ (st.set l (.lst (ws.set j v))) | none => .bad)
    | _ => .bad
  | _,_ => .bad
def gSetI (ge go gi:GE):GS:=fun ρ st => (ge ρ st).thn ρ fun v st1 => (go ρ st1).thn ρ fun o st2 => (gi ρ st2).thn ρ fun i st3 => oSet o i v ρ st3
theorem js_setI {o i e:Expr} {go gi ge:GE} {pos pos':Pos} (he:JE X e ge) (ho:JE X o go) (hi:JE X i gi) (hs:swapsWithSole [.Subscript o i pos'] e pos.line X.env = pure false:=by rfl) (hw:swappedStores [.Subscript o i pos'] e X.env = pure none:=by rfl)
    (h1:(assignEach [.Subscript o i pos'] X.env).map (·.2) = [assign (.Subscript o i pos') X.env]:=by rfl)
    (ha:∀ v,assign (.Subscript o i pos') X.env v = (do
      let ov ← holding [v] (eval o X.env)
      let iv ← holding [v,ov] (eval i X.env)
      standAt pos'
      holding [v,ov,iv] (setItem ov iv v)
      release [v,ov,iv] []):=by intro _; rfl):JS X (.Assign [.Subscript o i pos'] e pos) (gSetI ge go gi):=by
  refine JS.of (ps_asg pe_SE (pg_sub pe_SE pe_SE set_list ha) hs hw h1) fun ρ st σ H m D S R p => ?_
  refine he.go S R (PostS.of_thn R p) fun v st1 vv m1 H1 p1 e1 S1 rv => ?_
  refine ho.go S1 (R.mono e1) ((PostS.of_thn (m:=m) (H:=H) R p1).imp e1 fun _ _ q => q) fun o' st2 ov m2 H2 p2 e2 S2 ro => ?_
  refine hi.go S2 (R.mono (e1.trans e2)) ((PostS.of_thn (m:=m) (H:=H) R p2).imp (e1.trans e2) fun _ _ q => q) fun i' st3 iv m3 H3 p3 e3 S3 ri => ?_
  have e13:=e1.trans (e2.trans e3)
  cases o' with
  | ref l =>
    cases i' with
    | int k =>
      have p3':PostS X m H (match st3[l]? with | some (.lst ws) => (match ixN ws.length k with | some j => .nx ρ (st3.set l (.lst (ws.set j v))) | none => .bad) | _ => .bad) D:=p3
      have ro3:=RelW.mono e3 _ _ ro
      unfold RelW at ro3
      obtain ⟨a,rfl,f1⟩:=ro3
      cases e:st3[l]? with
      | none => rw [e] at p3'; exact False.elim p3'
      | some ob =>
        cases ob with
        | dct kvs => rw [e] at p3'; exact False.elim p3'
        | dcT kvs => rw [e] at p3'; exact False.elim p3'
        | scr ns => rw [e] at p3'; exact False.elim p3'
        | lst ws =>
          rw [e] at p3'
          cases ej:ixN ws.length k with
          | none => simp only [ej] at p3'; exact False.elim p3'
          | some j =>
            simp only [ej] at p3'
            obtain ⟨xs,g1,g2⟩:=S3.lstAt f1 e
            refine ⟨a,xs,k,j,rfl,relInt ri,g1,by rw [← g2.length]; exact ej,?_⟩
            have rv3:=RelW.mono (e2.trans e3) _ _ rv
            have e4:Ext X.K m3 H3 m3 (upd H3 a (.lst (xs.set j vv))):=Ext.upd (.inr ⟨xs,g1⟩)
            exact p3' σ m3 _ (e13.trans e4) (S3.write f1 e (g2.set j rv3)) (R.mono (e13.trans e4))
    | _ => exact False.elim p3
  | _ => cases i' <;> exact False.elim p3
open Classical in
noncomputable def forL (i:Nat) (gb:GS) (l:Nat) (all:List Wv):List Wv → Rho → Hs → Rs
  | [],ρ,st => .nx ρ st
  | w :: r,ρ,st => match gb (ρ.set i (some w)) st with
    | .nx ρ' st' => if lstOf st' l = some all then forL i gb l all r ρ' st' else .bad
    | .ct ρ' st' => if lstOf st' l = some all then forL i gb l all r ρ' st' else .bad
    | .bk ρ' st' => .nx ρ' st'
    | .rt w st' => .rt w st'
    | .err c ρ' st' => .err c ρ' st'
    | .bad => .bad
end
end J
namespace J
open PySem PySem.Spec PyProof.Rows L2
def CXJ (P:Program) (w:World):CXT:=fun outer H s E e s' => ∃ H' C,Flown P w outer H s H' (.ref C) e s' ∧ E (.ref C) none H'
section
variable {X:Cx} {pins:List (Addr × Obj)} {σ:St} {Hc H':Hp} {sc s':Shared} {cls e:Value} {E:Value → Shared → Prop} {Q:Unit → Shared → Prop}
theorem old_ne (I:Inv X pins σ Hc sc) {b:Addr} {o:Obj} (q:X.s₀.heap.get? b = some o):b ≠ X.env.locals:=fun z => by
  have h1:=Heap.lt_size q
  have h2:=I.ok.above
  rw [z] at h1
  exact absurd (Nat.lt_of_lt_of_le h1 h2) (Nat.lt_irrefl _)
theorem old_out (I:Inv X pins σ Hc sc) (hst:X.stack = X.env :: X.outer) (hf:X.env.frame = some X.env.locals) {b:Addr} {o:Obj} (q:X.s₀.heap.get? b = some o) (hb:b ∉ frs X.outer):b ∉ frs X.stack:=fun z => by
  rw [hst] at z
  unfold frs at z
  rw [List.filterMap_cons,hf] at z
  rcases List.mem_cons.mp z with z | z
  · exact old_ne I q z
  · exact hb z
theorem in_stack (hst:X.stack = X.env :: X.outer) (hf:X.env.frame = some X.env.locals) {b:Addr} (hb:b ∈ frs X.outer):b ∈ frs X.stack:=by
  rw [hst]
  unfold frs
  rw [List.filterMap_cons,hf]
  exact List.mem_cons_of_mem _ hb
theorem un_out (hx:X.ex = []) (hst:X.stack = X.env :: X.outer) (hf:X.env.frame = some X.env.locals) (I:Inv X pins σ Hc sc) {B h2:Heap} (un:Un (frs X.stack) [] Hc H' sc.heap s'.heap) (up:s'.heap.UpToSlots h2) (stay:B.StaysIn h2)
    (cov:∀ b o,sc.heap.get? b = some o → b ∉ frs X.stack → ∃ o',B.get? b = some o' ∧ (Hc b = none → o' = o)) :
    Un (frs X.outer) [] X.H₀ H' X.s₀.heap h2 ∧ (∀ b o,X.s₀.heap.get? b = some o → b ∉ frs X.outer → ∃ o',B.get? b = some o' ∧ (X.H₀ b = none → o' = o)):=by
  have nx:∀ b:Addr,b ∉ X.ex:=fun b => by rw [hx]; simp
  have cov2:∀ b o,X.s₀.heap.get? b = some o → b ∉ frs X.outer → ∃ o',B.get? b = some o' ∧ (X.H₀ b = none → o' = o):=fun b o q hb => by
    obtain ⟨o1,q1⟩:=I.base.there b o q (nx b)
    obtain ⟨o2,q2,q3⟩:=cov b o1 q1 (old_out I hst hf q hb)
    refine ⟨o2,q2,fun n => ?_⟩
    have q4:=I.base.keep b o q n hb (nx b)
    rw [q4] at q1
    cases q1
    exact q3 (I.base.free b o q n (nx b))
  have sl:∀ b o,X.s₀.heap.get? b = some o → X.H₀ b = none → b ∈ frs X.outer → ∃ sl,h2.get? b = some { o with slots:=sl }:=fun b o q n hb => by
    obtain ⟨s1,q1⟩:=I.base.slot b o q n hb (nx b)
    obtain ⟨s2,q2⟩:=un.slot b _ q1 (I.base.free b o q n (nx b)) (in_stack hst hf hb) (by simp)
    obtain ⟨_,o3,q3,q4⟩:=I.ok.funs.mem hb
    rw [q] at q3
    cases q3
    obtain ⟨s3,q5⟩:=up b _ q2 q4
    exact ⟨s3,q5⟩
  refine ⟨⟨fun b o q n hb _ => ?_,fun b o q n hb _ => sl b o q n hb,fun b o q n _ => ?_,fun b o q _ => ?_,fun b xs h => un.tups b xs (I.base.tups b xs h),fun b o u h => un.frzs b o u (I.base.frzs b o u h),fun b ps h => ?_⟩,cov2⟩
  · obtain ⟨o2,q2,q3⟩:=cov2 b o q hb
    rw [q3 n] at q2
    exact stay b o q2
  · obtain ⟨o1,q1⟩:=I.base.there b o q (nx b)
    exact un.free b o1 q1 (I.base.free b o q n (nx b)) (by simp)
  · by_cases hb:b ∈ frs X.outer
    · obtain ⟨s3,q3⟩:=sl b o q (I.ok.frf b hb) hb
      exact ⟨_,q3⟩
    · obtain ⟨o2,q2,_⟩:=cov2 b o q hb
      exact ⟨o2,stay b o2 q2⟩
  · obtain ⟨m1,t1⟩:=I.base.tbls b ps h
    obtain ⟨m2,t2⟩:=un.tbls b _ t1
    exact ⟨m1 ++ m2,by rw [← Array.append_assoc]; exact t2⟩
theorem leave_flown (hx:X.ex = []) (hst:X.stack = X.env :: X.outer) (hf:X.env.frame = some X.env.locals) (I:Inv X pins σ Hc sc) (F:Flown X.prog X.w X.stack Hc sc H' cls e s')
    (k:∀ s2,Flown X.prog X.w X.outer X.H₀ X.s₀ H' cls e s2 → Q () s2):wpAny (model X.prog X.w) X.A (leaving X.env e) Q E s':=by
  obtain ⟨a,a0,B,rfl,os,bare,un,hok,fl,cov⟩:=F
  have hfr:X.A.frames = some (X.env :: X.outer):=by rw [I.ok.frames,hst]
  have fl':Heap.FlyingW B (X.env :: X.outer) a cls a0 s'.heap:=by rw [← hst]; exact fl
  refine wpAny_leaves_onW hfr hf fl' fun h2 fl2 up => k _ ?_
  obtain ⟨u2,c2⟩:=un_out hx hst hf I un up fl2.1 cov
  exact ⟨a,a0,B,rfl,os.trans I.os,bare,u2,hok,fl2,c2⟩
theorem hok_hide {P:Program} {w:World} {H:Hp} {h:Heap} {l:List Addr} (ok:HOk P w H h) (fr:∀ b ∈ l,H b = none):HOk P w H (PySem.W.hideAll h l):=fun a o q =>
  (ok a o q).stay (fun b u hb r => PySem.W.hideAll_get _ r fun z => by
    have n:=fr b z
    rcases hb with hb | hb
    · rw [hb,q] at n; cases n
    · rw [hb] at n; cases n) (fun _ r => r) fun _ _ r => r
theorem leave_made {a C:Addr} {args:List Value} (hx:X.ex = []) (hst:X.stack = X.env :: X.outer) (hf:X.env.frame = some X.env.locals) (I:Inv X pins σ Hc sc) (ho:s'.os = sc.os) (hgn:s'.gens = sc.gens)
    (M:Heap.MadeExcOf sc.heap s'.heap a (.ref C) args) (k:∀ s2,Flown X.prog X.w X.outer X.H₀ X.s₀ Hc (.ref C) (.ref a) s2 → Q () s2):wpAny (model X.prog X.w) X.A (leaving X.env (.ref a)) Q E s':=by
  have hfr:X.A.frames = some (X.env :: X.outer):=by rw [I.ok.frames,hst]
  have fs:sc.heap.FunFrames (PySem.W.hideAll sc.heap (frs X.stack)) (X.env :: X.outer):=by
    rw [← hst]
    exact PySem.W.funFrames_hide I.stack fun env he b hb => List.mem_filterMap.mpr ⟨env,he,hb⟩
  refine wpAny_leaves_madeW (base:=PySem.W.hideAll sc.heap (frs X.stack)) hfr hf (fun b o q => PySem.W.of_hideAll _ q) fs M fun h2 t fl2 _ _ up => k _ ?_
  obtain ⟨u2,c2⟩:=un_out (H':=Hc) (s':=s') hx hst hf I (Un.kept M.keeps) up fl2.1 fun b o q hb => ⟨o,PySem.W.hideAll_get _ q hb,fun _ => rfl⟩
  exact ⟨a,.ref t,_,rfl,ho.trans I.os,by rw [show ({ s' with heap:=h2 }:Shared).gens = sc.gens from hgn]; exact I.bare,u2,hok_hide I.hok I.stkFree,fl2,c2⟩
end
def PostF (K:PySem.W.Frag) (m:Mp) (H:Hp) (r:Re Wv) (Q:VK) (E:XK):Prop:=match r with
  | .ok w st => okE K m H Q w st
  | .err c st => ∀ (m':Mp) (H':Hp) (C:Addr),Ext K m H m' H' → Sim K m' st H' → ClsAt K c C → E (.ref C) none H'
  | .bad => False
def spW (K:PySem.W.Frag) (n:Nat) (F:List Wv → Hs → Re Wv):Sp:=fun vs H Q E => ∃ m st ws,Sim K m st H ∧ RelWs K m H ws vs ∧ ws.length = n ∧ PostF K m H (F ws st) Q E
def gCall (n:Nat) (F:List Wv → Hs → Re Wv) (g:GA):GE:=fun ρ st => (g ρ st).bind fun ws st1 => if ws.length = n then F ws st1 else .bad
section
variable {X:Cx}
theorem je_call {k n:Nat} {f:Addr} {fd:FuncData} {ps:List Str} {F:List Wv → Hs → Re Wv} {x:Str} {p pos:Pos} {e:Expr} {es:List Expr} {g:GA}
    (G:FnOk X.prog X.w X.K X.mg X.base (CXJ X.prog X.w) k f fd ps (spW X.K n F)) (hr:Room k X.A) (hm:X.mg x = some (.ref f)) (hk:PySem.W.keepIn X.K (.ref f) = true) (hb:Binds X.K fd ps []) (ha:JA X (e :: es) g) (hg:Gl X x:=by rfl)
    (hdb:(x == ("__debug__":Str)) = false:=by decide) (he:starEach (e :: es) X.env = (false,eval e X.env) :: starEach es X.env:=by rfl) (hpl:(backTo pos (starEach es X.env)).any (·.1) = false:=by rfl) :
    JE X (.Call (.Name x p) (e :: es) [] pos) (gCall n F g):=by
  intro ρ st σ H m Q S R p pins s I
  have args:=ha.go (T:=fun vs H1 => ∃ ws st1 m1,PostE X σ m H (if ws.length = n then F ws st1 else .bad) Q ∧ Ext X.K m H m1 H1 ∧ Sim X.K m1 st1 H1 ∧ RelWs X.K m1 H1 ws vs) S R (PostG.bind p)
    fun ws st1 vs m1 H1 p1 e1 S1 rs => ⟨ws,st1,m1,p1,e1,S1,rs⟩
  refine wpAny_Call_Name_kw (ld_glob I hg hm ?_ hdb)
  refine PySem.W.callWith_K (h₀:=X.base) I.ok.mod.kin hk (thn (args pos pins s I) fun us s1 ⟨vs,H1,I1,r,ws,st1,m1,p1,e1,S1,rs⟩ => ⟨I1.kIn,?_⟩) he hpl
  by_cases c:ws.length = n
  · rw [if_pos c] at p1
    let E:XK:=fun cl _ H2 => ∃ c' st2 m2 C,cl = .ref C ∧ ClsAt X.K c' C ∧ F ws st1 = .err c' st2 ∧ Ext X.K m1 H1 m2 H2 ∧ Sim X.K m2 st2 H2
    have sp:spW X.K n F vs H1 Q E:=by
      refine ⟨m1,st1,ws,S1,rs,c,?_⟩
      cases er:F ws st1 with
      | ok w st2 => rw [er] at p1; exact PostE.shift (r:=.ok w st2) p1 e1
      | err c' st2 => exact fun m2 H2 C e2 S2 hC => ⟨c',st2,m2,C,rfl,hC,er,e2,S2⟩
      | bad => rw [er] at p1; exact False.elim p1
    have hl:us.length = ps.length:=by rw [← r.length]; exact G.len _ _ _ _ sp
    have bd:=hb s1 us I1.kIn (by rw [List.append_nil]; exact hl)
    rw [List.append_nil] at bd
    refine wpAny_call (codeAny_mono (G.run X.A X.stack s1 H1 ⟨us,[]⟩ us vs Q E hr I1.env0 bd r sp) fun rr s2 hq => ?_)
    cases rr with
    | error x =>
      obtain ⟨H2,C,fl,c',st2,m2,C',ec,hC,er,e2,S2⟩:=hq
      cases ec
      rw [er] at p1
      exact p1 m2 H2 x s2 (e1.trans e2) S2 ⟨C,pins,H1,s1,hC,I1,.inl fl⟩
    | ok fw =>
      cases fw with
      | ret u => exact I1.after hq
      | next => exact False.elim hq
      | brk => exact False.elim hq
      | cont => exact False.elim hq
  · rw [if_neg c] at p1; exact False.elim p1
end
def fnF (n:Nat) (g:GS):List Wv → Hs → Re Wv:=fun ws st => match g (ws.map some ++ List.replicate (n - ws.length) none) st with
  | .nx _ st' => .ok .non st'
  | .rt w st' => .ok w st'
  | .err c _ st' => .err c st'
  | _ => .bad
theorem startRel {K:PySem.W.Frag} {m:Mp} {H:Hp} {N:List Str} {ws:List Wv} {vs:List V} (r:RelWs K m H ws vs) (h:ws.length ≤ N.length):RelEnv K m H (ws.map some ++ List.replicate (N.length - ws.length) none) (L2.start N vs):=by
  have hl:=r.length
  refine ⟨by unfold L2.start; simp [hl],fun i w e => ?_⟩
  by_cases hi:i < ws.length
  · rw [List.getElem?_append_left (by simpa using hi),List.getElem?_map] at e
    cases q:ws[i]? with
    | none => rw [q] at e; cases e
    | some w' =>
      rw [q] at e
      cases e
      obtain ⟨x,h1,h2⟩:=r.get q
      refine ⟨x,?_,h2⟩
      unfold L2.start
      rw [List.getElem?_append_left (by simp; omega),List.getElem?_map,h1]
      rfl
  · rw [List.getElem?_append_right (by simpa using hi),List.getElem?_replicate] at e
    split at e <;> cases e
section
variable {P:Program} {w:World} {K:PySem.W.Frag} {mg:Str → Option Value} {base:Heap}
theorem raised_out {N:List Str} {qual:Str} {scope:Scope} {f:Addr} {cdv:Value} {A:Around} {outer:List Env} {s s':Shared} {H H':Hp} {E:XK} {σ:St} {c:PySem.Str} {e:Value}
    (r:Raised (cxOf (CXJ P w) P w K mg base N qual scope f cdv A outer s H E) σ H' c e s') (h:∀ C,ClsAt K c C → E (.ref C) none H'):(cxOf (CXJ P w) P w K mg base N qual scope f cdv A outer s H E).xe e s':=by
  obtain ⟨C,pins,Hc,sc,hC,I,r⟩:=r
  rcases r with fl | ⟨rfl,a,args,rfl,ho,hg,M⟩
  · exact leave_flown (X:=cxOf (CXJ P w) P w K mg base N qual scope f cdv A outer s H E) rfl rfl rfl I fl fun s2 fl2 => ⟨H',C,fl2,h C hC⟩
  · exact leave_made (X:=cxOf (CXJ P w) P w K mg base N qual scope f cdv A outer s H E) rfl rfl rfl I ho hg M fun s2 fl2 => ⟨H',C,fl2,h C hC⟩
def CodeOf (K:PySem.W.Frag) (f:Addr) (cdv:Value):Prop:=∃ o,K.lookup f = some o ∧ ∃ fd,o.data = .func fd ∧ fd.code = cdv
theorem fn_ok {x qual:Str} {st:Stmt} {f:Addr} {fd:FuncData} {N ps:List Str} {k:Nat} {g:GS} (F:Fun K x qual st f fd) (S:FnScope N ps (defScope st))
    (body:∀ (cdv:Value),CodeOf K f cdv → ∀ (A:Around) (outer:List Env) (s:Shared) (H:Hp) (E:XK),Room k (A.deeper (envOfC qual (defScope st) s.heap.objs.size f cdv)) → JSs (cxOf (CXJ P w) P w K mg base N qual (defScope st) f cdv A outer s H E) (defBody st) g) :
    FnOk P w K mg base (CXJ P w) (k + 1) f fd ps (spW K ps.length (fnF N.length g)):=by
  have hpl:ps.length ≤ N.length:=by have:=congrArg List.length S.pre; rw [List.length_take] at this; omega
  obtain ⟨oc,od,kV,doc,pm,an,cdv,ct,osl,rfl,lk,hcd⟩:=F.ex
  refine fn_of lk hcd S (fun vs H Q E h => ?_) fun A outer s H vs Q E hr h => ?_
  · obtain ⟨m,st',ws,_,r,hl,_⟩:=h
    rw [← r.length]; exact hl
  · obtain ⟨m,st',ws,S',r,hl,p⟩:=h
    refine ⟨_,pss_SSs,?_⟩
    refine body cdv ⟨_,lk,_,rfl,rfl⟩ A outer s H E hr _ st' _ H m _ S' (startRel r (by omega)) ?_
    unfold fnF at p
    cases e:g (ws.map some ++ List.replicate (N.length - ws.length) none) st' with
    | nx ρ st2 => rw [e] at p; exact fun σ m' H' e' S2 R2 => p _ m' H' e' S2 (by unfold RelW; rfl)
    | rt w' st2 => rw [e] at p; exact p
    | bk ρ st2 => rw [e] at p; exact False.elim p
    | ct ρ st2 => rw [e] at p; exact False.elim p
    | err c ρ st2 => rw [e] at p; exact fun σ m' H' x s' e' S2 R2 rz => raised_out rz fun C hC => p m' H' C e' S2 hC
    | bad => rw [e] at p; exact False.elim p
end
def OnlyT (H:Hp):Prop:=∀ b,H b = none ∨ (∃ o xs,H b = some (.frz o (.lst xs))) ∨ H b = some (.tbl #[])
theorem OnlyT.of {H:Hp} (h:Only H):OnlyT H:=fun b => by
  rcases h b with q | q
  · exact .inl q
  · exact .inr (.inl q)
theorem law_sp {K:PySem.W.Frag} {F:List Wv → Hs → Re Wv} (h:∀ ns:List Int,ns.length ≤ 63 → ∃ st,F [.ref 0] [.scr ns] = .ok (.bl true) st) (H:Hp) (a:Addr) (ns:List Int) (hl:ns.length ≤ 63) (hO:OnlyT H) (hS:SqL K H a (ns.map V.int)) (hT:TbOk K H) :
    spW K 1 F [.ref a] H (fun v _ => v = .bl true) fun _ _ _ => False:=by
  obtain ⟨st,e⟩:=h ns hl
  refine ⟨[a],[.scr ns],[.ref 0],⟨rfl,fun l b o h1 h2 => ?_,fun l l' b ws ws' _ _ h2 _ k _ => ?_,hT⟩,RelWs.cons (by unfold RelW; exact ⟨a,rfl,rfl⟩) RelWs.nil,rfl,?_⟩
  · cases l with
    | zero =>
      simp at h1 h2
      subst h1 h2
      show ScrOk K H a ns
      rcases hS with (q | ⟨o',q⟩) | q
      · rcases hO a with z | ⟨o',xs,z⟩ | z
        · rw [z] at q; cases q
        · rw [z] at q; cases q
        · rw [z] at q; cases q
      · exact .inl ⟨o',q⟩
      · exact .inr q
    | succ l => simp at h1
  · cases l with
    | zero => simp at h2; subst h2; simp [Ob.mu] at k
    | succ l => simp at h2
  · rw [e]
    intro v m' H' _ _ r
    unfold RelW at r
    exact r
end J
namespace J
open PySem PySem.Spec PyProof.Rows L2
def truW (w:Wv) (st:Hs):Re Bool:=match w with
  | .non => .ok false st
  | .bl b => .ok b st
  | .int i => .ok (i != 0) st
  | .str y => if y.length ≤ lim then .ok ((y.length:Int) != 0) st else .bad
  | .tup ws => .ok (!ws.isEmpty) st
  | .ktp _ => .bad
  | .ref l => match lstOf st l with
    | some ws => .ok (!ws.isEmpty) st
    | none => .bad
  | .ty _ => .bad
  | .cls _ => .bad
  | .exn _ => .bad
  | .fn _ _ => .bad
def gTru (g:GE):GT:=fun ρ st => (g ρ st).bind truW
section
variable {X:Cx}
theorem isE {m:Mp} {H:Hp} {ws:List Wv} {xs:List V} (r:RelWs X.K m H ws xs):(!ws.isEmpty) = !xs.isEmpty:=by
  have h:=r.length
  cases ws <;> cases xs <;> simp_all
theorem jt_tru {e:Expr} {g:GE} (h:JE X e g) (he:∀ whole,isTrue e X.env whole = (do let v ← whole; standAt e.pos; holding [v] (truthy v))):JT X e (gTru g) :=
  JT.of (pt_truth pe_SE he) fun ρ st σ H m Q S R p => h.go S R (PostG.bind p) fun w st1 v m1 H1 p1 e1 S1 r1 => by
    cases w with
    | non => unfold RelW at r1; subst r1; exact ⟨false,rfl,p1 m1 H1 e1 S1⟩
    | bl b => unfold RelW at r1; subst r1; exact ⟨b,rfl,p1 m1 H1 e1 S1⟩
    | int i => unfold RelW at r1; subst r1; exact ⟨_,rfl,p1 m1 H1 e1 S1⟩
    | str y =>
      obtain ⟨rfl,_⟩:=relStr r1
      have p2:PostT X σ m H (if y.length ≤ lim then .ok ((y.length:Int) != 0) st1 else .bad) Q:=p1
      by_cases c:y.length ≤ lim
      · rw [if_pos c] at p2; exact ⟨_,⟨lim_le c,rfl⟩,p2 m1 H1 e1 S1⟩
      · rw [if_neg c] at p2; exact False.elim p2
    | ktp ws => exact False.elim p1
    | tup ws =>
      unfold RelW at r1
      obtain ⟨a,xs,rfl,h1,h2⟩:=r1
      refine ⟨!xs.isEmpty,.inr (.inl ⟨xs,SqT.of h1,rfl⟩),?_⟩
      rw [← isE h2]
      exact p1 m1 H1 e1 S1
    | ref l =>
      unfold RelW at r1
      obtain ⟨a,rfl,h1⟩:=r1
      have p2:PostT X σ m H (match lstOf st1 l with | some ws => .ok (!ws.isEmpty) st1 | none => .bad) Q:=p1
      cases el:lstOf st1 l with
      | none => rw [el] at p2; exact False.elim p2
      | some ws =>
        rw [el] at p2
        obtain ⟨xs,hq,h2⟩:=S1.read h1 el
        refine ⟨!xs.isEmpty,.inl ⟨xs,hq,rfl⟩,?_⟩
        rw [← isE h2]
        exact p2 m1 H1 e1 S1
    | ty T => exact False.elim p1
    | cls T => exact False.elim p1
    | exn T => exact False.elim p1
    | fn fp T => exact False.elim p1
theorem all_fold {p:Nat → Bool} {x:Array Nat} (hx:x.all p = true):∀ (n:Nat) (a:Array Nat),a.all p = true → ((List.replicate n x).foldl (· ++ ·) a).all p = true
  | 0,a,h => h
  | n + 1,a,h => by
    rw [List.replicate_succ,List.foldl_cons]
    refine all_fold hx n _ ?_
    rw [Array.all_append,h,hx]
    rfl
theorem strOk_rep {x:PySem.Str} {n:Nat} (h:PyData.strOk x = true):PyData.strOk (repS n x) = true:=by
  unfold PyData.strOk at h ⊢
  unfold repS
  exact all_fold h n #[] (by simp)
theorem size_fold {x:Array Nat}:∀ (n:Nat) (a:Array Nat),((List.replicate n x).foldl (· ++ ·) a).size = a.size + x.size * n
  | 0,a => by simp
  | n + 1,a => by
    rw [List.replicate_succ,List.foldl_cons,size_fold n,Array.size_append,Nat.mul_succ]
    omega
theorem len_repS {x:PySem.Str} {n:Nat}:(repS n x).length = x.length * n:=by
  show ((List.replicate n x.cps).foldl (· ++ ·) #[]).size = x.cps.size * n
  rw [size_fold]
  simp
def CMulS (x:PySem.Str) (n:Int):Prop:=1 < n ∧ n ≤ 100000 ∧ x.length ≠ 0 ∧ x.length * n.toNat ≤ lim
instance {x n}:Decidable (CMulS x n):=by unfold CMulS; infer_instance
theorem op_mulS:OpR X (binaryOp .Mult) (fun x y H Q => ∃ z n,x = .str z ∧ y = .int n ∧ CMulS z n ∧ Q (.str (repS n.toNat z)) H):=by
  intro pins s σ H x y v u Q I rx ry h
  obtain ⟨z,n,rfl,rfl,⟨h1,h2,h3,h4⟩,q⟩:=h
  obtain ⟨t,rfl⟩:=rx
  obtain ⟨t',rfl⟩:=ry
  have n1:¬ n < 1:=by omega
  have hlen:z.length ≤ lim:=by
    refine Nat.le_trans ?_ h4
    exact Nat.le_mul_of_pos_right _ (by omega)
  have hne:(n == 1 || z.length == 0) = false:=by
    have e1:(n == 1) = false:=by rw [beq_eq_false_iff_ne]; omega
    have e2:(z.length == 0) = false:=by rw [beq_eq_false_iff_ne]; exact h3
    rw [e1,e2]; rfl
  have hl:PySem.Builtin.Str.tooLong (z.length * n.toNat) = false:=by
    unfold PySem.Builtin.Str.tooLong
    have q:=lim_le h4
    first
      | exact decide_eq_false (by omega)
      | simp only [decide_eq_false_iff_not]; omega
  refine PySem.P.mul_str (by
      have e1:¬ n < -(2 ^ 63:Int):=by omega
      have e2:¬ n ≥ 2 ^ 63:=by omega
      rw [decide_eq_false e1,decide_eq_false e2]; rfl) (fun _ _ => ?_) (fun _ _ => hl) ?_
  · have e:((2:Int) ^ 63 - 1) / 100000 ≤ (2 ^ 63 - 1) / n:=by
      refine Int.le_ediv_of_mul_le (by omega) ?_
      have:((2:Int) ^ 63 - 1) / 100000 * n ≤ ((2:Int) ^ 63 - 1) / 100000 * 100000:=Int.mul_le_mul_of_nonneg_left h2 (by decide)
      exact Int.le_trans this (by decide)
    have e':(1000000:Int) ≤ (2 ^ 63 - 1) / 100000:=by decide
    unfold lim at hlen
    omega
  · rw [if_neg n1,if_neg (by rw [hne]; exact Bool.false_ne_true)]
    exact ⟨by show (repS n.toNat z).length ≤ _; rw [len_repS]; exact lim_le h4,.str (repS n.toNat z),H,I.tok _,⟨_,rfl⟩,q⟩
def oMulS:Op2
  | .int i,.int j,st => if IntMulOk i j then .ok (.int (i * j)) st else .bad
  | .str z,.int n,st => if CMulS z n then .ok (.str (repS n.toNat z)) st else .bad
  | _,_,_ => .bad
theorem ow_mulS:OpW X (binaryOp .Mult) oMulS:=⟨_,OpR.or op_mulG op_mulS,fun x y a b st H m Q S rx ry p => by
  cases x with
  | int i =>
    cases y with
    | int j =>
      cases relInt rx; cases relInt ry
      have p':PostO X.K m H (if IntMulOk i j then .ok (.int (i * j)) st else .bad) Q:=p
      by_cases c:IntMulOk i j
      · rw [if_pos c] at p'; exact .inl ⟨i,j,rfl,rfl,c,p' _ m H Ext.refl S mkInt⟩
      · rw [if_neg c] at p'; exact False.elim p'
    | _ => exact False.elim p
  | str z =>
    cases y with
    | int n =>
      obtain ⟨rfl,hz⟩:=relStr rx
      cases relInt ry
      have p':PostO X.K m H (if CMulS z n then .ok (.str (repS n.toNat z)) st else .bad) Q:=p
      by_cases c:CMulS z n
      · rw [if_pos c] at p'; exact .inr ⟨z,n,rfl,rfl,c,p' _ m H Ext.refl S (mkStr (strOk_rep hz))⟩
      · rw [if_neg c] at p'; exact False.elim p'
    | _ => exact False.elim p
  | _ => exact False.elim p⟩
def gBad:GE:=fun _ _ => .bad
def gBadT:GT:=fun _ _ => .bad
theorem je_bad {e:Expr}:JE X e gBad:=fun ρ st σ H m Q S R p => False.elim p
theorem jt_bad {e:Expr}:JT X e gBadT:=fun ρ st σ H m Q S R p => False.elim p
end
def Has (P:Program) (w:World) (K:PySem.W.Frag) (mg:Str → Option Value) (base:Heap) (k:Nat) (x:Str) (n:Nat) (F:List Wv → Hs → Re Wv):Prop :=
  ∃ f fd ps,FnOk P w K mg base (CXJ P w) k f fd ps (spW K n F) ∧ mg x = some (.ref f) ∧ PySem.W.keepIn K (.ref f) = true ∧ Binds K fd ps []
theorem Has.mono {P:Program} {w:World} {K:PySem.W.Frag} {mg:Str → Option Value} {base:Heap} {j k:Nat} {x:Str} {n:Nat} {F:List Wv → Hs → Re Wv} (h:Has P w K mg base j x n F) (l:j ≤ k):Has P w K mg base k x n F:=by
  obtain ⟨f,fd,ps,G,r⟩:=h
  exact ⟨f,fd,ps,G.mono l,r⟩
def DefAt (K:PySem.W.Frag) (x:Str) (st:Stmt):Prop:=∃ f fd,PySem.W.nsIn K mainGlobals x = some (some (.ref f)) ∧ Fun K x x st f fd
theorem def_at {K:PySem.W.Frag} {x:Str} {st:Stmt} {f:Addr} {oc:Value} {od an:Option Addr} {osl:Array (Option Value)} {kV doc pm cdv ct:Value} (a:PySem.W.nsIn K mainGlobals x = some (some (.ref f)))
    (l:K.lookup f = some ⟨oc,od,.func (PySem.W.fnOf x x (defArgs st) (defBody st) (defScope st) .none kV doc pm an cdv ct),osl⟩) (c:PySem.W.codeIn K cdv x = true) (k:PySem.W.keepIn K (.ref f) = true):DefAt K x st:=⟨f,_,a,fun_mk l c k⟩
theorem boot_isI:bootBuiltins "isinstance" = some (.builtin "isinstance"):=by decide +kernel
theorem boot_absJ:bootBuiltins "abs" = some (.builtin "abs"):=by decide +kernel
theorem boot_lenJ:bootBuiltins "len" = some (.builtin "len"):=by decide +kernel
theorem boot_tyI:bootBuiltins "int" = some (.type "int"):=by decide +kernel
theorem boot_tyS:bootBuiltins "str" = some (.type "str"):=by decide +kernel
theorem boot_tyB:bootBuiltins "bool" = some (.type "bool"):=by decide +kernel
theorem boot_tyT:bootBuiltins "tuple" = some (.type "tuple"):=by decide +kernel
theorem boot_tyL:bootBuiltins "list" = some (.type "list"):=by decide +kernel
end J
namespace J
open PySem PySem.Spec PyProof.Rows L2
def forT (i:Nat) (gb:GS):List Wv → Rho → Hs → Rs
  | [],ρ,st => .nx ρ st
  | w :: r,ρ,st => match gb (ρ.set i (some w)) st with
    | .nx ρ' st' => forT i gb r ρ' st'
    | .ct ρ' st' => forT i gb r ρ' st'
    | .bk ρ' st' => .nx ρ' st'
    | .rt w st' => .rt w st'
    | .err c ρ' st' => .err c ρ' st'
    | .bad => .bad
section
variable {X:Cx}
theorem for_core (i:Nat) {body:List Stmt} {gb:GS} (hb:JSs X body gb) {J':It} {ws:List Wv} {m1:Mp} {H1:Hp} {st1:Hs} {ρ:Rho} {σ:St} {D:Ends} (S1:Sim X.K m1 st1 H1) (R:RelEnv X.K m1 H1 ρ σ) (p1:PostS X m1 H1 (forT i gb ws ρ st1) D)
    (hgo:∀ (k:Nat) (H:Hp) (m':Mp),Ext X.K m1 H1 m' H → k < ws.length → J'.go k H) (hstop:∀ (k:Nat) (H:Hp) (m':Mp),Ext X.K m1 H1 m' H → k = ws.length → J'.stop k H)
    (hy:∀ (k:Nat) (hk:k < ws.length) (H:Hp) (x:V) (H':Hp) (m':Mp),Ext X.K m1 H1 m' H → J'.yld k H x H' → H' = H ∧ RelW X.K m' H ws[k] x) :
    ∃ W:Nat → Nat → St → Hp → Prop,(∃ m,W 0 m σ H1) ∧ ∀ k n σ H,W k n σ H →
      (J'.stop k H ∧ D.nx σ H) ∨ (J'.go k H ∧ ∃ N:St → Hp → Prop,(∀ σ' H',N σ' H' → ∃ m',m' < n ∧ W (k + 1) m' σ' H') ∧ ∀ x H',J'.yld k H x H' → gName i x σ H' fun σ2 H2 => SSs X body { D with nx:=N,ct:=N,bk:=D.nx } σ2 H2):=by
  let Pv:Nat → St → Hp → Prop:=fun k σ H => ∃ ρ st m',Ext X.K m1 H1 m' H ∧ Sim X.K m' st H ∧ RelEnv X.K m' H ρ σ ∧ PostS X m' H (forT i gb (ws.drop k) ρ st) D
  refine ⟨fun k n σ H => n = ws.length - k ∧ k ≤ ws.length ∧ Pv k σ H,⟨ws.length,by simp,Nat.zero_le _,ρ,st1,m1,Ext.refl,S1,R,p1⟩,?_⟩
  rintro k n σ2 H2 ⟨rfl,hk,ρ2,st2,m2,e2,S2,R2,p2⟩
  by_cases hlt:k < ws.length
  · refine .inr ⟨hgo k H2 m2 e2 hlt,Pv (k + 1),fun σ' H' p' => ⟨ws.length - (k + 1),by omega,rfl,hlt,p'⟩,fun x H' y => ?_⟩
    obtain ⟨ee,rx'⟩:=hy k hlt H2 x H' m2 e2 y
    subst ee
    have ed:ws.drop k = ws[k] :: ws.drop (k + 1):=List.drop_eq_getElem_cons hlt
    rw [ed] at p2
    refine hb _ st2 _ _ m2 _ S2 (R2.set i rx') ?_
    unfold forT at p2
    cases eg:gb (ρ2.set i (some ws[k])) st2 with
    | nx ρ3 st3 => rw [eg] at p2; exact fun σ3 m3 H3 e3 S3 R3 => ⟨ρ3,st3,m3,e2.trans e3,S3,R3,PostS.shift p2 e3⟩
    | ct ρ3 st3 => rw [eg] at p2; exact fun σ3 m3 H3 e3 S3 R3 => ⟨ρ3,st3,m3,e2.trans e3,S3,R3,PostS.shift p2 e3⟩
    | bk ρ3 st3 => rw [eg] at p2; exact p2
    | rt w3 st3 => rw [eg] at p2; exact p2
    | err c3 ρ3 st3 => rw [eg] at p2; exact p2
    | bad => rw [eg] at p2; exact p2
  · have e:k = ws.length:=by omega
    subst e
    rw [List.drop_length] at p2
    exact .inl ⟨hstop _ H2 m2 e2 rfl,p2 σ2 m2 H2 Ext.refl S2 R2⟩
def iSeq (K:PySem.W.Frag) (tl:TE):TI:=fun σ H R => tl σ H fun x H1 => ∃ a,x = .ref a ∧ (((∃ xs,SqL K H1 a xs) ∧ R (Itl K a) H1) ∨ ((∃ xs,SqT K H1 a xs) ∧ R (Itt K a) H1))
theorem pi_seq {tg l:Expr} {tl:TE} (hl:PE X l tl):PI X tg l (iSeq X.K tl):=by
  intro pins s σ H R I h
  refine thn (hl pins s σ H _ I h) fun v s1 ⟨x,H1,I1,r1,q1⟩ => ?_
  obtain ⟨a,e,q1⟩:=q1
  subst e
  cases r1
  have frs:∀ b ∈ [s1.heap.objs.size],FpOk X pins H1 b:=fun b hb => by
    have e:b = s1.heap.objs.size:=by simpa using hb
    subst e
    exact I1.fpOk (Nat.le_refl _) (I1.hok.fresh (Nat.le_refl _))
  rcases q1 with ⟨⟨xs,hq⟩,q⟩ | ⟨⟨xs,hq⟩,q⟩
  · obtain ⟨its,rv,p,hz⟩:=I1.list hq
    refine wpAny_pyIter_list p.isList ?_
    exact ⟨s1.heap.objs.size,[s1.heap.objs.size],_,_,H1,rfl,I1.kept (t':=s1.toks) fun b o e => Heap.get?_push_of_some _ e,turn_list a _,⟨_,Heap.get?_push_size _ rfl,rfl,rfl⟩,frs,q⟩
  · obtain ⟨its,rv,p,hz⟩:=I1.tuple hq
    refine wpAny_pyIter_tuple (show s1.heap.IsTuple a its.toArray from p) ?_
    exact ⟨s1.heap.objs.size,[s1.heap.objs.size],_,_,H1,rfl,I1.kept (t':=s1.toks) fun b o e => Heap.get?_push_of_some _ e,turn_tuple a _,⟨_,Heap.get?_push_size _ rfl,rfl,rfl⟩,frs,q⟩
noncomputable def gFor (i:Nat) (gi:GE) (gb:GS):GS:=fun ρ st => (gi ρ st).thn ρ fun w st1 => match w with
  | .ref l => (match lstOf st1 l with | some ws => forL i gb l ws ws ρ st1 | none => .bad)
  | .tup ws => forT i gb ws ρ st1
  | .ktp ws => forT i gb ws ρ st1
  | _ => .bad
theorem js_for (i:Nat) {x:Str} {iter:Expr} {body:List Stmt} {gi:GE} {gb:GS} {pos pos':Pos} (hN:X.N.Nodup) (hp:PassesOwn (model X.prog X.w) X.A X.env X.xe) (hc:X.calm = true) (hi:JE X iter gi) (hb:JSs X body gb)
    (hx:X.N[i]? = some x) (hlo:Loc X.env.scope x) (hlf:X.fn x = true ∨ X.env.scope.names.lookup x = some .local)
    (hs:∀ x,foldedSetIterable iter X.env x = pure x):JS X (.For (.Name x pos') iter body [] pos) (gFor i gi gb):=by
  refine JS.of (ps_for hp hc (pi_seq pe_SE) (pg_name hN hx hlo hlf) pss_SSs hs) fun ρ st σ H m D S R p => ?_
  refine hi.go S R (PostS.of_thn R p) fun w st1 v m1 H1 p1 e1 S1 rw' => ?_
  cases w with
  | ref l =>
    have p1':PostS X m H (match lstOf st1 l with | some ws => forL i gb l ws ws ρ st1 | none => .bad) D:=p1
    unfold RelW at rw'
    obtain ⟨a,rfl,hla⟩:=rw'
    cases el:lstOf st1 l with
    | none => rw [el] at p1'; exact False.elim p1'
    | some ws =>
      rw [el] at p1'
      obtain ⟨xs0,q0,_⟩:=S1.read hla el
      refine ⟨a,rfl,.inl ⟨⟨xs0,q0⟩,?_⟩⟩
      let Pv:Nat → St → Hp → Prop:=fun k σ H => ∃ ρ st m',Ext X.K m1 H1 m' H ∧ Sim X.K m' st H ∧ RelEnv X.K m' H ρ σ ∧ lstOf st l = some ws ∧ PostS X m' H (forL i gb l ws (ws.drop k) ρ st) D
      refine ⟨fun k n σ H => n = ws.length - k ∧ k ≤ ws.length ∧ Pv k σ H,⟨ws.length,by simp,Nat.zero_le _,ρ,st1,m1,Ext.refl,S1,R.mono e1,el,PostS.shift p1' e1⟩,?_⟩
      rintro k n σ2 H2 ⟨rfl,hk,ρ2,st2,m2,e2,S2,R2,l2,p2⟩
      obtain ⟨xs,hq,rws⟩:=S2.read (e2.pre _ _ hla) l2
      have hlen:=rws.length
      by_cases hlt:k < ws.length
      · have hx':k < xs.length:=by omega
        refine .inr ⟨⟨xs,xs[k],hq,by simp [hx']⟩,Pv (k + 1),fun σ' H' p' => ⟨ws.length - (k + 1),by omega,rfl,hlt,p'⟩,fun x H' y => ?_⟩
        obtain ⟨ee,y⟩:=y
        subst ee
        have ey:=y xs hq
        have ed:ws.drop k = ws[k] :: ws.drop (k + 1):=List.drop_eq_getElem_cons hlt
        obtain ⟨x',ex',rx'⟩:=rws.get (i:=k) (w:=ws[k]) (List.getElem?_eq_getElem hlt)
        rw [ey] at ex'
        cases ex'
        rw [ed] at p2
        refine hb _ st2 _ _ m2 _ S2 (R2.set i rx') ?_
        unfold forL at p2
        cases eg:gb (ρ2.set i (some ws[k])) st2 with
        | nx ρ3 st3 =>
          rw [eg] at p2
          by_cases c:lstOf st3 l = some ws
          · simp only [if_pos c] at p2
            exact fun σ3 m3 H3 e3 S3 R3 => ⟨ρ3,st3,m3,e2.trans e3,S3,R3,c,PostS.shift p2 e3⟩
          · simp only [if_neg c] at p2; exact False.elim p2
        | ct ρ3 st3 =>
          rw [eg] at p2
          by_cases c:lstOf st3 l = some ws
          · simp only [if_pos c] at p2
            exact fun σ3 m3 H3 e3 S3 R3 => ⟨ρ3,st3,m3,e2.trans e3,S3,R3,c,PostS.shift p2 e3⟩
          · simp only [if_neg c] at p2; exact False.elim p2
        | bk ρ3 st3 => rw [eg] at p2; exact p2
        | rt w3 st3 => rw [eg] at p2; exact p2
        | err c3 ρ3 st3 => rw [eg] at p2; exact p2
        | bad => rw [eg] at p2; exact p2
      · have e:k = ws.length:=by omega
        subst e
        rw [List.drop_length] at p2
        exact .inl ⟨⟨xs,hq,by omega⟩,p2 σ2 m2 H2 Ext.refl S2 R2⟩
  | tup ws =>
    unfold RelW at rw'
    obtain ⟨a,xs,rfl,hq,rws⟩:=rw'
    have hlen:=rws.length
    refine ⟨a,rfl,.inr ⟨⟨xs,SqT.of hq⟩,?_⟩⟩
    refine for_core i hb (ws:=ws) S1 (R.mono e1) (PostS.shift p1 e1) (fun k H m' e hk => ?_) (fun k H m' e hk => ?_) fun k hk H x H' m' e y => ?_
    · have hx':k < xs.length:=by omega
      exact ⟨xs,xs[k],SqT.of (e.tup _ _ hq),by simp [hx']⟩
    · exact ⟨xs,SqT.of (e.tup _ _ hq),by omega⟩
    · obtain ⟨ee,y⟩:=y
      refine ⟨ee,?_⟩
      obtain ⟨x',ex',rx'⟩:=(RelWs.mono e _ _ rws).get (i:=k) (w:=ws[k]) (List.getElem?_eq_getElem hk)
      rw [y xs (SqT.of (e.tup _ _ hq))] at ex'
      cases ex'
      exact rx'
  | ktp ws =>
    unfold RelW at rw'
    obtain ⟨a,xs,rfl,hq,rws⟩:=rw'
    have hlen:=rws.length
    refine ⟨a,rfl,.inr ⟨⟨xs,.inr hq⟩,?_⟩⟩
    refine for_core i hb (ws:=ws) S1 (R.mono e1) (PostS.shift p1 e1) (fun k H m' e hk => ?_) (fun k H m' e hk => ?_) fun k hk H x H' m' e y => ?_
    · have hx':k < xs.length:=by omega
      exact ⟨xs,xs[k],.inr hq,by simp [hx']⟩
    · exact ⟨xs,.inr hq,by omega⟩
    · obtain ⟨ee,y⟩:=y
      refine ⟨ee,?_⟩
      obtain ⟨x',ex',rx'⟩:=(RelWs.mono e _ _ rws).get (i:=k) (w:=ws[k]) (List.getElem?_eq_getElem hk)
      rw [y xs (.inr hq)] at ex'
      cases ex'
      exact rx'
  | _ => exact False.elim p1
def rngW (lo:Int) (n:Nat):List Wv:=(List.range n).map fun k:Nat => Wv.int (lo + k)
theorem rngW_get? {lo:Int} {n k:Nat} (h:k < n):(rngW lo n)[k]? = some (.int (lo + k)):=by
  unfold rngW
  rw [List.getElem?_map,List.getElem?_range h]
  rfl
theorem rngW_get {lo:Int} {n k:Nat} (h:k < (rngW lo n).length):(rngW lo n)[k] = .int (lo + k):=by
  have q:=rngW_get? (lo:=lo) (n:=n) (k:=k) (by unfold rngW at h; simpa using h)
  rw [List.getElem?_eq_getElem h] at q
  exact Option.some.inj q
theorem rngW_len {lo:Int} {n:Nat}:(rngW lo n).length = n:=by unfold rngW; simp
def CRng (i:Int):Prop:=-(2 ^ 62) ≤ i ∧ i < 2 ^ 62
noncomputable instance {i}:Decidable (CRng i):=Classical.propDecidable _
noncomputable def gForR1 (i:Nat) (ga:GA) (gb:GS):GS:=fun ρ st => (ga ρ st).thn ρ fun ws st1 => match ws with
  | [.int j] => if CRng j then forT i gb (rngW 0 j.toNat) ρ st1 else .bad
  | _ => .bad
noncomputable def gForR2 (i:Nat) (ga:GA) (gb:GS):GS:=fun ρ st => (ga ρ st).thn ρ fun ws st1 => match ws with
  | [.int a,.int j] => if CRng a ∧ CRng j then forT i gb (rngW a (j - a).toNat) ρ st1 else .bad
  | _ => .bad
theorem for_rng (i:Nat) {body:List Stmt} {gb:GS} (hb:JSs X body gb) {lo:Int} {n:Nat} {m1:Mp} {H1:Hp} {st1:Hs} {ρ:Rho} {σ:St} {D:Ends} (S1:Sim X.K m1 st1 H1) (R:RelEnv X.K m1 H1 ρ σ) (p1:PostS X m1 H1 (forT i gb (rngW lo n) ρ st1) D) :
    ∃ W:Nat → Nat → St → Hp → Prop,(∃ m,W 0 m σ H1) ∧ ∀ k n' σ H,W k n' σ H →
      ((Itr lo n).stop k H ∧ D.nx σ H) ∨ ((Itr lo n).go k H ∧ ∃ N:St → Hp → Prop,(∀ σ' H',N σ' H' → ∃ m',m' < n' ∧ W (k + 1) m' σ' H') ∧ ∀ x H',(Itr lo n).yld k H x H' → gName i x σ H' fun σ2 H2 => SSs X body { D with nx:=N,ct:=N,bk:=D.nx } σ2 H2) :=
  for_core i hb S1 R p1 (fun k H m' e hk => by rw [rngW_len] at hk; exact hk) (fun k H m' e hk => by rw [rngW_len] at hk; exact Nat.le_of_eq hk.symm) fun k hk H x H' m' e y => by
    obtain ⟨y1,y2⟩:=y
    refine ⟨y1,?_⟩
    rw [rngW_get,y2]
    exact mkInt
theorem js_forR1 (i:Nat) {x:Str} {a:Expr} {body:List Stmt} {ga:GA} {gb:GS} {pos pos' p q:Pos} (hN:X.N.Nodup) (hp:PassesOwn (model X.prog X.w) X.A X.env X.xe) (hc:X.calm = true) (hg:Gl X "range") (hm:X.mg "range" = none) (ha:JA X [a] ga) (hb:JSs X body gb)
    (hx:X.N[i]? = some x) (hlo:Loc X.env.scope x) (hlf:X.fn x = true ∨ X.env.scope.names.lookup x = some .local) (hst:starEach [a] X.env = [(false,eval a X.env)]):JS X (.For (.Name x pos') (.Call (.Name "range" p) [a] [] q) body [] pos) (gForR1 i ga gb):=by
  refine JS.of (ps_for hp hc (pi_range1 hg hm pa_SA hst) (pg_name hN hx hlo hlf) pss_SSs (fun _ => rfl)) fun ρ st σ H m D S R p => ?_
  refine ha.go S R (PostS.of_thn R p) fun ws st1 vs m1 H1 p1 e1 S1 rs => ?_
  match ws,rs,p1 with
  | [],rs,p1 => exact False.elim p1
  | x :: y :: t,rs,p1 => cases x <;> exact False.elim p1
  | [x],rs,p1 =>
    obtain ⟨v,rfl,r1⟩:=rel1 rs
    cases x with
    | int j =>
      cases relInt r1
      have p2:PostS X m H (if CRng j then forT i gb (rngW 0 j.toNat) ρ st1 else .bad) D:=p1
      by_cases c:CRng j
      · rw [if_pos c] at p2
        exact ⟨j,rfl,c.1,c.2,for_rng i hb S1 (R.mono e1) (PostS.shift p2 e1)⟩
      · rw [if_neg c] at p2; exact False.elim p2
    | _ => exact False.elim p1
theorem js_forR2 (i:Nat) {x:Str} {a b:Expr} {body:List Stmt} {ga:GA} {gb:GS} {pos pos' p q:Pos} (hN:X.N.Nodup) (hp:PassesOwn (model X.prog X.w) X.A X.env X.xe) (hc:X.calm = true) (hg:Gl X "range") (hm:X.mg "range" = none) (ha:JA X [a,b] ga) (hb:JSs X body gb)
    (hx:X.N[i]? = some x) (hlo:Loc X.env.scope x) (hlf:X.fn x = true ∨ X.env.scope.names.lookup x = some .local) (hst:starEach [a,b] X.env = [(false,eval a X.env),(false,eval b X.env)]) (hst2:starEach [b] X.env = [(false,eval b X.env)]):JS X (.For (.Name x pos') (.Call (.Name "range" p) [a,b] [] q) body [] pos) (gForR2 i ga gb):=by
  refine JS.of (ps_for hp hc (pi_range2 hg hm pa_SA hst hst2) (pg_name hN hx hlo hlf) pss_SSs (fun _ => rfl)) fun ρ st σ H m D S R p => ?_
  refine ha.go S R (PostS.of_thn R p) fun ws st1 vs m1 H1 p1 e1 S1 rs => ?_
  match ws,rs,p1 with
  | [],rs,p1 => exact False.elim p1
  | [x],rs,p1 => cases x <;> exact False.elim p1
  | x :: y :: z :: t,rs,p1 => cases x <;> cases y <;> exact False.elim p1
  | [x,y],rs,p1 =>
    obtain ⟨v,v',rfl,r1,r2⟩:=rel2 rs
    cases x with
    | int a =>
      cases y with
      | int j =>
        cases relInt r1; cases relInt r2
        have p2:PostS X m H (if CRng a ∧ CRng j then forT i gb (rngW a (j - a).toNat) ρ st1 else .bad) D:=p1
        by_cases c:CRng a ∧ CRng j
        · rw [if_pos c] at p2
          exact ⟨a,j,rfl,⟨c.1.1,c.1.2,c.2.1,c.2.2⟩,for_rng i hb S1 (R.mono e1) (PostS.shift p2 e1)⟩
        · rw [if_neg c] at p2; exact False.elim p2
      | _ => exact False.elim p1
    | _ => cases y <;> exact False.elim p1
theorem js_retN {pos:Pos}:JS X (.Return none pos) (gRet (gC .non)):=JS.of ps_retN fun ρ st σ H m D S R p => p .non m H Ext.refl S mkNon
end
end J
namespace J
open PySem PySem.Spec PyProof.Rows L2
abbrev bmV:List Value:=[.type "ValueError",.type "Exception",.type "BaseException",.type "object"]
abbrev nwV:String:="ValueError.__new__"
structure ExcC (K:PySem.W.Frag) (c:PySem.Str) (C:Addr):Prop where
  cls:ClsAt K c C
  exc:PySem.W.excIn K C bmV nwV = true
theorem exc_obj {K:PySem.W.Frag} {h:Heap} {C:Addr} (KX:K.In h) (q:PySem.W.excIn K C bmV nwV = true) :
    ∃ (bm:List Value) (N:Addr) (nm qn:Str) (bs:List Value) (hd:Bool) (sn:List Str) (sub:List Value) (ab:Bool) (col:Option Bool) (dd:Option Addr) (k0 k1 k2 k3 k5:Option Value) (mN:Str → Option Value),
      h.get? C = some (excClassObj nm qn C N bs bm hd sn sub ab col dd k0 k1 k2 k3 k5 nwV) ∧ h.Ns N mN ∧ mN "__init__" = none ∧ OwnTail h bmV bm ∧ (∀ v r,PySem.W.mroIn K C v = some r → (Value.ref C :: bm).contains v = r):=by
  unfold PySem.W.excIn at q
  split at q
  · rename_i dd cd sl lk
    split at q
    · rename_i C1 bm k0 k1 k2 k3 n1 k5 em es
      simp only [Bool.and_eq_true,beq_iff_eq,Bool.not_eq_true'] at q
      obtain ⟨⟨⟨⟨⟨q1,q2⟩,q3⟩,q4⟩,q5⟩,q6⟩:=q
      subst q1 q2
      obtain ⟨nm,bs,mro,N,qn,hd,sn,sub,ab,col,del⟩:=cd
      dsimp only at em q3 q5 q6
      subst em q3
      have esl:sl = #[k0,k1,k2,k3,some (.builtin nwV),k5]:=by
        cases sl with
        | mk l => exact congrArg Array.mk es
      subst esl
      refine ⟨bm,N,nm,qn,bs,hd,sn,sub,ab,col,dd,k0,k1,k2,k3,k5,_,KX _ _ lk,.of_isNs (PySem.W.isNs_of_in KX q5),PySem.W.nsMap_none_of_in KX q5 q6,PySem.W.tail_of_in KX q4,fun v r e => ?_⟩
      unfold PySem.W.mroIn PySem.W.clsIn at e
      rw [lk] at e
      first
        | exact Option.some.inj e
        | (simp at e; exact e)
    · cases q
  · cases q
section
variable {X:Cx}
def gRaise (c:PySem.Str) (ga:GA):GS:=fun ρ st => (ga ρ st).thn ρ fun ws st1 => if ws.length ≤ lim then .err c ρ st1 else .bad
theorem js_raise {c:Str} {C:Addr} {e:Expr} {es:List Expr} {ga:GA} {np cpos pos:Pos} (hc:X.calm = true) (O:ExcC X.K c C) (hg:Gl X c) (hm:X.mg c = some (.ref C)) (ha:JA X (e :: es) ga) (hd:(c == ("__debug__":Str)) = false)
    (he:starEach (e :: es) X.env = (false,eval e X.env) :: starEach es X.env) (hpl:(backTo cpos (starEach es X.env)).any (·.1) = false):JS X (.Raise (some (.Call (.Name c np) (e :: es) [] cpos)) none pos) (gRaise c ga):=by
  intro ρ st σ H m D S R p pins s I
  have args:=ha.go (T:=fun vs H1 => ∃ ws st1 m1,PostS X m H (if ws.length ≤ lim then .err c ρ st1 else .bad) D ∧ Ext X.K m H m1 H1 ∧ Sim X.K m1 st1 H1 ∧ RelWs X.K m1 H1 ws vs) S R (PostS.of_thn R p)
    fun ws st1 vs m1 H1 p1 e1 S1 rs => ⟨ws,st1,m1,p1,e1,S1,rs⟩
  obtain ⟨bm,N,nm,qn,bs,hdd,sn,sub,ab,col,dd,k0,k1,k2,k3,k5,mN,hC,hN,hni,T,_⟩:=exc_obj I.ok.mod.kin O.exc
  refine wpAny_Raise_call_subU (C:=C) (nm:=nm) (q:=qn) (N:=N) (bs:=bs) (bm:=bm) (hdct:=hdd) (sn:=sn) (sub:=sub) (ab:=ab) (col:=col) (dd:=dd) (k0:=k0) (k1:=k1) (k2:=k2) (k3:=k3) (k5:=k5) (bmB:=bmV)
    F.excBase_ValueError (by decide) F.excBase_ValueError (mN:=mN) (T.hasType F.excBase_ValueError.hasBase) (I.ok.hd hc) ?_ hni (ld_glob I hg hm ⟨rfl,?_⟩ hd)
  · rw [he]
    show (false || (backTo cpos (starEach es X.env)).any (·.1)) = false
    rw [hpl]
    rfl
  · have go:=args cpos pins s I
    rw [he] at go ⊢
    refine Calls.evalArgs_plain (thn go fun us s1 ⟨vs,H1,I1,r,ws,st1,m1,p1,e1,S1,rs⟩ => ?_)
    by_cases cl:ws.length ≤ lim
    · rw [if_pos cl] at p1
      refine ⟨rfl,by rw [← r.length,← rs.length]; exact lim_le cl,I1.bk _ _ hC,hN.keeps I1.bk,T.keeps I1.bk,fun h2 a M => ?_⟩
      exact p1 σ m1 H1 _ _ e1 S1 (R.mono e1) ⟨C,pins,H1,s1,O.cls,I1,.inr ⟨rfl,a,us,rfl,rfl,rfl,M⟩⟩
    · rw [if_neg cl] at p1; exact False.elim p1
end
end J
namespace J
open PySem PySem.Spec PyProof.Rows L2
structure ExcK (K:PySem.W.Frag) (C:Addr):Prop where
  exc:PySem.W.excIn K C bmV nwV = true
  ga:PySem.W.findIn K (.ref C) "__getattribute__" = some (some (.builtin "BaseException.__getattribute__"))
  gx:PySem.W.findIn K (.ref C) "__getattr__" = some none
  cl:PySem.W.findIn K (.ref C) "__class__" = some (some (.builtin "object.__class__"))
section
variable {prog:Program} {w:World} {A:Around} {E:Value → Shared → Prop} {h:Heap} {g:Array GenState} {d:Drawn} {t:Nat} {os:OsState} {a C:Addr} {o:Obj} {K:PySem.W.Frag}
theorem xc_get {R:Result → Shared → Prop} (Y:K.In h) (Z:ExcK K C) (ha:h.get? a = some o) (hc:o.cls = .ref C) (k:R (.ok (.ret (.ref C))) ⟨h,g,d,t,os⟩) :
    codeAny (model prog w) A (.call (.builtin "getset_descriptor.__get__") ⟨[.builtin "object.__class__",.ref a,.ref C],[]⟩) R ⟨h,g,d,t,os⟩:=by
  obtain ⟨bm,N,nm,qn,bs,hdd,sn,sub,ab,col,dd,k0,k1,k2,k3,k5,mN,hC,hN,hni,T,_⟩:=exc_obj Y Z.exc
  have ty:(⟨h,g,d,t,os⟩:Shared).TypeIs (.builtin "object.__class__") "getset_descriptor":=F.typeOf_object_class
  have own:(Value.ref C :: bm).contains (.type (".".intercalate ("object.__class__".cutAt '.').dropLast)) = true:=by
    rw [F.owner_object_class,List.contains_cons,T.hasType (X:="object") (b:=true) (by decide)]; rfl
  refine codeAny_call_builtin F.slot_gs_get.plain F.entry_gs_get (F.slot_gs_get.check _ _ _ _ _ _ _ _ ty (F.args_gs_get _ _ _) ?_)
  repeat (any_goals (first | assumption | (with_reducible refine wpAny_loadPart_at ha ?_; rw [hc]) | (with_reducible refine wpAny_isSubtype_exc hC ?_; rw [own]) | wp_step))
  refine ⟨Code.quiet_builtin _ (by decide +kernel),codeAny_builtin F.entry_object_class ?_⟩
  repeat (any_goals (first | assumption | (with_reducible refine wpAny_loadPart_at ha ?_; rw [hc]) | wp_step))
theorem xc_entry {tk:Tok} {Q:Fin → Shared → Prop} (Y:K.In h) (Z:ExcK K C) (ha:h.get? a = some o) (hc:o.cls = .ref C) (k:Q (.done (.ret (.ref C))) ⟨h,g,d,t,os⟩) :
    wpAny (model prog w) A (Builtin.«object.__getattribute__» ⟨[.ref a,.str "__class__" tk],[]⟩) Q E ⟨h,g,d,t,os⟩:=by
  have ty:(⟨h,g,d,t,os⟩:Shared).TypeIs (.builtin "object.__class__") "getset_descriptor":=F.typeOf_object_class
  have t1:=F.typeOf_object_class
  have t2:=F.slot_gs_get.lookup
  have t3:=F.slot_gs_set.lookup
  have L:=PySem.W.looks_findIn (M:=model prog w) Y Z.cl
  repeat (any_goals (first | assumption | (with_reducible refine wpAny_loadPart_at ha ?_; rw [hc]) | with_reducible refine L.at ?_ | wp_step))
  refine xc_get Y Z ha hc ?_
  repeat (any_goals (first | assumption | wp_step))
theorem xc_check {M:Model} {nv:Value} {Q:Unit → Shared → Prop} (Y:K.In h) (Z:ExcK K C) (ha:h.get? a = some o) (hc:o.cls = .ref C) (k:Q () ⟨h,g,d,t,os⟩) :
    wpAny M A (checkBuiltinCall "BaseException.__getattribute__" ⟨[.ref a,nv],[]⟩) Q E ⟨h,g,d,t,os⟩:=by
  obtain ⟨bm,N,nm,qn,bs,hdd,sn,sub,ab,col,dd,k0,k1,k2,k3,k5,mN,hC,hN,hni,T,_⟩:=exc_obj Y Z.exc
  have u1:builtinKind "BaseException.__getattribute__" = some .slot:=by decide +kernel
  have u2:splitId "BaseException.__getattribute__" = some ("BaseException","__getattribute__"):=by decide +kernel
  have u3:(Value.ref C :: bm).contains (.type "BaseException") = true:=by rw [List.contains_cons,T.hasType (X:="BaseException") (b:=true) (by decide)]; rfl
  have u4:=F.args_bexc_ga (.ref a) nv
  simp only [checkBuiltinCall,u1,u2]
  refine wpAny_bind ?_
  unfold isInstance
  repeat (first | (with_reducible refine wpAny_loadPart_at ha ?_; rw [hc]) | (with_reducible refine wpAny_isSubtype_exc hC ?_; rw [u3]) | wp_step)
  exact k
theorem xc_by {tk:Tok} {Q:Value → Shared → Prop} (Y:K.In h) (Z:ExcK K C) (ha:h.get? a = some o) (hc:o.cls = .ref C) (k:Q (.ref C) ⟨h,g,d,t,os⟩) :
    wpAny (model prog w) A (getAttrBy (.ref a) (.str "__class__" tk) false) Q E ⟨h,g,d,t,os⟩:=by
  have v1:=F.excAttr_ValueError.ga.bind (.ref a)
  have v2:(Value.builtin "BaseException.__getattribute__" == Value.builtin "object.__getattribute__") = false:=by decide +kernel
  have v3:(onTheHeap (Value.ref C) && Value.builtin "BaseException.__getattribute__" == Value.builtin "object.__getattribute__") = false:=by rw [v2]; rfl
  have v4:(false && onTheHeap (Value.builtin "BaseException.__getattribute__")) = false:=rfl
  have L1:=PySem.W.looks_findIn (M:=model prog w) Y Z.ga
  have L2:=PySem.W.looks_findIn (M:=model prog w) Y Z.gx
  repeat (any_goals (first | assumption | (with_reducible refine wpAny_loadPart_at ha ?_; rw [hc]) | with_reducible refine L1.at ?_ | with_reducible refine L2.at ?_ | wp_step))
  refine codeAny_call_builtin F.excAttr_ValueError.ga.plain F.entry_bexc_ga (xc_check Y Z ha hc (xc_entry Y Z ha hc ?_))
  repeat (any_goals (first | assumption | wp_step))
theorem xc_attr {Q:Option Value → Shared → Prop} (Y:K.In h) (Z:ExcK K C) (ha:h.get? a = some o) (hc:o.cls = .ref C) (k:Q (some (.ref C)) ⟨h,g,d,t + 1,os⟩) :
    wpAny (model prog w) A (getAttr? (.ref a) "__class__") Q E ⟨h,g,d,t,os⟩:=by
  unfold getAttr? getAttrBy?
  repeat (any_goals (first | assumption | with_reducible apply xc_by Y Z ha hc | wp_step))
end
end J
namespace J
open PySem PySem.Spec PyProof.Rows L2
structure Stk (X:Cx):Prop where
  st:X.stack = X.env :: X.outer
  fr:X.env.frame = some X.env.locals
  ex:X.ex = []
theorem objOk_get {P:Program} {w:World} {H:Hp} {h:Heap} {a:Addr} {o:HO} (x:ObjOk P w H h a o):∃ u,h.get? a = some u:=by
  cases o with
  | lst xs => obtain ⟨_,_,_,_,e⟩:=x; exact ⟨_,e⟩
  | tup xs => obtain ⟨_,_,_,⟨ob,e,_⟩,_⟩:=x; exact ⟨_,e⟩
  | dK kvs => obtain ⟨_,_,_,_,ob,_,_,e,_⟩:=x; exact ⟨_,e⟩
  | dT kvs => obtain ⟨_,_,_,_,ob,_,_,e,_⟩:=x; exact ⟨_,e⟩
  | set S n => obtain ⟨ob,_,_,_,e,_⟩:=x; exact ⟨_,e⟩
  | ins C dx fs => obtain ⟨_,_,_,e,_⟩:=x; exact ⟨_,e⟩
  | own y => exact x
  | xd fs => obtain ⟨_,⟨_,_,_,e,_⟩,_⟩:=x; exact ⟨_,e⟩
  | rng lo hi => obtain ⟨_,_,_,e⟩:=x; exact ⟨_,e⟩
  | frz ob u => obtain ⟨e,_⟩:=x; exact ⟨_,e⟩
  | tbl ps => exact ⟨_,x⟩
  | met f y => exact ⟨_,x⟩
  | ext φ => exact x.2.1
section
variable {X:Cx} {pins:List (Addr × Obj)} {σ:St} {Hc H':Hp} {sc s':Shared} {B h2:Heap} {a C:Addr} {a0:Value}
theorem exn_inv (I:Inv X pins σ Hc sc) (os:s'.os = sc.os) (bare:AllBare s'.gens) (un:Un (frs X.stack) [] Hc H' sc.heap s'.heap) (hok:HOk X.prog X.w H' B) (fl:Heap.FlyingW B X.stack a (.ref C) a0 h2) (up:s'.heap.UpToSlots h2)
    (cov:∀ b o,sc.heap.get? b = some o → b ∉ frs X.stack → ∃ o',B.get? b = some o' ∧ (Hc b = none → o' = o)) {tk:Nat} :
    Inv X pins σ (upd H' a (.ext (ExnAt a C))) { s' with heap:=h2,toks:=tk } ∧ H' a = none:=by
  have stay:=fl.1
  obtain ⟨oe,vs,hoe,hcl,hda,_⟩:=fl.first
  have isx:ExnAt a C h2:=⟨oe,hoe,hcl,vs,hda⟩
  have ha:H' a = none:=by
    cases q:H' a with
    | none => rfl
    | some u =>
      obtain ⟨z,e⟩:=objOk_get (hok a u q)
      rw [fl.2.1] at e
      cases e
  have nfr:a ∉ frs X.stack:=fun z => by
    obtain ⟨_,o1,e1,d1⟩:=fl.2.2.1.mem z
    rw [hoe] at e1
    cases e1
    exact d1 vs hda
  have new:∀ o,sc.heap.get? a ≠ some o:=fun o e => by
    obtain ⟨o1,e1,_⟩:=cov a o e nfr
    rw [fl.2.1] at e1
    cases e1
  have ne:∀ b u,H' b = some u → b ≠ a:=fun b u e => ne_of_none e ha
  have sl:∀ b o,sc.heap.get? b = some o → Hc b = none → b ∈ frs X.stack → ∃ sl,h2.get? b = some { o with slots:=sl }:=fun b o e n hb => by
    obtain ⟨s1,e1⟩:=un.slot b o e n hb (by simp)
    obtain ⟨_,o1,e2,d1⟩:=I.stack.mem hb
    rw [e] at e2
    cases e2
    obtain ⟨s2,e3⟩:=up b _ e1 d1
    exact ⟨s2,e3⟩
  refine ⟨?_,ha⟩
  refine I.call' (s':={ s' with heap:=h2,toks:=tk }) (ch:=[]) os ?_ ?_ bare (fun b z => absurd z (by simp))
  · refine ⟨fun b o e n hb _ => ?_,fun b o e n hb _ => sl b o e n hb,fun b o e n _ => ?_,fun b o e _ => ?_,fun b xs h => ?_,fun b o u h => ?_,fun b ps h => ?_⟩
    · obtain ⟨o1,e1,e2⟩:=cov b o e hb
      rw [e2 n] at e1
      exact stay b o e1
    · have ba:b ≠ a:=fun z => by subst z; exact new o e
      rw [upd_ne ba]
      exact un.free b o e n (by simp)
    · by_cases hb:b ∈ frs X.stack
      · obtain ⟨s2,e2⟩:=sl b o e (I.stkFree b hb) hb
        exact ⟨_,e2⟩
      · obtain ⟨o1,e1,_⟩:=cov b o e hb
        exact ⟨o1,stay b o1 e1⟩
    · have q:=un.tups b xs h
      rw [upd_ne (ne b _ q)]
      exact q
    · have q:=un.frzs b o u h
      rw [upd_ne (ne b _ q)]
      exact q
    · obtain ⟨m1,q⟩:=un.tbls b ps h
      refine ⟨m1,?_⟩
      rw [upd_ne (ne b _ q)]
      exact q
  · intro b u e
    by_cases hb:b = a
    · subst hb
      rw [upd_same] at e
      cases e
      exact ⟨isx,⟨oe,hoe⟩,fun h3 h4 p k => let ⟨o1,q1,q2,q3⟩:=p; ⟨o1,k o1 q1,q2,q3⟩⟩
    · rw [upd_ne hb] at e
      exact (hok b u e).stay (fun c v _ q => stay c v q) (fun c q => by rw [upd_ne (ne c _ q)]; exact q) fun c xs q => by rw [upd_ne (ne c _ q)]; exact q
end
theorem catch_own {M:Model} {A:Around} {E:Value → Shared → Prop} {s:Shared} {K:PySem.W.Frag} {a C D:Addr} {o:Obj} {b:Bool} {Q:Bool → Shared → Prop} (Y:K.In s.heap) (ZC:PySem.W.excIn K C bmV nwV = true) (ZD:PySem.W.excIn K D bmV nwV = true)
    (hm:PySem.W.mroIn K C (.ref D) = some b) (ha:s.heap.get? a = some o) (hc:o.cls = .ref C) (k:Q b s):wpAny M A (excMatches (.ref a) (.ref D)) Q E s:=by
  obtain ⟨h,g,d,t,os⟩:=s
  obtain ⟨bm,N,nm,qn,bs,hdd,sn,sub,ab,col,dd,k0,k1,k2,k3,k5,mN,hC,hN,hni,T,mr⟩:=exc_obj Y ZC
  obtain ⟨bm',N',nm',qn',bs',hdd',sn',sub',ab',col',dd',k0',k1',k2',k3',k5',mN',hD,hN',hni',T',mr'⟩:=exc_obj Y ZD
  have e1:(Value.ref C :: bm).contains (.ref D) = b:=mr _ _ hm
  have e2:(Value.ref D :: bm').contains (.type "BaseException") = true:=by rw [List.contains_cons,T'.hasType (X:="BaseException") (b:=true) (by decide)]; rfl
  have f:=tc_notTuple
  unfold excMatches
  repeat (first | (with_reducible refine wpAny_loadPart_at ha ?_; rw [hc]) | with_reducible refine wpAny_loadPart_at hD ?_ | (with_reducible refine wpAny_isSubtype_exc hD ?_; rw [e2]) | (with_reducible refine wpAny_isSubtype_exc hC ?_; rw [e1]) | wp_step)
  cases b <;> (wp_walk; exact k)
end J
namespace J
open PySem PySem.Spec PyProof.Rows L2
theorem kitx_exn {K:PySem.W.Frag} {a C:Addr} (Z:ExcK K C):PySem.W.KitX K (.ref a) (.ref C) (ExnAt a C) where
  ty:=fun M h _ p => by
    obtain ⟨o,h1,h2,_⟩:=p
    rw [← h2]
    exact (PySem.W.Looks.ld h1).andThen .now
  it:=fun M h Y _ => by
    obtain ⟨bm,N,nm,qn,bs,hdd,sn,sub,ab,col,dd,k0,k1,k2,k3,k5,mN,hC,_⟩:=exc_obj Y Z.exc
    intro A' Q' E' s' k q
    unfold isType loadHead
    exact wpAny_bind (wpAny_loadPart (k _ _ hC) (wpAny_pure q))
  ne:=fun h tp dd its n sl Y e => by
    obtain ⟨bm,N,nm,qn,bs,hdd,sn,sub,ab,col,dd',k0,k1,k2,k3,k5,mN,hC,_⟩:=exc_obj Y Z.exc
    refine Bool.eq_false_iff.mpr fun q => ?_
    have z:C = tp:=Value.ref.inj (beq_iff_eq.mp q)
    subst z
    rw [hC] at e
    have z2:Value.type "type" = Value.type "tuple":=congrArg Obj.cls (Option.some.inj e)
    exact absurd z2 (by decide)
  ca:=fun {prog w A E Q s} Y p k => by
    obtain ⟨o,h1,h2,_⟩:=p
    obtain ⟨h,g,d,t,os⟩:=s
    exact xc_attr Y Z h1 h2 k
abbrev Tab:=List ((PySem.Str × PySem.Str) × Bool)
abbrev TabT:=List ((PySem.Str × String) × Bool)
structure TabOk (K:PySem.W.Frag) (tb:Tab) (tt:TabT) (tc:Tab):Prop where
  own:∀ c d b C D,tb.lookup (c,d) = some b → ClsAt K c C → ClsAt K d D → ExcK K C ∧ PySem.W.kitOne K (.ref C) (.ref D) = some b
  cat:∀ c d b C D,tc.lookup (c,d) = some b → ClsAt K c C → ClsAt K d D → PySem.W.excIn K C bmV nwV = true ∧ PySem.W.excIn K D bmV nwV = true ∧ PySem.W.mroIn K C (.ref D) = some b
  typ:∀ c T b C,tt.lookup (c,T) = some b → ClsAt K c C → ExcK K C ∧ PySem.W.kitOne K (.ref C) (.type T) = some b
def anyTab (tb:Tab) (c:PySem.Str):List Wv → Option Bool
  | [] => some false
  | .cls d :: r => (match tb.lookup (c,d) with
    | some true => some true
    | some false => anyTab tb c r
    | none => none)
  | _ => none
theorem anyTab_ok {K:PySem.W.Frag} {m:Mp} {H:Hp} {tb:Tab} {tt:TabT} {tc:Tab} (O:TabOk K tb tt tc) {c:PySem.Str} {C:Addr} (hC:ClsAt K c C):∀ {ds:List Wv} {vs:List V} {its:List Value} {b:Bool},RelWs K m H ds vs → Vals vs its → anyTab tb c ds = some b → PySem.W.kitAny K (.ref C) its = some b
  | [],vs,its,b,r,v,e => by
    unfold RelWs at r
    subst r
    cases v
    cases e
    rfl
  | w :: ds,vs,its,b,r,v,e => by
    unfold RelWs at r
    obtain ⟨x,t,rfl,r1,r2⟩:=r
    cases v with
    | cons h1 h2 =>
      cases w with
      | cls d =>
        unfold RelW at r1
        obtain ⟨D,rfl,hD⟩:=r1
        cases h1
        unfold anyTab at e
        unfold PySem.W.kitAny
        cases q:tb.lookup (c,d) with
        | none => rw [q] at e; cases e
        | some k =>
          rw [q] at e
          obtain ⟨_,z3⟩:=O.own c d k C D q hC hD
          rw [z3]
          cases k with
          | true => cases e; rfl
          | false => exact anyTab_ok O hC r2 h2 e
      | _ => cases e
def oIsA (tb:Tab) (tt:TabT):List Wv → Hs → Re Wv
  | [.exn c,.cls d],st => (match tb.lookup (c,d) with | some b => .ok (.bl b) st | none => .bad)
  | [.exn c,.ty T],st => (match tt.lookup (c,T) with | some b => .ok (.bl b) st | none => .bad)
  | [.exn c,.tup (.cls d :: ds)],st => (match anyTab tb c (.cls d :: ds) with | some b => .ok (.bl b) st | none => .bad)
  | ws,st => oIsI ws st
section
variable {X:Cx}
theorem call_isA:CallR X (.builtin "isinstance") (fun vs H Q => ∃ a C v c b,vs = [.ref a,v] ∧ H a = some (.ext (ExnAt a C)) ∧ ExcK X.K C ∧ RelV v c ∧ PySem.W.kitOne X.K (.ref C) c = some b ∧ Q (.bl b) H):=by
  intro pins s σ H xs us Q I r h
  obtain ⟨a,C,v,c,b,rfl,ha,Z,rc,e,q⟩:=h
  obtain ⟨u,u',rfl,r1,r2⟩:=vals2 r
  cases r1
  have uc:u' = c:=by
    cases v with
    | int i => obtain ⟨t,rfl⟩:=rc; cases e
    | str i => obtain ⟨t,rfl⟩:=rc; cases e
    | byt i => obtain ⟨t,rfl⟩:=rc; cases e
    | flt i => obtain ⟨t,rfl⟩:=rc; cases e
    | non => cases rc; cases r2; rfl
    | bl i => cases rc; cases r2; rfl
    | ref i => cases rc; cases r2; rfl
    | ty i => cases rc; cases r2; rfl
  subst uc
  exact PySem.W.kia_one (kitx_exn Z) I.kIn (I.hok a _ ha).1 e (by intro z; cases z) fun tk => ⟨.bl b,H,I.tok tk,rfl,q⟩
theorem call_isAT:CallR X (.builtin "isinstance") (fun vs H Q => ∃ a C p xs b,vs = [.ref a,.ref p] ∧ H a = some (.ext (ExnAt a C)) ∧ ExcK X.K C ∧ SqT X.K H p xs ∧ (∀ its,Vals xs its → PySem.W.kitAny X.K (.ref C) its = some b) ∧ Q (.bl b) H):=by
  intro pins s σ H xs us Q I r h
  obtain ⟨a,C,p,ys,b,rfl,ha,Z,hT,e,q⟩:=h
  obtain ⟨u,u',rfl,r1,r2⟩:=vals2 r
  cases r1
  cases r2
  obtain ⟨its,rv,⟨o,g1,g2,n,g3⟩,z⟩:=I.tuple hT
  obtain ⟨oc,od,oda,osl⟩:=o
  cases g2
  cases g3
  exact PySem.W.kia_tup (kitx_exn Z) I.kIn (I.hok a _ ha).1 g1 (e its rv) (by intro z; cases z) fun tk => ⟨.bl b,H,I.tok tk,rfl,q⟩
theorem cw_isA {tb:Tab} {tt:TabT} {tc:Tab} (O:TabOk X.K tb tt tc):CallW X (.builtin "isinstance") (oIsA tb tt):=by
  obtain ⟨r,h1,h2⟩:=cw_isI (X:=X)
  refine ⟨_,call_isA.or (call_isAT.or h1),fun ws vs st H m Q S rs p => ?_⟩
  unfold oIsA at p
  split at p
  · rename_i _ c d
    cases e:tb.lookup (c,d) with
    | none => rw [e] at p; exact False.elim p
    | some b =>
      rw [e] at p
      obtain ⟨v,v',rfl,r1,r2⟩:=rel2 rs
      unfold RelW at r1 r2
      obtain ⟨a,C,rfl,hC,ha⟩:=r1
      obtain ⟨D,rfl,hD⟩:=r2
      obtain ⟨z1,z3⟩:=O.own c d b C D e hC hD
      exact .inl ⟨a,C,.ref D,.ref D,b,rfl,ha,z1,rfl,z3,p _ m H Ext.refl S mkBl⟩
  · rename_i _ c T
    cases e:tt.lookup (c,T) with
    | none => rw [e] at p; exact False.elim p
    | some b =>
      rw [e] at p
      obtain ⟨v,v',rfl,r1,r2⟩:=rel2 rs
      unfold RelW at r1 r2
      obtain ⟨a,C,rfl,hC,ha⟩:=r1
      subst r2
      obtain ⟨z1,z3⟩:=O.typ c T b C e hC
      exact .inl ⟨a,C,.ty T,.type T,b,rfl,ha,z1,rfl,z3,p _ m H Ext.refl S mkBl⟩
  · rename_i _ c d ds
    cases e:anyTab tb c (.cls d :: ds) with
    | none => rw [e] at p; exact False.elim p
    | some b =>
      rw [e] at p
      obtain ⟨v,v',rfl,r1,r2⟩:=rel2 rs
      unfold RelW at r1
      obtain ⟨a,C,rfl,hC,ha⟩:=r1
      have r2':=r2
      unfold RelW at r2'
      obtain ⟨t,xs,rfl,hT,rx⟩:=r2'
      have Z:ExcK X.K C:=by
        have rx':=rx
        unfold RelWs at rx'
        obtain ⟨x,r,_,rd,_⟩:=rx'
        unfold RelW at rd
        obtain ⟨D,_,hD⟩:=rd
        unfold anyTab at e
        cases q:tb.lookup (c,d) with
        | none => rw [q] at e; cases e
        | some k => exact (O.own c d k C D q hC hD).1
      exact .inr (.inl ⟨a,C,t,xs,b,rfl,ha,Z,SqT.of hT,fun its hv => anyTab_ok O hC rx hv e,p _ m H Ext.refl S mkBl⟩)
  · exact .inr (.inr (h2 ws vs st H m Q S rs p))
end
section
variable {X:Cx} {pins:List (Addr × Obj)} {σ:St} {H:Hp} {s:Shared}
abbrev reX (X:Cx) (A':Around) (cm:Bool) (pn:List (Addr × Obj)) (E:Value → Shared → Prop):Cx:={ X with A:=A',calm:=cm,pn:=pn,xe:=E }
theorem ok_re {A':Around} {cm:Bool} {pn:List (Addr × Obj)} {E:Value → Shared → Prop} (ok:X.Ok) (hf:A'.frames = X.A.frames) (hd:cm = true → A'.handled = none):(reX X A' cm pn E).Ok :=
  ⟨ok.mod,ok.kind,ok.glob,ok.blt,ok.above,ok.inj,ok.has,ok.cab,hd,hf.trans ok.frames,ok.stk,ok.exf,ok.bs,ok.bsz,ok.noex,ok.exfs,ok.funs,ok.frf⟩
theorem inv_re {A':Around} {cm:Bool} {E:Value → Shared → Prop} (I:Inv X pins σ H s) (hf:A'.frames = X.A.frames) (hd:cm = true → A'.handled = none):Inv (reX X A' cm (X.pn ++ pins) E) [] σ H s :=
  ⟨ok_re I.ok hf hd,I.os,I.bare,I.base,I.loc,I.cell,I.free,I.freeC,fun p hp => I.pin p (by simpa using hp),I.hok,I.len⟩
theorem inv_er {A':Around} {cm:Bool} {E:Value → Shared → Prop} {pins':List (Addr × Obj)} (ok:X.Ok) (I:Inv (reX X A' cm (X.pn ++ pins) E) pins' σ H s):Inv X pins σ H s :=
  ⟨ok,I.os,I.bare,I.base,I.loc,I.cell,I.free,I.freeC,fun p hp => I.pin p (List.mem_append_left _ hp),I.hok,I.len⟩
theorem sp_er {A':Around} {cm:Bool} {E:Value → Shared → Prop} {D:Ends} {f:Flow} (ok:X.Ok) (h:SP (reX X A' cm (X.pn ++ pins) E) [] D f s):SP X pins D f s:=by
  cases f with
  | next => obtain ⟨σ',H',I,q⟩:=h; exact ⟨σ',H',inv_er ok I,q⟩
  | brk => obtain ⟨σ',H',I,q⟩:=h; exact ⟨σ',H',inv_er ok I,q⟩
  | cont => obtain ⟨σ',H',I,q⟩:=h; exact ⟨σ',H',inv_er ok I,q⟩
  | ret u => obtain ⟨v,σ',H',I,r,q⟩:=h; exact ⟨v,σ',H',inv_er ok I,r,q⟩
end
theorem name_gone {X:Cx} {pins:List (Addr × Obj)} {σ:St} {H:Hp} {s:Shared} {M:Model} {A:Around} {E:Value → Shared → Prop} {i:Nat} {n:Str} {pos:Pos} {Q:Unit → Shared → Prop} (I:Inv X pins σ H s) (hN:X.N.Nodup) (hi:X.N[i]? = some n) (hx:X.env.scope.names.lookup n = some .local)
    (k:∀ s',Inv X pins (σ.set i none) H s' → Q () s'):wpAny M A (do bindName X.env n .none; unbindBehindTheSuite X.env n pos) Q E s:=by
  obtain ⟨m,ns,lk⟩:=id I.loc
  have pl:(X.env.scope.kind == .class || (X.env.scope.kind == .module && X.env.locals != X.env.globals)) = false:=by rw [I.ok.kind]; rfl
  have up:∀ b o,X.s₀.heap.get? b = some o → b ≠ X.env.locals:=fun b o e => old_ne I e
  refine wpAny_nameGoes_keeps hx ns pl fun h2 v ns2 sb => k _ ?_
  obtain ⟨oL,_,_,hoL,_⟩:=id ns
  refine ⟨I.ok,I.os,I.bare,⟨fun b o e f hb hx => (sb.2 b (up b o e)).trans (I.base.keep b o e f hb hx),fun b o e f hb hx => ?_,I.base.free,fun b o e hx => ?_,I.base.tups,I.base.frzs,I.base.tbls⟩,⟨_,ns2,fun j y w e1 e2 e3 => ?_⟩,fun y c e => ?_,I.free,I.freeC,fun p hp => ?_,fun b u e => ?_,by simpa using I.len⟩
  · obtain ⟨sl,e1⟩:=I.base.slot b o e f hb hx
    exact ⟨sl,(sb.2 b (up b o e)).trans e1⟩
  · obtain ⟨o1,e1⟩:=I.base.there b o e hx
    exact ⟨o1,(sb.2 b (up b o e)).trans e1⟩
  · have ji:j ≠ i:=fun z => by
      subst z
      have:j < σ.length:=by have q:=(List.getElem?_eq_some_iff.mp e2).1; simpa using q
      rw [List.getElem?_set_self this] at e2
      cases e2
    rw [List.getElem?_set_ne (Ne.symm ji)] at e2
    obtain ⟨u,r,q⟩:=lk j y w e1 e2 e3
    refine ⟨u,r,?_⟩
    rcases q with ⟨q1,q2⟩ | ⟨q1,c,q2,z⟩
    · have yn:y ≠ n:=fun z => ji (nodup_ix hN e1 (z ▸ hi))
      exact .inl ⟨q1,by simp [yn,q2]⟩
    · exact .inr ⟨q1,c,q2,z.sameBut sb (I.cne y c q2)⟩
  · obtain ⟨w,z⟩:=I.cell y c e
    exact ⟨w,z.sameBut sb (I.cne y c e)⟩
  · obtain ⟨e,f,ne,nf,d⟩:=I.pin p hp
    exact ⟨(sb.2 p.1 ne).trans e,f,ne,nf,d⟩
  · refine (I.hok b u e).stay (fun c w hc q => (sb.2 c fun z => ?_).trans q) (fun _ q => q) fun _ _ q => q
    have fr:=I.free
    rcases hc with hc | hc
    · rw [← z,hc,e] at fr; cases fr
    · rw [← z,hc] at fr; cases fr
end J
namespace J
open PySem PySem.Spec PyProof.Rows L2
def gTry (cat:PySem.Str → Option Bool) (i:Nat) (gb gs:GS):GS:=fun ρ st => match gb ρ st with
  | .err c ρ' st' => (match cat c with
    | some true => (match gs (ρ'.set i (some (.exn c))) st' with
      | .nx ρ2 st2 => .nx (ρ2.set i none) st2
      | .rt w st2 => .rt w st2
      | _ => .bad)
    | _ => .bad)
  | r => r
theorem RelEnv.unset {K:PySem.W.Frag} {m:Mp} {H:Hp} {ρ:Rho} {σ:St} (R:RelEnv K m H ρ σ) (i:Nat):RelEnv K m H (ρ.set i none) (σ.set i none):=by
  refine ⟨by simp [R.len],fun j w e => ?_⟩
  have ji:i ≠ j:=fun z => by
    subst z
    have:i < ρ.length:=by have q:=(List.getElem?_eq_some_iff.mp e).1; simpa using q
    rw [List.getElem?_set_self this] at e
    cases e
  rw [List.getElem?_set_ne ji] at e ⊢
  exact R.get j w e
section
variable {X:Cx}
theorem land_made {M:Model} {A:Around} {E:Value → Shared → Prop} {s:Shared} {base h:Heap} {env:Env} {outer:List Env} {L a:Addr} {cls:Value} {args:List Value} {Q:Unit → Shared → Prop} (hfr:A.frames = some (env :: outer)) (hf:env.frame = some L)
    (st:base.StaysIn h) (fs:h.FunFrames base (env :: outer)) (mk:Heap.MadeExcOf h s.heap a cls args) (k:∀ h' a0,Heap.FlyingW base (env :: outer) a cls a0 h' → s.heap.UpToSlots h' → Q () { s with heap:=h' }) :
    wpAny M A (noteFrame (.ref a) env) (fun _ s2 => wpAny M A (setFlight (.ref a) none) Q E s2) E s:=by
  obtain ⟨t,e1,e2,e3⟩:=mk.there
  have fresh:∀ b,h.get? b = none → base.get? b = none:=fun b hb => by
    cases q:base.get? b with
    | none => rfl
    | some o' => have z:=st b o' q; rw [hb] at z; cases z
  have fs':=fs.of_keeps (h':=s.heap) fun b o hb _ => ⟨o,mk.keeps b o hb,rfl⟩
  unfold noteFrame
  simp only [hf]
  refine wpAny_bind (wpAny_field e1 rfl (x:=.none) rfl ?_)
  rw [if_neg (by decide)]
  refine wpAny_newEntryW hfr fs' hf e1 (fun b o hb => mk.keeps b o (st b o hb)) (fresh a mk.new) rfl (by simp) (a0:=.ref t) rfl fun h' lw => ?_
  obtain ⟨l1,l2,l3,l4⟩:=lw
  exact k h' (.ref t) ⟨l1,fresh a mk.new,l2,l3⟩ l4
theorem land {pins:List (Addr × Obj)} {σ:St} {Hc H':Hp} {sc s':Shared} {C:Addr} {e:Value} {E:Value → Shared → Prop} {Q:Unit → Shared → Prop} (K0:Stk X) (I:Inv X pins σ Hc sc)
    (r:Flown X.prog X.w X.stack Hc sc H' (.ref C) e s' ∨ (H' = Hc ∧ ∃ a args,e = .ref a ∧ s'.os = sc.os ∧ s'.gens = sc.gens ∧ Heap.MadeExcOf sc.heap s'.heap a (.ref C) args))
    (k:∀ (a:Addr) (a0:Value) (B h5:Heap),e = .ref a → Heap.FlyingW B X.stack a (.ref C) a0 h5 → (∀ h6 tk,Heap.FlyingW B X.stack a (.ref C) a0 h6 → h5.UpToSlots h6 → Inv X pins σ (upd H' a (.ext (ExnAt a C))) { s' with heap:=h6,toks:=tk }) → H' a = none → Q () { s' with heap:=h5 }) :
    wpAny (model X.prog X.w) X.A (noteFrame e X.env) (fun _ s2 => wpAny (model X.prog X.w) X.A (setFlight e none) Q E s2) E s':=by
  have hfr:X.A.frames = some (X.env :: X.outer):=by rw [I.ok.frames,K0.st]
  rcases r with ⟨a,a0,B,rfl,os,bare,un,hok,fl,cov⟩ | ⟨rfl,a,args,rfl,ho,hg,M⟩
  · have fl':Heap.FlyingW B (X.env :: X.outer) a (.ref C) a0 s'.heap:=by rw [← K0.st]; exact fl
    refine wpAny_looks_onW hfr K0.fr fl' fun h4 hd4 up4 => ?_
    refine wpAny_landsW hd4 fun h5 fl5 up5 => ?_
    rw [← K0.st] at fl5
    exact k a a0 B h5 rfl fl5 (fun h6 tk fl6 up6 => (exn_inv I os bare un hok fl6 ((up4.trans up5).trans up6) cov).1) (exn_inv (tk:=0) I os bare un hok fl5 (up4.trans up5) cov).2
  · have fs:sc.heap.FunFrames (PySem.W.hideAll sc.heap (frs X.stack)) (X.env :: X.outer):=by
      rw [← K0.st]
      exact PySem.W.funFrames_hide I.stack fun env he b hb => List.mem_filterMap.mpr ⟨env,he,hb⟩
    refine land_made (base:=PySem.W.hideAll sc.heap (frs X.stack)) hfr K0.fr (fun b o q => PySem.W.of_hideAll _ q) fs M fun h5 a0 fl5 up5 => ?_
    rw [← K0.st] at fl5
    have bare:AllBare s'.gens:=by rw [hg]; exact I.bare
    have hok:HOk X.prog X.w H' (PySem.W.hideAll sc.heap (frs X.stack)):=hok_hide I.hok I.stkFree
    have cov:∀ b o,sc.heap.get? b = some o → b ∉ frs X.stack → ∃ o',(PySem.W.hideAll sc.heap (frs X.stack)).get? b = some o' ∧ (H' b = none → o' = o):=fun b o q hb => ⟨o,PySem.W.hideAll_get _ q hb,fun _ => rfl⟩
    exact k a a0 _ h5 rfl fl5 (fun h6 tk fl6 up6 => (exn_inv I ho bare (Un.kept M.keeps) hok fl6 (up5.trans up6) cov).1) (exn_inv (tk:=0) I ho bare (Un.kept M.keeps) hok fl5 up5 cov).2
theorem js_try {x n:Str} {D:Addr} {i:Nat} {body suite:List Stmt} {b₀:Stmt} {gb gs:GS} {np hp pos:Pos} {tb:Tab} {tt:TabT} {tc:Tab} (K0:Stk X) (hN:X.N.Nodup) (hi:X.N[i]? = some n) (hx:X.env.scope.names.lookup n = some .local) (hc:X.calm = true) (O:TabOk X.K tb tt tc)
    (hg:Gl X x) (hm:X.mg x = some (.ref D)) (hD:ClsAt X.K x D) (hd:(x == ("__debug__":Str)) = false)
    (hb:∀ (pn:List (Addr × Obj)) (E:Value → Shared → Prop),JSs (reX X X.A true pn E) body gb) (hs:∀ (e:Value) (pn:List (Addr × Obj)) (E:Value → Shared → Prop),JSs (reX X (X.A.mark (some e)) false pn E) (b₀ :: suite) gs) :
    JS X (.Try body [.ExceptHandler (some (.Name x np)) (some n) (b₀ :: suite) hp] [] [] pos) (gTry (fun c => tc.lookup (c,x)) i gb gs):=by
  intro ρ st σ H m D' S R p pins s I
  refine wpAny_Try_except ?_
  let hx':Value → Shared → Prop:=fun e s1 => wpAny (model X.prog X.w) X.A (noteFrame e X.env) (fun _ s2 => wpAny (model X.prog X.w) X.A (setFlight e none) (fun _ s3 =>
    wpAny (model X.prog X.w) X.A (handleBy e X.env [.ExceptHandler (some (.Name x np)) (some n) (b₀ :: suite) hp]) (SP X pins D') X.xe s3) X.xe s2) X.xe s1
  have hA:X.A.handled = none:=I.ok.hd hc
  have Ib:Inv (reX X X.A true (X.pn ++ pins) hx') [] σ H s:=inv_re I rfl fun _ => hA
  have post:PostS (reX X X.A true (X.pn ++ pins) hx') m H (gb ρ st) D':=by
    unfold gTry at p
    cases eb:gb ρ st with
    | nx ρ1 st1 => rw [eb] at p; exact p
    | rt w1 st1 => rw [eb] at p; exact p
    | bk ρ1 st1 => rw [eb] at p; exact p
    | ct ρ1 st1 => rw [eb] at p; exact p
    | bad => rw [eb] at p; exact p
    | err c ρ1 st1 =>
      rw [eb] at p
      dsimp only at p
      cases ec:tc.lookup (c,x) with
      | none => rw [ec] at p; exact False.elim p
      | some bc =>
        cases bc with
        | false => rw [ec] at p; exact False.elim p
        | true =>
          rw [ec] at p
          dsimp only at p
          intro σ1 m1 H1 e s1 e1 S1 R1 rz
          obtain ⟨C,pins',Hc,sc,hC,Ic,rz⟩:=rz
          obtain ⟨zC,zD,hmro⟩:=O.cat c x true C D ec hC hD
          refine land K0 (inv_er I.ok Ic) rz fun a a0 B h5 ea fl5 inv hn => ?_
          subst ea
          have I5:Inv X pins σ1 (upd H1 a (.ext (ExnAt a C))) { s1 with heap:=h5 }:=inv h5 s1.toks fl5 (Heap.UpToSlots.refl _)
          obtain ⟨o5,ho5,hc5,_⟩:=(I5.hok a _ upd_same).1
          have Im:Inv (reX X (X.A.mark (some (.ref a))) false (X.pn ++ pins) fun _ _ => False) [] σ1 (upd H1 a (.ext (ExnAt a C))) { s1 with heap:=h5 }:=inv_re I5 rfl (fun z => by cases z)
          refine wpAny_handleBy_cons (codeAny_handlers_test (ld_glob Im hg hm ?_ hd)) (by intro q; cases q)
          refine catch_own (b:=true) Im.kIn zC zD hmro ho5 hc5 ?_
          refine codeAny_handlers_suite_as ?_
          refine lands_againW fl5 fun h6 fl6 up6 => ?_
          have I6:=inv h6 s1.toks fl6 up6
          have e6:Ext X.K m1 H1 m1 (upd H1 a (.ext (ExnAt a C))):=Ext.upd (.inl hn)
          have S6:Sim X.K m1 st1 (upd H1 a (.ext (ExnAt a C))):=S1.fresh hn
          have rv:RelW X.K m1 (upd H1 a (.ext (ExnAt a C))) (.exn c) (.ref a):=by unfold RelW; exact ⟨a,C,rfl,hC,upd_same⟩
          refine store_ok (v:=.ref a) I6 hN hi (.inl hx) rfl (fun s7 I7 => ?_) (.inr hx)
          have I7':Inv (reX X (X.A.mark (some (.ref a))) false (X.pn ++ pins) fun _ _ => False) [] (σ1.set i (some (.ref a))) (upd H1 a (.ext (ExnAt a C))) s7:=inv_re I7 rfl (fun z => by cases z)
          cases es:gs (ρ1.set i (some (.exn c))) st1 with
          | nx ρ2 st2 =>
            rw [es] at p
            let D2:Ends:={ nx:=fun σ' H' => D'.nx (σ'.set i none) H',rt:=fun _ _ => False,bk:=fun _ _ => False,ct:=fun _ _ => False }
            have go:=hs (.ref a) (X.pn ++ pins) (fun _ _ => False) (ρ1.set i (some (.exn c))) st1 (σ1.set i (some (.ref a))) _ m1 D2 S6 ((R1.mono e6).set i rv) (by
              rw [es]
              exact fun σ' m' H' e' S' R' => p (σ'.set i none) m' H' (e1.trans (e6.trans e')) S' (RelEnv.unset R' i)) [] s7 I7'
            refine wpAny_mono go (fun f s8 h8 => ?_) fun _ _ z => z.elim
            cases f with
            | next =>
              obtain ⟨σ8,H8,I8,q8⟩:=h8
              exact name_gone (inv_er I.ok I8) hN hi hx fun s9 I9 => ⟨_,H8,I9,q8⟩
            | brk => obtain ⟨_,_,_,q8⟩:=h8; exact q8.elim
            | cont => obtain ⟨_,_,_,q8⟩:=h8; exact q8.elim
            | ret u => obtain ⟨_,_,_,_,_,q8⟩:=h8; exact q8.elim
          | rt w2 st2 =>
            rw [es] at p
            let D2:Ends:={ nx:=fun _ _ => False,rt:=D'.rt,bk:=fun _ _ => False,ct:=fun _ _ => False }
            have go:=hs (.ref a) (X.pn ++ pins) (fun _ _ => False) (ρ1.set i (some (.exn c))) st1 (σ1.set i (some (.ref a))) _ m1 D2 S6 ((R1.mono e6).set i rv) (by
              rw [es]
              exact fun v' m' H' e' S' R' => p v' m' H' (e1.trans (e6.trans e')) S' R') [] s7 I7'
            refine wpAny_mono go (fun f s8 h8 => ?_) fun _ _ z => z.elim
            cases f with
            | next => obtain ⟨_,_,_,q8⟩:=h8; exact q8.elim
            | brk => obtain ⟨_,_,_,q8⟩:=h8; exact q8.elim
            | cont => obtain ⟨_,_,_,q8⟩:=h8; exact q8.elim
            | ret u =>
              obtain ⟨v8,σ8,H8,I8,r8,q8⟩:=h8
              exact name_gone (inv_er I.ok I8) hN hi hx fun s9 I9 => ⟨v8,_,H8,I9,r8,q8⟩
          | bk ρ2 st2 => rw [es] at p; exact False.elim p
          | ct ρ2 st2 => rw [es] at p; exact False.elim p
          | err c2 ρ2 st2 => rw [es] at p; exact False.elim p
          | bad => rw [es] at p; exact False.elim p
  refine wpAny_mono (hb (X.pn ++ pins) hx' ρ st σ H m D' S R post [] s Ib) (fun f s1 h1 => ?_) fun e s1 h1 => h1
  have h2:=sp_er I.ok h1
  cases f with
  | next => exact wpAny_execs_nil h2
  | brk => exact h2
  | cont => exact h2
  | ret u => exact h2
end
end J
namespace J
open PySem PySem.Spec PyProof.Rows L2
section
variable {X:Cx}
def oStr:List Wv → Hs → Re Wv
  | [.int i],st => if i.natAbs.log2 < 1920 then .ok (.str (toString i:String)) st else .bad
  | _,_ => .bad
def mApp (o v:Wv) (st:Hs):Re Wv:=match o with
  | .ref l => (match st[l]? with
    | some (.lst ws) => if ws.length < lim then .ok .non (st.set l (.lst (ws ++ [v]))) else .bad
    | _ => .bad)
  | _ => .bad
def mExt (o v:Wv) (st:Hs):Re Wv:=match o,v with
  | .ref l,.ref k => (match st[l]?,st[k]? with
    | some (.lst ws),some (.lst zs) => if ws.length + zs.length ≤ lim then .ok .non (st.set l (.lst (ws ++ zs))) else .bad
    | _,_ => .bad)
  | _,_ => .bad
def gMeth (mt:Wv → Wv → Hs → Re Wv) (go ga:GE):GE:=fun ρ st => (go ρ st).bind fun o st1 => match o with
  | .ref l => (match lstOf st1 l with
    | some _ => (ga ρ st1).bind fun v st2 => (mt o v st2).nox
    | none => .bad)
  | _ => .bad
def MtW (X:Cx) (id:String) (mt:Wv → Wv → Hs → Re Wv):Prop:=∃ r,MtR X id r ∧ ∀ (o w:Wv) (x v:V) (st:Hs) (H:Hp) (m:Mp) (Q:VK),Sim X.K m st H → RelW X.K m H o x → RelW X.K m H w v → PostO X.K m H (mt o w st) Q → r x [v] H Q
theorem mw_app:MtW X "list.append" mApp:=⟨_,mt_append,fun o w x v st H m Q S ro rw' p => by
  cases o with
  | ref l =>
    unfold RelW at ro
    obtain ⟨a,rfl,ha⟩:=ro
    have p':PostO X.K m H (match st[l]? with | some (.lst ws) => if ws.length < lim then .ok .non (st.set l (.lst (ws ++ [w]))) else .bad | _ => .bad) Q:=p
    cases e:st[l]? with
    | none => rw [e] at p'; exact False.elim p'
    | some ob =>
      cases ob with
      | dct kvs => rw [e] at p'; exact False.elim p'
      | dcT kvs => rw [e] at p'; exact False.elim p'
      | scr ns => rw [e] at p'; exact False.elim p'
      | lst ws =>
        rw [e] at p'
        dsimp only at p'
        by_cases c:ws.length < lim
        · rw [if_pos c] at p'
          obtain ⟨xs,h1,h2⟩:=S.lstAt ha e
          have e4:Ext X.K m H m (upd H a (.lst (xs ++ [v]))):=Ext.upd (.inr ⟨xs,h1⟩)
          exact ⟨a,xs,v,rfl,rfl,h1,by rw [← h2.length]; exact lim_lt c,p' _ m _ e4 (S.write ha e (h2.append (RelWs.cons rw' RelWs.nil))) mkNon⟩
        · rw [if_neg c] at p'; exact False.elim p'
  | _ => exact False.elim p⟩
theorem mw_ext:MtW X "list.extend" mExt:=⟨_,mt_extend,fun o w x v st H m Q S ro rw' p => by
  cases o with
  | ref l =>
    cases w with
    | ref k =>
      unfold RelW at ro rw'
      obtain ⟨a,rfl,ha⟩:=ro
      obtain ⟨b,rfl,hb⟩:=rw'
      have p':PostO X.K m H (match st[l]?,st[k]? with | some (.lst ws),some (.lst zs) => if ws.length + zs.length ≤ lim then .ok .non (st.set l (.lst (ws ++ zs))) else .bad | _,_ => .bad) Q:=p
      cases e:st[l]? with
      | none => rw [e] at p'; exact False.elim p'
      | some ob =>
        cases ob with
        | dct kvs => rw [e] at p'; exact False.elim p'
        | dcT kvs => rw [e] at p'; exact False.elim p'
        | scr ns => rw [e] at p'; exact False.elim p'
        | lst ws =>
          cases e2:st[k]? with
          | none => rw [e,e2] at p'; exact False.elim p'
          | some ob2 =>
            cases ob2 with
            | dct kvs => rw [e,e2] at p'; exact False.elim p'
            | dcT kvs => rw [e,e2] at p'; exact False.elim p'
            | scr ns => rw [e,e2] at p'; exact False.elim p'
            | lst zs =>
              rw [e,e2] at p'
              dsimp only at p'
              by_cases c:ws.length + zs.length ≤ lim
              · rw [if_pos c] at p'
                obtain ⟨xs,h1,h2⟩:=S.lstAt ha e
                obtain ⟨ys,g1,g2⟩:=S.lstAt hb e2
                have e4:Ext X.K m H m (upd H a (.lst (xs ++ ys))):=Ext.upd (.inr ⟨xs,h1⟩)
                exact ⟨a,b,xs,ys,rfl,rfl,h1,g1,by rw [← h2.length,← g2.length]; exact lim_le c,p' _ m _ e4 (S.write ha e (h2.append g2)) mkNon⟩
              · rw [if_neg c] at p'; exact False.elim p'
    | _ => exact False.elim p
  | _ => exact False.elim p⟩
theorem je_meth {x name:Str} {id:String} {e:Expr} {go ga:GE} {p apos cpos:Pos} {mt:Wv → Wv → Hs → Re Wv} (hm:MtW X id mt) (slot:Slot "list" name id) (hty:typeOf (.builtin id) = pure (.type "method_descriptor")) (ho:JE X (.Name x p) go) (ha:JE X e ga)
    (hst:starEach [e] X.env = [(false,eval e X.env)]) (hline:(apos.endLine == cpos.line) = true):JE X (.Call (.Attribute (.Name x p) name apos) [e] [] cpos) (gMeth mt go ga):=by
  obtain ⟨r,h1,h2⟩:=hm
  have hfew:((backTo cpos (starEach [e] X.env)).all (fun x => !x.1) && (backToKw cpos (keywordEach [] X.env)).all (fun x => x.1.isSome) && decide ([e].length + ([]:List Keyword).length + (if ([]:List Keyword).isEmpty then 0 else 1) < 30)) = true:=by
    rw [hst]; rfl
  refine JE.of (pe_bm PySem.F.plainAttrs_list slot hty h1 pe_SE pa_SA rfl hfew hline hst rfl) fun ρ st σ H m Q S R p => ?_
  refine ho.go S R (PostG.bind p) fun o st1 v m1 H1 p1 e1 S1 ro => ?_
  cases o with
  | ref l =>
    dsimp only at p1
    cases el:lstOf st1 l with
    | none => rw [el] at p1; exact False.elim p1
    | some ws0 =>
      rw [el] at p1
      dsimp only at p1
      have ro':=ro
      unfold RelW at ro'
      obtain ⟨a,rfl,hla⟩:=ro'
      obtain ⟨xs,hq,_⟩:=S1.read hla el
      refine ⟨.inl ⟨rfl,xs,hq⟩,?_⟩
      refine (ja_cons ha ja_nil hst).go S1 (R.mono e1) (ok:=fun ws st2 => PostG X σ m H (match ws with | [w] => (mt (.ref l) w st2).nox | _ => .bad) (okE X.K m H Q)) ?_ fun ws st2 vs m2 H2 p2 e2 S2 rs => ?_
      · have p3:=(PostG.bind p1).imp e1 (fun _ _ q => q)
        show PostG X σ m1 H1 ((ga ρ st1).bind fun x st1 => (gNil ρ st1).bind fun xs st2 => .ok (x :: xs) st2) _
        cases eg:ga ρ st1 with
        | ok w st2 => rw [eg] at p3; exact p3
        | err c st2 => rw [eg] at p3; exact p3
        | bad => rw [eg] at p3; exact p3
      · match ws,rs,p2 with
        | [],rs,p2 => exact False.elim p2
        | [w],rs,p2 =>
          obtain ⟨v2,rfl,rw2⟩:=rel1 rs
          exact h2 (.ref l) w (.ref a) v2 st2 H2 m2 Q S2 (RelW.mono e2 _ _ ro) rw2 (PostO.shift (PostG.nox p2) (e1.trans e2))
        | _ :: _ :: _,rs,p2 => exact False.elim p2
  | _ => exact False.elim p1
end
end J
namespace J
open PySem PySem.Spec PyProof.Rows L2
section
variable {X:Cx}
def oStr2:List Wv → Hs → Re Wv
  | [.str z],st => .ok (.str z) st
  | ws,st => oStr ws st
def oMax:List Wv → Hs → Re Wv
  | [.int i,.int j],st => .ok (.int (if j > i then j else i)) st
  | _,_ => .bad
def oMin:List Wv → Hs → Re Wv
  | [.int i,.int j],st => .ok (.int (if j < i then j else i)) st
  | _,_ => .bad
theorem cw_min (hc:X.calm = true):CallW X (.builtin "min") oMin:=⟨_,call_min2 hc,fun ws vs st H m Q S rs p => by
  match ws,rs,p with
  | [],rs,p => exact False.elim p
  | [x],rs,p => cases x <;> exact False.elim p
  | x :: y :: z :: t,rs,p => cases x <;> cases y <;> exact False.elim p
  | [x,y],rs,p =>
    obtain ⟨v,v',rfl,r1,r2⟩:=rel2 rs
    cases x with
    | int i =>
      cases y with
      | int j => cases relInt r1; cases relInt r2; exact ⟨i,j,rfl,p _ m H Ext.refl S mkInt⟩
      | _ => exact False.elim p
    | _ => cases y <;> exact False.elim p⟩
inductive Slots (X:Cx):List Expr → List Nat → Prop
  | nil:Slots X [] []
  | cons {x:Str} {p:Pos} {i:Nat} {es:List Expr} {is:List Nat}:X.N[i]? = some x → (Loc X.env.scope x ∧ (X.fn x = true ∨ X.env.scope.names.lookup x = some .local)) → Slots X es is → Slots X (.Name x p :: es) (i :: is)
open Classical in
end
end J
namespace J
open PySem PySem.Spec PyProof.Rows L2
def clF (env:Env):List (Str × NameKind) → List (Str × Addr) → List (Str × Addr)
  | [],acc => acc
  | (n,k) :: r,acc => if k = .free then clF env r ((n,(env.cells.lookup n).getD 0) :: acc) else clF env r acc
theorem clos_run (env:Env):∀ (names:List (Str × NameKind)) (acc:List (Str × Addr)),(∀ y ∈ names,y.2 = .free → ∃ c,env.cells.lookup y.1 = some c) →
    (forIn names acc fun x r => match x with
      | (name,kind) => if (kind == NameKind.free) = true then do let c ← cellOf env name; pure (ForInStep.yield ((name,c) :: r)) else (pure (ForInStep.yield r):Sem _)) = pure (clF env names acc)
  | [],acc,_ => rfl
  | (n,k) :: r,acc,h => by
    have ih:=fun acc => clos_run env r acc fun y hy => h y (List.mem_cons_of_mem _ hy)
    rw [List.forIn_cons]
    by_cases hk:k = .free
    · subst hk
      obtain ⟨c,e⟩:=h (n,.free) List.mem_cons_self rfl
      have e':env.cells.lookup n = some c:=e
      have cc:cellOf env n = pure c:=by unfold cellOf; rw [e']
      simp only [beq_self_eq_true,if_true,cc]
      have q:clF env ((n,.free) :: r) acc = clF env r ((n,c) :: acc):=by
        show (if NameKind.free = .free then clF env r ((n,(env.cells.lookup n).getD 0) :: acc) else _) = _
        rw [if_pos rfl,e']
        rfl
      rw [q,← ih]
      rfl
    · have hb:(k == NameKind.free) = false:=by simpa using hk
      simp only [hb,Bool.false_eq_true,if_false]
      have q:clF env ((n,k) :: r) acc = clF env r acc:=by
        show (if k = .free then _ else clF env r acc) = _
        rw [if_neg hk]
      rw [q,← ih]
      rfl
theorem clos_is {env:Env} {scope:Scope} (h:∀ y ∈ scope.names,y.2 = .free → ∃ c,env.cells.lookup y.1 = some c):closureFor scope env = pure (clF env scope.names []):=by
  have q:=clos_run env scope.names [] h
  unfold closureFor
  first
    | (rw [← q]; rfl)
    | (simp only [bind_pure]; exact q)
theorem clF_sub {env:Env}:∀ {names:List (Str × NameKind)} {acc:List (Str × Addr)} {y:Str} {c:Addr},(∀ y ∈ names,y.2 = .free → ∃ c,env.cells.lookup y.1 = some c) → (∀ y c,acc.lookup y = some c → env.cells.lookup y = some c) → (clF env names acc).lookup y = some c → env.cells.lookup y = some c
  | [],acc,y,c,_,ha,e => ha y c e
  | (n,k) :: r,acc,y,c,h,ha,e => by
    unfold clF at e
    by_cases hk:k = .free
    · rw [if_pos hk] at e
      subst hk
      obtain ⟨c0,e0⟩:=h (n,.free) List.mem_cons_self rfl
      have e0':env.cells.lookup n = some c0:=e0
      refine clF_sub (fun y hy => h y (List.mem_cons_of_mem _ hy)) (fun y' c' e' => ?_) e
      rw [List.lookup_cons] at e'
      cases q:y' == n with
      | true =>
        rw [q] at e'
        have q':=eq_of_beq q
        subst q'
        rw [e0'] at e' ⊢
        exact e'
      | false => rw [q] at e'; exact ha y' c' e'
    · rw [if_neg hk] at e
      exact clF_sub (fun y hy => h y (List.mem_cons_of_mem _ hy)) ha e
theorem clF_has {env:Env} {y:Str}:∀ {names:List (Str × NameKind)} {acc:List (Str × Addr)},((∃ c,acc.lookup y = some c) ∨ (y,NameKind.free) ∈ names) → ∃ c,(clF env names acc).lookup y = some c
  | [],acc,h => by
    rcases h with h | h
    · exact h
    · cases h
  | (n,k) :: r,acc,h => by
    unfold clF
    by_cases hk:k = .free
    · rw [if_pos hk]
      refine clF_has ?_
      rw [List.lookup_cons]
      cases q:y == n with
      | true => exact .inl ⟨_,rfl⟩
      | false =>
        rcases h with h | h
        · exact .inl h
        · rcases List.mem_cons.mp h with h | h
          · cases h; simp at q
          · exact .inr h
    · rw [if_neg hk]
      refine clF_has ?_
      rcases h with h | h
      · exact .inl h
      · rcases List.mem_cons.mp h with h | h
        · cases h; exact absurd rfl hk
        · exact .inr h
theorem lookup_mem {α β:Type} [BEq α] [LawfulBEq α] {y:α} {k:β}:∀ {names:List (α × β)},names.lookup y = some k → (y,k) ∈ names
  | [],h => by cases h
  | (n,j) :: r,h => by
    rw [List.lookup_cons] at h
    cases q:y == n with
    | true =>
      rw [q] at h
      cases h
      have q':=eq_of_beq q
      subst q'
      exact List.mem_cons_self
    | false => rw [q] at h; exact List.mem_cons_of_mem _ (lookup_mem h)
theorem rel_look {env:Env}:∀ {names:List (Str × NameKind)} {y:Str},(names.map fun (n,k) => if (k == NameKind.free && env.scope.kind == .function && env.kindOf n == some .cell) then (n,NameKind.cell) else (n,k)).lookup y =
    (names.lookup y).map fun k => if (k == NameKind.free && env.scope.kind == .function && env.kindOf y == some .cell) = true then NameKind.cell else k
  | [],y => rfl
  | (n,k) :: r,y => by
    have ih:=rel_look (env:=env) (names:=r) (y:=y)
    show List.lookup y ((if (k == NameKind.free && env.scope.kind == .function && env.kindOf n == some .cell) = true then (n,NameKind.cell) else (n,k)) :: _) = _
    cases q:y == n with
    | true =>
      have q':=eq_of_beq q
      subst q'
      by_cases hc:(k == NameKind.free && env.scope.kind == .function && env.kindOf y == some .cell) = true
      · rw [if_pos hc]
        simp only [List.lookup_cons,beq_self_eq_true,Option.map_some]
        rw [if_pos hc]
      · rw [if_neg hc]
        simp only [List.lookup_cons,beq_self_eq_true,Option.map_some]
        rw [if_neg hc]
    | false =>
      by_cases hc:(k == NameKind.free && env.scope.kind == .function && env.kindOf n == some .cell) = true
      · rw [if_pos hc]; simp only [List.lookup_cons,q]; exact ih
      · rw [if_neg hc]; simp only [List.lookup_cons,q]; exact ih
open Classical in
noncomputable def compG (ck:Hs → Prop) (gt:Wv → Hs → Re Bool) (ge:Wv → Hs → Re Wv) (l:Nat):List Wv → Hs → Option Hs
  | [],st => some st
  | w :: r,st => match gt w st with
    | .ok false st1 => if ck st1 then compG ck gt ge l r st1 else none
    | .ok true st1 => (match ge w st1 with
      | .ok v st2 => (match mApp (.ref l) v st2 with
        | .ok _ st3 => if ck st3 then compG ck gt ge l r st3 else none
        | _ => none)
      | _ => none)
    | _ => none
abbrev Caps:=List (Str × Nat)
def capR (cs:Caps) (ρ:Rho):Rho:=cs.map fun p => (ρ[p.2]?).getD none
def capS (cs:Caps) (σ:St):St:=cs.map fun p => (σ[p.2]?).getD none
theorem cap_rel {K:PySem.W.Frag} {m:Mp} {H:Hp} {ρ:Rho} {σ:St} (cs:Caps) (R:RelEnv K m H ρ σ):RelEnv K m H (capR cs ρ) (capS cs σ):=by
  refine ⟨by unfold capR capS; simp,fun i w e => ?_⟩
  unfold capR at e
  rw [List.getElem?_map] at e
  cases q:cs[i]? with
  | none => rw [q] at e; cases e
  | some p =>
    rw [q] at e
    have e':(ρ[p.2]?).getD none = some w:=by simpa using e
    cases q2:ρ[p.2]? with
    | none => rw [q2] at e'; cases e'
    | some o =>
      rw [q2] at e'
      have e2:o = some w:=e'
      subst e2
      obtain ⟨v,h1,h2⟩:=R.get _ _ q2
      refine ⟨v,?_,h2⟩
      unfold capS
      rw [List.getElem?_map,q]
      simp [h1]
def compX (X:Cx) (scope:Scope) (x:Str) (cs:Caps) (C:Addr) (s0:Shared) (H0:Hp) (fp:List Addr) (pn:List (Addr × Obj)):Cx where
  prog:=X.prog
  w:=X.w
  K:=X.K
  mg:=X.mg
  base:=X.base
  A:=X.A
  N:=x :: cs.map (·.1)
  s₀:=s0
  H₀:=H0
  env:=compEnvC scope (clF X.env scope.names []) C X.env
  outer:=X.stack
  stack:=X.stack
  ex:=fp
  fn:=fun _ => false
  calm:=true
  pn:=pn
  xe:=fun _ _ => False
structure CScope (X:Cx) (scope:Scope) (x:Str) (cs:Caps):Prop where
  kind:scope.kind = .function
  look:∀ y ∈ scope.names,scope.names.lookup y.1 = some y.2
  cell:∀ y ∈ scope.names,y.2 ≠ .cell
  var:scope.names.lookup x = some .local
  cap:∀ y ∈ scope.names,y.2 = .free → X.env.kindOf y.1 = some .cell ∨ X.env.kindOf y.1 = some .free
  at_:∀ p ∈ cs,X.N[p.2]? = some p.1 ∧ scope.names.lookup p.1 = some .free
  nd:(x :: cs.map (·.1)).Nodup
section
variable {X:Cx} {pins:List (Addr × Obj)} {σ:St} {H:Hp} {s:Shared} {scope:Scope} {x:Str} {cs:Caps}
theorem fp_stack (I:Inv X pins σ H s) {b:Addr} (f:FpOk X pins H b):b ∉ frs X.stack:=fun z => by
  rcases List.mem_cons.mp (I.stkSub b z) with q | q
  · exact f.2.1 q
  · exact f.2.2.1 q
theorem CScope.has (S:CScope X scope x cs) (ok:X.Ok):∀ y ∈ scope.names,y.2 = .free → ∃ c,X.env.cells.lookup y.1 = some c:=fun y hy e => ok.has y.1 (S.cap y hy e)
theorem CScope.sub (S:CScope X scope x cs) (ok:X.Ok) {y:Str} {c:Addr} (e:(clF X.env scope.names []).lookup y = some c):X.env.cells.lookup y = some c :=
  clF_sub (S.has ok) (fun _ _ z => by cases z) e
theorem CScope.kindIn (S:CScope X scope x cs) (ok:X.Ok) {C:Addr} {y:Str} (h:(compEnvC scope (clF X.env scope.names []) C X.env).kindOf y = some .cell ∨ (compEnvC scope (clF X.env scope.names []) C X.env).kindOf y = some .free):scope.names.lookup y = some .free:=by
  have q:(compEnvC scope (clF X.env scope.names []) C X.env).kindOf y = (scope.names.lookup y).map fun k => if (k == NameKind.free && X.env.scope.kind == .function && X.env.kindOf y == some .cell) = true then NameKind.cell else k:=rel_look
  rw [q] at h
  cases e:scope.names.lookup y with
  | none => rw [e] at h; simp at h
  | some k =>
    rw [e] at h
    simp only [Option.map_some,Option.some.injEq] at h
    by_cases hk:k = .free
    · rw [hk]
    · have hb:(k == NameKind.free) = false:=by simpa using hk
      rw [hb] at h
      simp only [Bool.false_and,Bool.false_eq_true,if_false] at h
      rcases h with h | h
      · exact absurd h (S.cell (y,k) (lookup_mem e))
      · exact absurd h hk
theorem CScope.free_vis (S:CScope X scope x cs) {C:Addr} {y:Str} (e:scope.names.lookup y = some .free):(compEnvC scope (clF X.env scope.names []) C X.env).kindOf y = some .cell ∨ (compEnvC scope (clF X.env scope.names []) C X.env).kindOf y = some .free:=by
  have q:(compEnvC scope (clF X.env scope.names []) C X.env).kindOf y = (scope.names.lookup y).map fun k => if (k == NameKind.free && X.env.scope.kind == .function && X.env.kindOf y == some .cell) = true then NameKind.cell else k:=rel_look
  rw [q,e]
  simp only [Option.map_some]
  split
  · exact .inl rfl
  · exact .inr rfl
theorem comp_inv {fp:List Addr} {h2:Heap} {tk:Nat} (S:CScope X scope x cs) (hc:X.calm = true) (I:Inv X pins σ H s) (hf:∀ b ∈ fp,FpOk X pins H b) (hl:∀ b ∈ fp,b < s.heap.objs.size)
    (ns:h2.Ns s.heap.objs.size (fun y => ([]:List (Str × Value)).reverse.lookup y)) (sb:Heap.SameBut s.heap.objs.size (s.heap.push { cls:=.type "dict",data:=.dict #[] }) h2) :
    Inv (compX X scope x cs s.heap.objs.size s H fp (X.pn ++ pins)) [] (none :: capS cs σ) H { s with heap:=h2,toks:=tk }:=by
  have keep:∀ b o,s.heap.get? b = some o → h2.get? b = some o:=fun b o e => (sb.2 b (Nat.ne_of_lt (Heap.lt_size e))).trans (Heap.get?_push_of_some _ e)
  have sub:∀ {y:Str} {c:Addr},(clF X.env scope.names []).lookup y = some c → X.env.cells.lookup y = some c:=fun e => S.sub I.ok e
  have cellK:∀ y c,X.env.cells.lookup y = some c → ∀ v,s.heap.IsCell c v → h2.IsCell c v:=fun y c _ v ⟨o,ho,hd⟩ => ⟨o,keep c o ho,hd⟩
  refine ⟨⟨I.ok.mod,S.kind,I.ok.glob,I.ok.blt,Nat.le_refl _,(fun y z c e1 e2 => I.ok.inj y z c (sub e1) (sub e2)),fun y h => clF_has (.inr (lookup_mem (S.kindIn I.ok h))),(fun y c e => by cases e),fun _ => I.ok.hd hc,I.ok.frames,.inl rfl,fun b hb => ⟨Nat.ne_of_lt (hl b hb),fun y c e => (hf b hb).2.2.2.2.1 y c (sub e)⟩,I.bs,Nat.le_trans I.ok.bsz I.sz,fun b o e hb => ?_,fun b hb => fp_stack I (hf b hb),I.stack,I.stkFree⟩,rfl,I.bare,Un.kept keep,⟨_,ns,fun i y v e1 e2 e3 => ?_⟩,(fun y c e => ?_),I.fresh,(fun y c e => I.freeC y c (sub e)),fun p hp => ?_,I.hok.kept keep,by unfold compX capS; simp⟩
  · rcases (hf b hb).2.2.2.1 with z | z
    · exact I.ok.noex b o e z
    · exact absurd (Nat.lt_of_lt_of_le (Heap.lt_size e) (Nat.le_trans I.ok.bsz z)) (Nat.lt_irrefl _)
  · cases i with
    | zero => cases e2
    | succ i =>
      have e1':(cs.map (·.1))[i]? = some y:=e1
      have e2':(capS cs σ)[i]? = some (some v):=e2
      unfold capS at e2'
      rw [List.getElem?_map] at e1' e2'
      cases q:cs[i]? with
      | none => rw [q] at e1'; cases e1'
      | some p =>
        rw [q] at e1' e2'
        have y1:p.1 = y:=by simpa using e1'
        have e4:(σ[p.2]?).getD none = some v:=by simpa using e2'
        have e5:σ[p.2]? = some (some v):=by
          cases q2:σ[p.2]? with
          | none => rw [q2] at e4; cases e4
          | some o =>
            rw [q2] at e4
            have:o = some v:=e4
            rw [this]
        have hp:=S.at_ p (List.mem_iff_getElem?.mpr ⟨i,q⟩)
        rw [y1] at hp
        have kd:=S.cap (y,.free) (lookup_mem hp.2) rfl
        obtain ⟨m,hn,hl'⟩:=I.loc
        obtain ⟨u,r,l⟩:=hl' p.2 y v hp.1 e5 (.inr kd)
        refine ⟨u,r,.inr ⟨S.free_vis hp.2,?_⟩⟩
        rcases l with ⟨l,_⟩ | ⟨_,c,e,z⟩
        · rcases kd with kd | kd
          · have kd':X.env.kindOf y = some .cell:=kd
            rw [kd'] at l; cases l
          · have kd':X.env.kindOf y = some .free:=kd
            rw [kd'] at l; cases l
        · obtain ⟨c',e'⟩:=clF_has (env:=X.env) (y:=y) (names:=scope.names) (acc:=[]) (.inr (lookup_mem hp.2))
          have:=sub e'
          rw [e] at this
          cases this
          exact ⟨c,e',cellK y c e _ z⟩
  · obtain ⟨v,z⟩:=I.cell y c (sub e)
    exact ⟨v,cellK y c (sub e) v z⟩
  · rw [List.append_nil] at hp
    obtain ⟨e,n,ne,nf,d⟩:=I.pin p hp
    refine ⟨keep _ _ e,n,Nat.ne_of_lt (Heap.lt_size e),fun z => ?_,d⟩
    rcases List.mem_cons.mp (I.stkSub p.1 z) with q | q
    · exact ne q
    · exact nf q
theorem comp_end {fp:List Addr} {Hb He:Hp} {sb se:Shared} {C:Addr} {σ':St} {pins':List (Addr × Obj)} (I:Inv X pins σ Hb sb) (hf:∀ b ∈ fp,FpOk X pins Hb b) (J:Inv (compX X scope x cs C sb Hb fp (X.pn ++ pins)) pins' σ' He se):Inv X pins σ He se:=by
  have un:Un (frs X.stack) fp Hb He sb.heap se.heap:=J.base
  exact I.call' (ch:=fp) J.os un J.hok J.bare fun b hb => ⟨(hf b hb).2.2.2.1,(hf b hb).2.1,(hf b hb).2.2.2.2.1,fun p hp => (hf b hb).2.2.2.2.2 p hp⟩
theorem comp_gone {He:Hp} {se:Shared} {C:Addr} {h2:Heap} (I:Inv X pins σ He se) (f:FpOk X pins He C) (same:Heap.SameBut C se.heap h2):Inv X pins σ He { se with heap:=h2 } :=
  I.turned (t':=se.toks) (it:=C) (fun b o hb e => (same.2 b hb).trans e) f.1 f.2.1 f.2.2.2.1 f.2.2.2.2.1 f.2.2.2.2.2
end
def JTs (X:Cx) (ifs:List Expr) (g:GT):Prop:=∀ (ρ:Rho) (st:Hs) (σ:St) (H:Hp) (m:Mp) (Q:Bool → Hp → Prop),Sim X.K m st H → RelEnv X.K m H ρ σ → PostT X σ m H (g ρ st) Q → ∀ (pins:List (Addr × Obj)) (s:Shared),Inv X pins σ H s →
  wpAny (model X.prog X.w) X.A (forIn ifs true fun c r => if r = true then do let ok ← isTrue c X.env (eval c X.env); pure (ForInStep.yield ok) else pure (ForInStep.yield r)) (TP X pins σ Q) X.xe s
section
variable {X:Cx}
theorem jts_nil:JTs X [] (fun _ st => .ok true st):=fun ρ st σ H m Q S R p pins s I => wpAny_tests_nil ⟨H,I,p m H Ext.refl S⟩
theorem jts_one {c:Expr} {g:GT} (h:JT X c g):JTs X [c] g:=fun ρ st σ H m Q S R p pins s I => wpAny_tests_one (h ρ st σ H m Q S R p pins s I)
theorem comp_block {pins:List (Addr × Obj)} {σ:St} {ρ:Rho} {scope:Scope} {x:Str} {cs:Caps} {px pos:Pos} {elt iter:Expr} {ifs:List Expr} {gt:GT} {ge:GE} {ck:Hs → Prop} {ws:List Wv} {E:Value → Shared → Prop}
    {RR:Value → Addr → Result → Shared → Prop}
    {it:Addr} {fp:List Addr} {tn:Nat → Heap → Prop} {J':It} {H2:Hp} {s2:Shared} {m1:Mp} {st1 stF:Hs} (S:CScope X scope x cs) (hc:X.calm = true) (I2:Inv X pins σ H2 s2) (T:Turn X.prog X.w X.K (.Name x px) J' fp it tn) (t0:tn 0 s2.heap) (f2:∀ b ∈ fp,FpOk X pins H2 b)
    (S1:Sim X.K m1 st1 H2) (R:RelEnv X.K m1 H2 ρ σ) (hck:ck (st1 ++ [.lst []])) (run:compG ck (fun w => gt (some w :: capR cs ρ)) (fun w => ge (some w :: capR cs ρ)) st1.length ws (st1 ++ [.lst []]) = some stF)
    (hE:∀ C s0 H0 pn,JE (compX X scope x cs C s0 H0 fp pn) elt ge) (hT:∀ C s0 H0 pn,JTs (compX X scope x cs C s0 H0 fp pn) ifs gt)
    (hgo:∀ (k:Nat) (H:Hp) (m':Mp) (st:Hs),Ext X.K m1 H2 m' H → Sim X.K m' st H → ck st → k < ws.length → J'.go k H) (hstop:∀ (k:Nat) (H:Hp) (m':Mp) (st:Hs),Ext X.K m1 H2 m' H → Sim X.K m' st H → ck st → k = ws.length → J'.stop k H)
    (hy:∀ (k:Nat) (hk:k < ws.length) (H:Hp) (v:V) (H':Hp) (m':Mp) (st:Hs),Ext X.K m1 H2 m' H → Sim X.K m' st H → ck st → J'.yld k H v H' → H' = H ∧ RelW X.K m' H ws[k] v)
    (fin:∀ (D C:Addr) (mm:Str → Option Value) (m':Mp) (H':Hp) (s':Shared),Ext X.K m1 H2 m' H' → Sim X.K m' stF H' → m'[st1.length]? = some D → Inv X pins σ H' s' → FpOk X pins H' C → s'.heap.Ns C mm → (∀ y c,X.env.cells.lookup y = some c → c ≠ C) → RR (.ref D) C (.ok .next) s') :
    wpAny (model X.prog X.w) X.A (newList []) (fun acc s3 => wpAny (model X.prog X.w) X.A (newFunctionEnv scope X.env.globals (clF X.env scope.names []) [] X.env.qual none .none (some X.env)) (fun cenv s4 =>
      codeAny (model X.prog X.w) X.A (.compStart (.ListComp elt [⟨.Name x px,iter,ifs,0⟩] scope pos) 0 (.ref it) acc { cenv with scope:=relabel scope X.env }) (RR acc cenv.locals) s4) E s3) E s2:=by
  refine wpAny_newList ?_
  have I3:Inv X pins σ (upd H2 s2.heap.objs.size (.lst [])) { s2 with heap:=s2.heap.push { cls:=.type "list",data:=.seq ([]:List Value).toArray } }:=I2.lnew (ys:=[]) (its:=[]) (t':=s2.toks) .nil (Nat.zero_le _)
  have lt2:∀ b ∈ fp,b < s2.heap.objs.size:=fun b hb => by
    obtain ⟨o,e,_⟩:=T.obj _ _ t0 b hb
    exact Heap.lt_size e
  have hD:H2 s2.heap.objs.size = none:=I2.fresh
  have f3:∀ b ∈ fp,FpOk X pins (upd H2 s2.heap.objs.size (.lst [])) b:=fun b hb => ⟨by rw [upd_ne (Nat.ne_of_lt (lt2 b hb))]; exact (f2 b hb).1,(f2 b hb).2⟩
  have S3:=S1.alloc (ws:=[]) (xs:=[]) hD RelWs.nil
  have e3:Ext X.K m1 H2 (m1 ++ [s2.heap.objs.size]) (upd H2 s2.heap.objs.size (.lst [])):=Ext.more.trans (Ext.upd (.inl hD))
  have lab:(m1 ++ [s2.heap.objs.size])[st1.length]? = some s2.heap.objs.size:=by
    rw [← S1.len,List.getElem?_append_right (Nat.le_refl _),Nat.sub_self]; rfl
  generalize hs3:({ s2 with heap:=s2.heap.push { cls:=.type "list",data:=.seq ([]:List Value).toArray } }:Shared) = s3 at I3
  have k23:∀ b o,s2.heap.get? b = some o → s3.heap.get? b = some o:=fun b o e => by rw [← hs3]; exact Heap.get?_push_of_some _ e
  have lt3:∀ b ∈ fp,b < s3.heap.objs.size:=fun b hb => by
    obtain ⟨o,e,_⟩:=T.obj _ _ t0 b hb
    exact Heap.lt_size (k23 b o e)
  generalize hDD:s2.heap.objs.size = D at *
  generalize hH3:upd H2 D (.lst []) = H3 at *
  generalize hm3:m1 ++ [D] = m3 at *
  have R3:RelEnv X.K m3 H3 (capR cs ρ) (capS cs σ):=(cap_rel cs R).mono e3
  generalize hrr:capR cs ρ = ρc at *
  generalize hss:capS cs σ = σc at *
  refine wpAny_newFunctionEnv S.cell (fun _ z => nomatch z) (fun h4 ns4 sb4 => ?_) S.kind
  have Ic:=comp_inv (tk:=s3.toks + ([]:List (Str × Value)).length) S hc I3 f3 lt3 ns4 sb4
  rw [hss] at Ic
  have k34:∀ b o,s3.heap.get? b = some o → h4.get? b = some o:=fun b o e => (sb4.2 b (Nat.ne_of_lt (Heap.lt_size e))).trans (Heap.get?_push_of_some _ e)
  have t4:tn 0 h4:=T.keep _ _ _ t0 fun b _ o e => k34 b o (k23 b o e)
  let Xc:=compX X scope x cs s3.heap.objs.size s3 H3 fp (X.pn ++ pins)
  have vis:Xc.env.scope.names.lookup x = some .local:=lookup_relabel_local S.var
  have fpc:∀ (H':Hp),(∀ b ∈ fp,H' b = none) → ∀ b ∈ fp,FpOk Xc [] H' b:=fun H' hn b hb => ⟨hn b hb,Nat.ne_of_lt (lt3 b hb),fp_stack I3 (f3 b hb),.inl hb,fun y c e => (f3 b hb).2.2.2.2.1 y c (S.sub I3.ok e),fun p hp => (f2 b hb).2.2.2.2.2 p (by have hp':p ∈ (X.pn ++ pins) ++ []:=hp; rw [List.append_nil] at hp'; exact hp')⟩
  let Pv:Nat → Shared → Prop:=fun k s' => ∃ z H' st m',Inv Xc [] (z :: σc) H' s' ∧ tn k s'.heap ∧ (∀ b ∈ fp,H' b = none) ∧ Ext X.K m3 H3 m' H' ∧ Sim X.K m' st H' ∧ ck st ∧ compG ck (fun w => gt (some w :: ρc)) (fun w => ge (some w :: ρc)) st1.length (ws.drop k) st = some stF
  have loop:∀ s4:Shared,Pv 0 s4 → codeAny (model X.prog X.w) X.A (.compLoop (.ListComp elt [⟨.Name x px,iter,ifs,0⟩] scope pos) 0 (.ref it) (.ref D) (compEnvC scope (clF X.env scope.names []) s3.heap.objs.size X.env)) (RR (.ref D) s3.heap.objs.size) s4:=fun s4 p0 => by
    refine codeAny_compLoop_tests (fun n s' => ∃ k,n = ws.length - k ∧ k ≤ ws.length ∧ Pv k s') ?_ ws.length ⟨0,by simp,Nat.zero_le _,p0⟩
    rintro n s5 ⟨k,rfl,hk,z5,H5,st5,m5,I5,tn5,fr5,e5,S5,c5,run5⟩
    have e15:=e3.trans e5
    by_cases hlt:k < ws.length
    · refine thn (T.item Xc rfl rfl rfl rfl k [] s5 (z5 :: σc) H5 _ I5 (fpc H5 fr5) tn5 (hgo k H5 m5 st5 e15 S5 c5 hlt)) fun r s6 h6 => ?_
      obtain ⟨u,rfl,h6⟩:=h6
      show wpAny (model X.prog X.w) X.A (pure () >>= fun _ => assign (.Name x px) Xc.env u) _ _ s6
      refine wpAny_bind (thn h6 fun _ s7 h7 => ?_)
      obtain ⟨v,H7,I7,rv,yl,tn7,fr7⟩:=h7
      obtain ⟨rfl,rw7⟩:=hy k hlt H5 v H7 m5 st5 e15 S5 c5 yl
      have I7':=I7.pinned (fpc H7 fr7) (T.obj _ _ tn7)
      refine wpAny_assign_Name (store_ok (i:=0) I7' S.nd rfl (.inl vis) rv (fun s8 I8 => ?_) (.inr vis))
      have I8':Inv Xc ([] ++ pinsAt fp s7.heap) (some v :: σc) H7 s8:=I8
      have R8:RelEnv X.K m5 H7 (some ws[k] :: ρc) (some v :: σc):=by
        have R5:=R3.mono e5
        refine ⟨by simp [R5.len],fun i w e => ?_⟩
        cases i with
        | zero =>
          cases e
          exact ⟨v,rfl,rw7⟩
        | succ i => exact R5.get i w e
      have ed:ws.drop k = ws[k] :: ws.drop (k + 1):=List.drop_eq_getElem_cons hlt
      rw [ed] at run5
      unfold compG at run5
      have back:∀ {H':Hp} {s':Shared} {m':Mp} {st:Hs},Inv Xc ([] ++ pinsAt fp s7.heap) (some v :: σc) H' s' → Ext X.K m3 H3 m' H' → Sim X.K m' st H' → ck st → compG ck (fun w => gt (some w :: ρc)) (fun w => ge (some w :: ρc)) st1.length (ws.drop (k + 1)) st = some stF → ∃ n',n' < ws.length - k ∧ ∃ k',n' = ws.length - k' ∧ k' ≤ ws.length ∧ Pv k' s' :=
        fun {H' s' m' st} I' e' S' c' r' => ⟨ws.length - (k + 1),by omega,k + 1,rfl,hlt,some v,H',st,m',I'.unpinned,T.keep _ _ _ tn7 fun b hb o e => (I'.pin (b,o) (List.mem_append_right _ (List.mem_append_right _ (mem_pinsAt hb e)))).1,fun b hb => by
          obtain ⟨o,e,_⟩:=T.obj _ _ tn7 b hb
          exact (I'.pin (b,o) (List.mem_append_right _ (List.mem_append_right _ (mem_pinsAt hb e)))).2.1,e',S',c',r'⟩
      cases eg:gt (some ws[k] :: ρc) st5 with
      | err c st6 => rw [eg] at run5; cases run5
      | bad => rw [eg] at run5; cases run5
      | ok b st6 =>
        rw [eg] at run5
        have tst:=hT s3.heap.objs.size s3 H3 (X.pn ++ pins) (some ws[k] :: ρc) st5 (some v :: σc) H7 m5 (fun b' H' => b' = b ∧ ∃ m',Ext X.K m5 H7 m' H' ∧ Sim X.K m' st6 H') S5 R8 (by rw [eg]; exact fun m' H' e' S' => ⟨rfl,m',e',S'⟩) ([] ++ pinsAt fp s7.heap) s8 I8'
        refine wpAny_mono tst (fun ok s9 h9 => ?_) fun _ _ z => False.elim z
        obtain ⟨H9,I9,rfl,m9,e9,S9⟩:=h9
        cases ok with
        | false =>
          dsimp only at run5
          by_cases c6:ck st6
          · rw [if_pos c6] at run5
            rw [if_neg Bool.false_ne_true]
            exact back I9 (e5.trans e9) S9 c6 run5
          · rw [if_neg c6] at run5; cases run5
        | true =>
          dsimp only at run5
          rw [if_pos rfl]
          cases ee:ge (some ws[k] :: ρc) st6 with
          | err c st7 => rw [ee] at run5; cases run5
          | bad => rw [ee] at run5; cases run5
          | ok w st7 =>
            rw [ee] at run5
            dsimp only at run5
            cases ea:mApp (.ref st1.length) w st7 with
            | err c st8 => rw [ea] at run5; cases run5
            | bad => rw [ea] at run5; cases run5
            | ok w2 st8 =>
              rw [ea] at run5
              dsimp only at run5
              by_cases c8:ck st8
              · rw [if_pos c8] at run5
                have el:=hE s3.heap.objs.size s3 H3 (X.pn ++ pins) (some ws[k] :: ρc) st6 (some v :: σc) H9 m9 (fun v' H' => ∃ m',Ext X.K m9 H9 m' H' ∧ Sim X.K m' st7 H' ∧ RelW X.K m' H' w v') S9 (R8.mono e9) (by rw [ee]; exact fun v' m' H' e' S' r' => ⟨m',e',S',r'⟩) ([] ++ pinsAt fp s7.heap) s9 I9
                refine wpAny_mono el (fun u2 s10 h10 => ?_) fun _ _ z => False.elim z
                obtain ⟨v2,H10,I10,r2,m10,e10,S10,rw10⟩:=h10
                obtain ⟨r,h1,h2⟩:=mw_app (X:=Xc)
                have eA:=(e5.trans e9).trans e10
                have ro:RelW X.K m10 H10 (.ref st1.length) (.ref D):=by unfold RelW; exact ⟨D,rfl,eA.pre _ _ lab⟩
                have rd:=h2 (.ref st1.length) w (.ref D) v2 st7 H10 m10 (fun _ H' => ∃ m',Ext X.K m10 H10 m' H' ∧ Sim X.K m' st8 H') S10 ro rw10 (by rw [ea]; exact fun v' m' H' e' S' r' => ⟨m',e',S'⟩)
                refine wpAny_mono (h1 ([] ++ pinsAt fp s7.heap) s10 (some v :: σc) H10 (.ref D) [v2] (.ref D) [u2] _ I10 rfl (.cons r2 .nil) rd) (fun _ s11 h11 => ?_) fun _ _ z => False.elim z
                obtain ⟨_,H11,I11,_,m11,e11,S11⟩:=h11
                exact back I11 (eA.trans e11) S11 c8 run5
              · rw [if_neg c8] at run5; cases run5
    · have ek:k = ws.length:=by omega
      subst ek
      refine thn (T.done Xc rfl rfl rfl rfl _ [] s5 (z5 :: σc) H5 _ I5 (fpc H5 fr5) tn5 (hstop _ H5 m5 st5 e15 S5 c5 rfl)) fun r s6 h6 => ?_
      obtain ⟨rfl,I6⟩:=h6
      rw [List.drop_length] at run5
      cases run5
      obtain ⟨mm,ns6,_⟩:=id I6.loc
      have fC:=I3.fpOk (H':=H5) (Nat.le_refl _) I6.free
      exact fin D _ mm m5 H5 _ e15 S5 (e5.pre _ _ lab) (comp_end I3 f3 I6) fC ns6 fC.2.2.2.2.1
  have p0:Pv 0 { s3 with heap:=h4,toks:=s3.toks + ([]:List (Str × Value)).length }:=⟨none,H3,st1 ++ [Ob.lst []],m3,Ic,t4,fun b hb => (f3 b hb).1,Ext.refl,S3,hck,by rw [List.drop_zero]; exact run⟩
  exact codeAny_compStart_list (loop _ p0) (T.self X.A 0 _ _ _ t4 (loop _ p0))
end
end J
namespace J
open PySem PySem.Spec PyProof.Rows L2
abbrev Wk:=Option Nat × List Wv
def ckOf (w:Wk) (st:Hs):Prop:=match w.1 with
  | some l => lstOf st l = some w.2
  | none => True
structure ItFor (X:Cx) (w:Wk) (m1:Mp) (H1:Hp) (J':It):Prop where
  go:∀ (k:Nat) (H:Hp) (m':Mp) (st:Hs),Ext X.K m1 H1 m' H → Sim X.K m' st H → ckOf w st → k < w.2.length → J'.go k H
  stop:∀ (k:Nat) (H:Hp) (m':Mp) (st:Hs),Ext X.K m1 H1 m' H → Sim X.K m' st H → ckOf w st → k = w.2.length → J'.stop k H
  yld:∀ (k:Nat) (hk:k < w.2.length) (H:Hp) (v:V) (H':Hp) (m':Mp) (st:Hs),Ext X.K m1 H1 m' H → Sim X.K m' st H → ckOf w st → J'.yld k H v H' → H' = H ∧ RelW X.K m' H w.2[k] v
abbrev GI:=Rho → Hs → Re Wk
def JI (X:Cx) (tg iter:Expr) (gi:GI):Prop:=∃ wi,PI X tg iter wi ∧ ∀ (ρ:Rho) (st:Hs) (σ:St) (H:Hp) (m:Mp) (R:It → Hp → Prop),Sim X.K m st H → RelEnv X.K m H ρ σ →
  PostG X σ m H (gi ρ st) (fun w st1 => ∀ (m1:Mp) (H1:Hp) (J':It),Ext X.K m H m1 H1 → Sim X.K m1 st1 H1 → ckOf w st1 → ItFor X w m1 H1 J' → R J' H1) → wi σ H R
def seqW (w:Wv) (st:Hs):Re Wk:=match w with
  | .ref l => (match lstOf st l with | some ws => .ok (some l,ws) st | none => .bad)
  | .tup ws => .ok (none,ws) st
  | .ktp ws => .ok (none,ws) st
  | _ => .bad
def giSeq (g:GE):GI:=fun ρ st => (g ρ st).bind seqW
section
variable {X:Cx}
theorem ji_seq {tg iter:Expr} {g:GE} (h:JE X iter g):JI X tg iter (giSeq g):=by
  refine ⟨_,pi_seq pe_SE,fun ρ st σ H m Q S R p => ?_⟩
  refine h.go S R (PostG.bind p) fun w st1 v m1 H1 p1 e1 S1 rw' => ?_
  cases w with
  | ref l =>
    unfold RelW at rw'
    obtain ⟨a,rfl,hla⟩:=rw'
    unfold seqW at p1
    cases el:lstOf st1 l with
    | none => simp only [el] at p1; exact False.elim p1
    | some ws =>
      simp only [el] at p1
      obtain ⟨xs0,q0,_⟩:=S1.read hla el
      refine ⟨a,rfl,.inl ⟨⟨xs0,q0⟩,p1 m1 H1 _ e1 S1 el ⟨fun k H' m' st' e S' c hk => ?_,fun k H' m' st' e S' c hk => ?_,fun k hk H' v H'' m' st' e S' c y => ?_⟩⟩⟩
      · obtain ⟨xs,hq,rws⟩:=S'.read (e.pre _ _ hla) c
        have hx':k < xs.length:=by rw [← rws.length]; exact hk
        exact ⟨xs,xs[k],hq,by simp [hx']⟩
      · obtain ⟨xs,hq,rws⟩:=S'.read (e.pre _ _ hla) c
        exact ⟨xs,hq,by rw [← rws.length,hk]; exact Nat.le_refl _⟩
      · obtain ⟨xs,hq,rws⟩:=S'.read (e.pre _ _ hla) c
        obtain ⟨ee,y⟩:=y
        refine ⟨ee,?_⟩
        obtain ⟨x',ex',rx'⟩:=rws.get (i:=k) (w:=ws[k]) (List.getElem?_eq_getElem hk)
        rw [y xs hq] at ex'
        cases ex'
        exact rx'
  | tup ws =>
    unfold RelW at rw'
    obtain ⟨a,xs,rfl,hq,rws⟩:=rw'
    refine ⟨a,rfl,.inr ⟨⟨xs,SqT.of hq⟩,p1 m1 H1 _ e1 S1 trivial ⟨fun k H' m' st' e S' c hk => ?_,fun k H' m' st' e S' c hk => ?_,fun k hk H' v H'' m' st' e S' c y => ?_⟩⟩⟩
    · have hx':k < xs.length:=by rw [← rws.length]; exact hk
      exact ⟨xs,xs[k],SqT.of (e.tup _ _ hq),by simp [hx']⟩
    · exact ⟨xs,SqT.of (e.tup _ _ hq),by rw [← rws.length,hk]; exact Nat.le_refl _⟩
    · obtain ⟨ee,y⟩:=y
      refine ⟨ee,?_⟩
      obtain ⟨x',ex',rx'⟩:=(RelWs.mono e _ _ rws).get (i:=k) (w:=ws[k]) (List.getElem?_eq_getElem hk)
      rw [y xs (SqT.of (e.tup _ _ hq))] at ex'
      cases ex'
      exact rx'
  | ktp ws =>
    unfold RelW at rw'
    obtain ⟨a,xs,rfl,hq,rws⟩:=rw'
    refine ⟨a,rfl,.inr ⟨⟨xs,.inr hq⟩,p1 m1 H1 _ e1 S1 trivial ⟨fun k H' m' st' e S' c hk => ?_,fun k H' m' st' e S' c hk => ?_,fun k hk H' v H'' m' st' e S' c y => ?_⟩⟩⟩
    · have hx':k < xs.length:=by rw [← rws.length]; exact hk
      exact ⟨xs,xs[k],.inr hq,by simp [hx']⟩
    · exact ⟨xs,.inr hq,by rw [← rws.length,hk]; exact Nat.le_refl _⟩
    · obtain ⟨ee,y⟩:=y
      refine ⟨ee,?_⟩
      obtain ⟨x',ex',rx'⟩:=(RelWs.mono e _ _ rws).get (i:=k) (w:=ws[k]) (List.getElem?_eq_getElem hk)
      rw [y xs (.inr hq)] at ex'
      cases ex'
      exact rx'
  | _ => exact False.elim p1
theorem it_rng {lo:Int} {n:Nat} {m1:Mp} {H1:Hp}:ItFor X (none,rngW lo n) m1 H1 (Itr lo n) where
  go:=fun k H m' st e S c hk => by
    have:(rngW lo n).length = n:=rngW_len
    have hk':k < (rngW lo n).length:=hk
    rw [this] at hk'; exact hk'
  stop:=fun k H m' st e S c hk => by
    have:(rngW lo n).length = n:=rngW_len
    have hk':k = (rngW lo n).length:=hk
    rw [this] at hk'; exact Nat.le_of_eq hk'.symm
  yld:=fun k hk H v H' m' st e S c y => by
    obtain ⟨y1,y2⟩:=y
    refine ⟨y1,?_⟩
    have q:(rngW lo n)[k]'hk = .int (lo + k):=rngW_get hk
    show RelW X.K m' H ((rngW lo n)[k]'hk) v
    rw [q,y2]
    exact mkInt
noncomputable def rng1W (ws:List Wv) (st:Hs):Re Wk:=match ws with
  | [.int j] => if CRng j then .ok (none,rngW 0 j.toNat) st else .bad
  | _ => .bad
noncomputable def rng2W (ws:List Wv) (st:Hs):Re Wk:=match ws with
  | [.int a,.int j] => if CRng a ∧ CRng j then .ok (none,rngW a (j - a).toNat) st else .bad
  | _ => .bad
noncomputable def giR1 (g:GA):GI:=fun ρ st => (g ρ st).bind rng1W
noncomputable def giR2 (g:GA):GI:=fun ρ st => (g ρ st).bind rng2W
theorem ji_r1 {tg a:Expr} {ga:GA} {p q:Pos} (hg:Gl X "range") (hm:X.mg "range" = none) (ha:JA X [a] ga) (hst:starEach [a] X.env = [(false,eval a X.env)]):JI X tg (.Call (.Name "range" p) [a] [] q) (giR1 ga):=by
  refine ⟨_,pi_range1 hg hm pa_SA hst,fun ρ st σ H m Q S R p => ?_⟩
  refine ha.go S R (PostG.bind p) fun ws st1 vs m1 H1 p1 e1 S1 rs => ?_
  match ws,rs,p1 with
  | [],rs,p1 => exact False.elim p1
  | x :: y :: t,rs,p1 => cases x <;> exact False.elim p1
  | [x],rs,p1 =>
    obtain ⟨v,rfl,r1⟩:=rel1 rs
    cases x with
    | int j =>
      cases relInt r1
      unfold rng1W at p1
      by_cases c:CRng j
      · simp only [if_pos c] at p1
        exact ⟨j,rfl,c.1,c.2,p1 m1 H1 _ e1 S1 trivial it_rng⟩
      · simp only [if_neg c] at p1; exact False.elim p1
    | _ => exact False.elim p1
theorem ji_r2 {tg a b:Expr} {ga:GA} {p q:Pos} (hg:Gl X "range") (hm:X.mg "range" = none) (ha:JA X [a,b] ga) (hst:starEach [a,b] X.env = [(false,eval a X.env),(false,eval b X.env)]) (hst2:starEach [b] X.env = [(false,eval b X.env)]):JI X tg (.Call (.Name "range" p) [a,b] [] q) (giR2 ga):=by
  refine ⟨_,pi_range2 hg hm pa_SA hst hst2,fun ρ st σ H m Q S R p => ?_⟩
  refine ha.go S R (PostG.bind p) fun ws st1 vs m1 H1 p1 e1 S1 rs => ?_
  match ws,rs,p1 with
  | [],rs,p1 => exact False.elim p1
  | [x],rs,p1 => cases x <;> exact False.elim p1
  | x :: y :: z :: t,rs,p1 => cases x <;> cases y <;> exact False.elim p1
  | [x,y],rs,p1 =>
    obtain ⟨v,v',rfl,r1,r2⟩:=rel2 rs
    cases x with
    | int a =>
      cases y with
      | int j =>
        cases relInt r1; cases relInt r2
        unfold rng2W at p1
        by_cases c:CRng a ∧ CRng j
        · simp only [if_pos c] at p1
          exact ⟨a,j,rfl,⟨c.1.1,c.1.2,c.2.1,c.2.2⟩,p1 m1 H1 _ e1 S1 trivial it_rng⟩
        · simp only [if_neg c] at p1; exact False.elim p1
      | _ => exact False.elim p1
    | _ => cases y <;> exact False.elim p1
def gBadI:GI:=fun _ _ => .bad
theorem pi_never {tg iter:Expr}:PI X tg iter (fun _ _ _ => False):=fun _ _ _ _ _ _ h => h.elim
theorem ji_bad {tg iter:Expr}:JI X tg iter gBadI:=⟨_,pi_never,fun ρ st σ H m Q S R p => p⟩
noncomputable def compRun (cs:Caps) (gt:GT) (ge:GE) (ρ:Rho) (w:Wk) (st:Hs):Re Wv:=match compG (ckOf w) (fun v => gt (some v :: capR cs ρ)) (fun v => ge (some v :: capR cs ρ)) st.length w.2 (st ++ [.lst []]) with
  | some stF => .ok (.ref st.length) stF
  | none => .bad
noncomputable def gComp (cs:Caps) (gi:GI) (gt:GT) (ge:GE):GE:=fun ρ st => (gi ρ st).bind fun w st1 => compRun cs gt ge ρ w st1
theorem lstOf_app {st:Hs} {l:Nat} {ws:List Wv} {more:Hs} (h:lstOf st l = some ws):lstOf (st ++ more) l = some ws:=by
  unfold lstOf at h ⊢
  cases e:st[l]? with
  | none => rw [e] at h; cases h
  | some o =>
    have hl:=(List.getElem?_eq_some_iff.mp e).1
    rw [List.getElem?_append_left hl,e]
    rw [e] at h
    exact h
theorem ckOf_app {w:Wk} {st more:Hs} (h:ckOf w st):ckOf w (st ++ more):=by
  obtain ⟨o,ws⟩:=w
  cases o with
  | none => trivial
  | some l => exact lstOf_app h
theorem comp_go {scope:Scope} {x:Str} {cs:Caps} {px pos:Pos} {elt iter:Expr} {ifs:List Expr} {gi:GI} {gt:GT} {ge:GE} {use:Option (Value → Sem Unit)} {Q:Value → Shared → Prop} {P:Wv → Hs → Prop}
    {ρ:Rho} {st:Hs} {σ:St} {H:Hp} {m:Mp} {pins:List (Addr × Obj)} {s:Shared} {ps:Pos}
    (CS:CScope X scope x cs) (hc:X.calm = true) (hi:JI X (.Name x px) iter gi) (hE:∀ C s0 H0 fp pn,JE (compX X scope x cs C s0 H0 fp pn) elt ge) (hT:∀ C s0 H0 fp pn,JTs (compX X scope x cs C s0 H0 fp pn) ifs gt) (hs:∀ x,foldedSetIterable iter X.env x = pure x)
    (S:Sim X.K m st H) (R:RelEnv X.K m H ρ σ) (I:Inv X pins σ H s) (p:PostG X σ m H (gComp cs gi gt ge ρ st) P)
    (fin:∀ (w:Wv) (stF:Hs) (v:V) (D C:Addr) (mm:Str → Option Value) (m':Mp) (H':Hp) (s':Shared),P w stF → Ext X.K m H m' H' → Sim X.K m' stF H' → RelW X.K m' H' w v → v = .ref D → Inv X pins σ H' s' → FpOk X pins H' C → s'.heap.Ns C mm → compPost (model X.prog X.w) X.A X.xe use Q (.ref D) C (.ok .next) s') :
    wpAny (model X.prog X.w) X.A (comprehension (.ListComp elt [⟨.Name x px,iter,ifs,0⟩] scope pos) scope X.env ps (newList []) false (eval iter X.env) use) Q X.xe s:=by
  obtain ⟨wi,hpi,hw⟩:=hi
  let R':It → Hp → Prop:=fun J' H1 => ∃ (w:Wk) (st1:Hs) (m1:Mp),PostG X σ m H (compRun cs gt ge ρ w st1) P ∧ Ext X.K m H m1 H1 ∧ Sim X.K m1 st1 H1 ∧ ckOf w st1 ∧ ItFor X w m1 H1 J'
  have hr:=hw ρ st σ H m R' S R ((PostG.bind p).imp Ext.refl fun w st1 q m1 H1 J' e1 S1 c1 it1 => ⟨w,st1,m1,q,e1,S1,c1,it1⟩)
  refine wpAny_comprehension_free (g:=⟨.Name x px,iter,ifs,0⟩) (gs:=[]) (cl:=clF X.env scope.names []) rfl hs (clos_is (CS.has I.ok)) CS.kind (fun y hy e => by rw [CS.look y hy,e]) (thn (hpi pins s σ H R' I hr) fun v s1 h1 => thn h1 fun itv s2 h2 => ?_)
  obtain ⟨it,fp,tn,J',H1,rfl,I2,T,t0,f2,w,st1,m1,q,e1,S1,c1,it1⟩:=h2
  unfold compRun at q
  cases run:compG (ckOf w) (fun v => gt (some v :: capR cs ρ)) (fun v => ge (some v :: capR cs ρ)) st1.length w.2 (st1 ++ [.lst []]) with
  | none => rw [run] at q; exact False.elim q
  | some stF =>
    rw [run] at q
    refine comp_block (RR:=fun acc C => compPost (model X.prog X.w) X.A X.xe use Q acc C) CS hc I2 T t0 f2 S1 (R.mono e1) (ckOf_app c1) run (fun C s0 H0 pn => hE C s0 H0 fp pn) (fun C s0 H0 pn => hT C s0 H0 fp pn) it1.go it1.stop it1.yld ?_
    intro D C mm m' H' s' e' S' lab I' fC ns _
    exact fin _ stF (.ref D) D C mm m' H' s' q (e1.trans e') S' (by unfold RelW; exact ⟨D,rfl,lab⟩) rfl I' fC ns
theorem je_comp {scope:Scope} {x:Str} {cs:Caps} {px pos:Pos} {elt iter:Expr} {ifs:List Expr} {gi:GI} {gt:GT} {ge:GE}
    (CS:CScope X scope x cs) (hc:X.calm = true) (hi:JI X (.Name x px) iter gi) (hE:∀ C s0 H0 fp pn,JE (compX X scope x cs C s0 H0 fp pn) elt ge) (hT:∀ C s0 H0 fp pn,JTs (compX X scope x cs C s0 H0 fp pn) ifs gt) (hs:∀ x,foldedSetIterable iter X.env x = pure x) :
    JE X (.ListComp elt [⟨.Name x px,iter,ifs,0⟩] scope pos) (gComp cs gi gt ge):=fun ρ st σ H m Q S R p pins s I => by
  rw [eval_ListComp]
  refine comp_go (use:=none) CS hc hi hE hT hs S R I p ?_
  intro w stF v D C mm m' H' s' q e' S' rw' ev I' fC ns
  exact ⟨mm,ns,fun h' same => ⟨.ref D,H',comp_gone I' fC same,rfl,ev ▸ q v m' H' e' S' rw'⟩⟩
theorem js_setC (i:Nat) {scope:Scope} {x y:Str} {cs:Caps} {px pos spos py:Pos} {elt iter:Expr} {ifs:List Expr} {gi:GI} {gt:GT} {ge:GE} (hN:X.N.Nodup)
    (CS:CScope X scope x cs) (hc:X.calm = true) (hi:JI X (.Name x px) iter gi) (hE:∀ C s0 H0 fp pn,JE (compX X scope x cs C s0 H0 fp pn) elt ge) (hT:∀ C s0 H0 fp pn,JTs (compX X scope x cs C s0 H0 fp pn) ifs gt) (hs:∀ x,foldedSetIterable iter X.env x = pure x)
    (hx:X.N[i]? = some y) (hl:Loc X.env.scope y) (hf:X.fn y = true ∨ X.env.scope.names.lookup y = some .local) :
    JS X (.Assign [.Name y py] (.ListComp elt [⟨.Name x px,iter,ifs,0⟩] scope pos) spos) (gSet i (gComp cs gi gt ge)):=by
  have sw:∃ b,swapsWith (.ListComp elt [⟨.Name x px,iter,ifs,0⟩] scope pos) (some (.Name y py)) spos.line X.env = pure b:=⟨_,rfl⟩
  obtain ⟨b,sw⟩:=sw
  cases b with
  | false => exact js_set i hN (je_comp CS hc hi hE hT hs) hx hl sw hf
  | true =>
    intro ρ st σ H m D S R p pins s I
    rw [exec_Assign_Name_used _ _ _ _ sw]
    refine wpAny_bind (wpAny_standAt (wpAny_bind ?_))
    show wpAny _ X.A (do let _ ← comprehension (.ListComp elt [⟨.Name x px,iter,ifs,0⟩] scope pos) scope X.env _ (newList []) false (eval iter X.env) (some (assign (.Name y py) X.env))) _ _ s
    refine wpAny_bind (wpAny_mono (comp_go (use:=some (assign (.Name y py) X.env)) (Q:=fun _ s' => SP X pins D .next s') CS hc hi hE hT hs S R I (PostS.of_thn R p) ?_) (fun _ s' hq => wpAny_pure (wpAny_pure hq)) fun _ _ e => e)
    intro w stF v D' C mm m' H' s' q e' S' rw' ev I' fC ns
    refine wpAny_assign_Name (store_ok2 (i:=i) I' hN hx hl (show RelV v (.ref D') by rw [ev]; rfl) (fun s2 I2 h2 => ?_) hf)
    obtain ⟨a,sb,ha⟩:=h2
    have hca:C ≠ a:=by
      rcases ha with z | z
      · rw [z]; exact fC.2.1
      · exact Ne.symm (fC.2.2.2.2.1 y a z)
    exact ⟨mm,ns.sameBut sb hca,fun h' same => ⟨_,_,comp_gone I2 fC same,q _ m' H' e' S' ((R.mono e').set i rw')⟩⟩
end
end J
namespace J
open PySem PySem.Spec PyProof.Rows L2
section
variable {X:Cx}
def CRep (n:Nat) (k:Int):Prop:=-(2 ^ 62) ≤ k ∧ k < 2 ^ 62 ∧ n * k.toNat ≤ lim
noncomputable instance {n k}:Decidable (CRep n k):=Classical.propDecidable _
noncomputable def oMulL0:Op2
  | .ref l,.int n,st => match st[l]? with
    | some (.lst ws) => if CRep ws.length n then .ok (.ref st.length) (st ++ [.lst (List.replicate n.toNat ws).flatten]) else .bad
    | _ => .bad
  | x,y,st => oMulS x y st
theorem relWs_rep {K:PySem.W.Frag} {m:Mp} {H:Hp} {ws:List Wv} {xs:List V} (r:RelWs K m H ws xs):∀ n:Nat,RelWs K m H (List.replicate n ws).flatten (List.replicate n xs).flatten
  | 0 => RelWs.nil
  | n + 1 => by
    rw [List.replicate_succ,List.flatten_cons,List.replicate_succ,List.flatten_cons]
    exact r.append (relWs_rep r n)
theorem ow_mulL:OpW X (binaryOp .Mult) oMulL0:=by
  obtain ⟨r,h1,h2⟩:=ow_mulS (X:=X)
  refine ⟨_,OpR.or op_rep h1,fun x y a b st H m Q S rx ry p => ?_⟩
  unfold oMulL0 at p
  split at p
  · rename_i l n
    unfold RelW at rx
    obtain ⟨a1,rfl,hl⟩:=rx
    cases relInt ry
    cases e:st[l]? with
    | none => rw [e] at p; exact False.elim p
    | some o =>
      cases o with
      | dct kvs => rw [e] at p; exact False.elim p
      | dcT kvs => rw [e] at p; exact False.elim p
      | scr ns => rw [e] at p; exact False.elim p
      | lst ws =>
        rw [e] at p
        dsimp only at p
        by_cases c:CRep ws.length n
        · rw [if_pos c] at p
          obtain ⟨xs,q1,q2⟩:=S.lstAt hl e
          refine .inl ⟨a1,n,xs,rfl,rfl,q1,by have:=c.1; omega,by have:=c.2.1; omega,by rw [← q2.length]; exact lim_le c.2.2,fun q hq => ?_⟩
          exact new_list p Ext.refl S (relWs_rep q2 n.toNat) q hq
        · rw [if_neg c] at p; exact False.elim p
  · exact .inr (h2 x y a b st H m Q S rx ry p)
def blsOf:List Wv → Option (List Bool)
  | [] => some []
  | .bl b :: r => (match blsOf r with | some l => some (b :: l) | none => none)
  | _ => none
def oAll:List Wv → Hs → Re Wv
  | [.ref l],st => match lstOf st l with
    | some ws => (match blsOf ws with | some bs => .ok (.bl (bs.all id)) st | none => .bad)
    | none => .bad
  | _,_ => .bad
theorem blsOf_rel {K:PySem.W.Frag} {m:Mp} {H:Hp}:∀ {ws:List Wv} {xs:List V} {bs:List Bool},RelWs K m H ws xs → blsOf ws = some bs → xs = bs.map V.bl
  | [],xs,bs,r,h => by
    unfold RelWs at r
    cases h
    exact r
  | w :: ws,xs,bs,r,h => by
    unfold RelWs at r
    obtain ⟨x,t,rfl,r1,r2⟩:=r
    cases w with
    | bl b =>
      unfold blsOf at h
      cases e:blsOf ws with
      | none => rw [e] at h; cases h
      | some l =>
        rw [e] at h
        cases h
        unfold RelW at r1
        rw [r1,blsOf_rel r2 e]
        rfl
    | _ => cases h
theorem vals_bl:∀ {bs:List Bool} {its:List Value},Vals (bs.map V.bl) its → its = bs.map Value.bool
  | [],its,r => by cases r; rfl
  | b :: bs,its,r => by
    cases r with
    | cons h t =>
      cases h
      rw [List.map_cons,vals_bl t]
theorem all_range:∀ (bs:List Bool),(List.range bs.length).all (fun i => bs.getD i true) = bs.all id
  | [] => rfl
  | b :: bs => by
    rw [List.length_cons,List.range_succ_eq_map,List.all_cons,List.all_map,List.all_cons,← all_range bs]
    rfl
theorem call_allB (hc:X.calm = true):CallR X (.builtin "all") (fun xs H Q => ∃ (p:Addr) (bs:List Bool),xs = [.ref p] ∧ SqL X.K H p (bs.map V.bl) ∧ Q (.bl (bs.all id)) H):=by
  intro pins s σ H xs us Q I r h
  obtain ⟨p,bs,rfl,hq,q⟩:=h
  obtain ⟨u,rfl,rx⟩:=vals1 r
  cases rx
  obtain ⟨its,r',pl,hz⟩:=I.list hq
  have hb:=vals_bl r'
  subst hb
  have hl:=pl.isList
  have hlt:p < s.heap.objs.size:=by obtain ⟨_,e,_⟩:=hl; exact Heap.lt_size e
  refine call_all_walk (wpAny_pyIter_list hl ?_)
  refine ⟨_,_,_,_,_,_,fun i => bs.getD i true,rfl,Walks.list (A:=X.A.in1) (I.ok.hd hc) _ p (Nat.ne_of_lt hlt) (bs.map Value.bool).toArray,⟨⟨_,Heap.get?_push_size _ rfl,rfl,rfl⟩,hl.push _⟩,?_,fun h' tk hk => ?_⟩
  · intro i v s' Q' E' hP hQ
    have hP':(bs.map Value.bool).toArray[i]? = some v:=hP
    rw [List.getElem?_toArray,List.getElem?_map] at hP'
    cases e:bs[i]? with
    | none => rw [e] at hP'; cases hP'
    | some b =>
      rw [e] at hP'
      cases hP'
      have:(bs.getD i true) = b:=by rw [List.getD_eq_getElem?_getD,e]; rfl
      dsimp only at hQ
      rw [this] at hQ
      exact wpAny_truthy_bool hQ
  · have hk':∀ b o,s.heap.get? b = some o → h'.get? b = some o:=old_kept hk
    refine ⟨.bl _,H,I.kept (t':=tk) hk',?_,q⟩
    rw [← all_range bs]
    simp only [List.size_toArray,List.length_map]
    rfl
theorem cw_all (hc:X.calm = true):CallW X (.builtin "all") oAll:=⟨_,call_allB hc,fun ws vs st H m Q S rs p => by
  match ws,rs,p with
  | [],rs,p => exact False.elim p
  | x :: y :: t,rs,p => cases x <;> exact False.elim p
  | [x],rs,p =>
    obtain ⟨v,rfl,r1⟩:=rel1 rs
    cases x with
    | ref l =>
      unfold oAll at p
      unfold RelW at r1
      obtain ⟨a,rfl,hl⟩:=r1
      cases e:lstOf st l with
      | none => simp only [e] at p; exact False.elim p
      | some ws =>
        simp only [e] at p
        cases e2:blsOf ws with
        | none => simp only [e2] at p; exact False.elim p
        | some bs =>
          simp only [e2] at p
          obtain ⟨xs,q1,q2⟩:=S.read hl e
          have q3:=blsOf_rel q2 e2
          subst q3
          exact ⟨a,bs,rfl,q1,p _ m H Ext.refl S mkBl⟩
    | _ => exact False.elim p⟩
def oTupC:List Wv → Hs → Re Wv
  | [.ref l],st => match lstOf st l with
    | some ws => .ok (.tup ws) st
    | none => .bad
  | [.tup ws],st => .ok (.tup ws) st
  | _,_ => .bad
theorem cw_tup:CallW X (.type "tuple") oTupC:=⟨_,call_tuple_of,fun ws vs st H m Q S rs p => by
  match ws,rs,p with
  | [],rs,p => exact False.elim p
  | x :: y :: t,rs,p => cases x <;> exact False.elim p
  | [x],rs,p =>
    obtain ⟨v,rfl,r1⟩:=rel1 rs
    cases x with
    | ref l =>
      unfold oTupC at p
      unfold RelW at r1
      obtain ⟨a,rfl,hl⟩:=r1
      cases e:lstOf st l with
      | none => simp only [e] at p; exact False.elim p
      | some ws =>
        simp only [e] at p
        obtain ⟨xs,q1,q2⟩:=S.read hl e
        refine ⟨a,xs,rfl,.inl ⟨q1,fun q hq => ?_⟩⟩
        have e2:Ext X.K m H m (upd H q (.tup xs)):=Ext.upd (.inl hq)
        exact p (.ref q) m _ e2 (S.fresh hq) (by unfold RelW; exact ⟨q,xs,rfl,upd_same,RelWs.mono e2 _ _ q2⟩)
    | tup ws =>
      have r1':=r1
      unfold RelW at r1'
      obtain ⟨a,xs,rfl,q1,q2⟩:=r1'
      exact ⟨a,xs,rfl,.inr ⟨SqT.of q1,p _ m H Ext.refl S r1⟩⟩
    | _ => exact False.elim p⟩
end
end J
namespace J
open PySem PySem.Spec PyProof.Rows L2
section
variable {X:Cx}
def gAlt (ga gb:GE):GE:=fun ρ st => match ga ρ st with
  | .bad => gb ρ st
  | r => r
theorem je_alt {e:Expr} {ga gb:GE} (ha:JE X e ga) (hb:JE X e gb):JE X e (gAlt ga gb):=by
  intro ρ st σ H m Q S R p
  unfold gAlt at p
  cases e1:ga ρ st with
  | bad => rw [e1] at p; exact hb ρ st σ H m Q S R p
  | ok w st' => rw [e1] at p; exact ha ρ st σ H m Q S R (by rw [e1]; exact p)
  | err c st' => rw [e1] at p; exact ha ρ st σ H m Q S R (by rw [e1]; exact p)
def intsOf:List Wv → Option (List Int)
  | [] => some []
  | .int b :: r => (match intsOf r with | some l => some (b :: l) | none => none)
  | _ => none
theorem intsOf_rel {K:PySem.W.Frag} {m:Mp} {H:Hp}:∀ {ws:List Wv} {xs:List V} {bs:List Int},RelWs K m H ws xs → intsOf ws = some bs → xs = bs.map V.int
  | [],xs,bs,r,h => by
    unfold RelWs at r
    cases h
    exact r
  | w :: ws,xs,bs,r,h => by
    unfold RelWs at r
    obtain ⟨x,t,rfl,r1,r2⟩:=r
    cases w with
    | int b =>
      unfold intsOf at h
      cases e:intsOf ws with
      | none => rw [e] at h; cases h
      | some l =>
        rw [e] at h
        cases h
        unfold RelW at r1
        rw [r1,intsOf_rel r2 e]
        rfl
    | _ => cases h
theorem vals_int:∀ {ns:List Int} {its:List Value},Vals (ns.map V.int) its → ∃ xs:List (Int × Tok),its = xs.map (fun p => Value.int p.1 p.2) ∧ xs.map (·.1) = ns
  | [],its,r => by cases r; exact ⟨[],rfl,rfl⟩
  | n :: ns,its,r => by
    cases r with
    | cons h t =>
      obtain ⟨tk,rfl⟩:=h
      obtain ⟨xs,e1,e2⟩:=vals_int t
      exact ⟨(n,tk) :: xs,by rw [e1]; rfl,by rw [← e2]; rfl⟩
theorem numAt_map (xs:List (Int × Tok)) (i:Nat):numAt xs.toArray i = (xs.map (·.1)).getD i 0:=by
  unfold numAt
  rw [List.getElem?_toArray,List.getD_eq_getElem?_getD,List.getElem?_map]
def mxI (n:Int) (r:List Int):Int:=r.foldl (fun a b => if b > a then b else a) n
def mnI (n:Int) (r:List Int):Int:=r.foldl (fun a b => if b < a then b else a) n
theorem mnI_is:∀ (r:List Int) (n:Int),mnI n r ∈ n :: r ∧ ∀ a ∈ n :: r,mnI n r ≤ a
  | [],n => by simp [mnI]
  | b :: r,n => by
    have e:mnI n (b :: r) = mnI (if b < n then b else n) r:=rfl
    obtain ⟨h1,h2⟩:=mnI_is r (if b < n then b else n)
    rw [e]
    constructor
    · rcases List.mem_cons.mp h1 with z | z
      · rw [z]; split <;> simp
      · simp [z]
    · intro a ha
      have hn:mnI (if b < n then b else n) r ≤ n ∧ mnI (if b < n then b else n) r ≤ b:=by
        have q:=h2 _ List.mem_cons_self
        revert q
        split <;> intro q <;> constructor <;> omega
      rcases List.mem_cons.mp ha with z | z
      · rw [z]; exact hn.1
      · rcases List.mem_cons.mp z with z | z
        · rw [z]; exact hn.2
        · exact h2 a (List.mem_cons_of_mem _ z)
theorem mn_eq {n M:Int} {r:List Int} (h:M ∈ n :: r) (k:∀ a ∈ n :: r,M ≤ a):M = mnI n r:=by
  obtain ⟨h1,h2⟩:=mnI_is r n
  have:=h2 M h
  have:=k _ h1
  omega
theorem getD_memJ {l:List Int} {i:Nat} (h:i < l.length):l.getD i 0 ∈ l:=by
  rw [List.getD_eq_getElem?_getD,List.getElem?_eq_getElem h]
  exact List.getElem_mem h
theorem call_minL (hc:X.calm = true):CallR X (.builtin "min") (fun xs H Q => ∃ (p:Addr) (n:Int) (ns:List Int),xs = [.ref p] ∧ SqL X.K H p ((n :: ns).map V.int) ∧ Q (.int (mnI n ns)) H):=by
  intro pins s σ H xs us Q I r h
  obtain ⟨p,n,ns,rfl,hq,q⟩:=h
  obtain ⟨u,rfl,rx⟩:=vals1 r
  cases rx
  obtain ⟨its,r',pl,hz⟩:=I.list hq
  obtain ⟨xs,rfl,e0⟩:=vals_int r'
  have hl:=pl.isList
  have e:(xs.map fun p => Value.int p.1 p.2).toArray = intItems xs.toArray:=by unfold intItems; simp
  rw [e] at hl
  have hsz:xs.length = (n :: ns).length:=by rw [← e0]; simp
  have hs0:0 < xs.toArray.size:=by simp [hsz]
  refine min_intList (I.ok.hd hc) hl hs0 fun v h' tk hv hk => ?_
  obtain ⟨t,rfl⟩:=intItems_at hv
  obtain ⟨h1,h2⟩:=PySem.argBest_lt (numAt xs.toArray) (xs.toArray.size - 1)
  refine ⟨.int _,H,I.kept hk,⟨t,?_⟩,q⟩
  congr 1
  have hn:=fun i => numAt_map xs i
  rw [e0] at hn
  refine mn_eq ?_ fun a ha => ?_
  · rw [hn]
    refine getD_memJ ?_
    have:xs.toArray.size = (n :: ns).length:=by simp [hsz]
    omega
  · obtain ⟨j,hj,rfl⟩:=List.mem_iff_getElem.mp ha
    have q2 := h2 j (by have : xs.toArray.size = (n :: ns).length := by simp [hsz]
                        omega)
    rw [hn j,List.getD_eq_getElem?_getD,List.getElem?_eq_getElem hj] at q2
    exact q2
def oMax2:List Wv → Hs → Re Wv
  | [.ref l],st => match lstOf st l with
    | some ws => (match intsOf ws with | some (n :: r) => .ok (.int (mxI n r)) st | _ => .bad)
    | none => .bad
  | ws,st => oMax ws st
def oMin2:List Wv → Hs → Re Wv
  | [.ref l],st => match lstOf st l with
    | some ws => (match intsOf ws with | some (n :: r) => .ok (.int (mnI n r)) st | _ => .bad)
    | none => .bad
  | ws,st => oMin ws st
theorem CallW.or {f:Value} {op op':List Wv → Hs → Re Wv} (g:List Wv → Hs → Re Wv) (h:CallW X f op) (h':CallW X f op') (k:∀ ws st,g ws st = op ws st ∨ g ws st = op' ws st):CallW X f g:=by
  obtain ⟨r,h1,h2⟩:=h
  obtain ⟨r',h1',h2'⟩:=h'
  refine ⟨_,h1.or h1',fun ws vs st H m Q S rs p => ?_⟩
  rcases k ws st with e | e
  · rw [e] at p; exact .inl (h2 ws vs st H m Q S rs p)
  · rw [e] at p; exact .inr (h2' ws vs st H m Q S rs p)
def oMinL:List Wv → Hs → Re Wv
  | [.ref l],st => match lstOf st l with
    | some ws => (match intsOf ws with | some (n :: r) => .ok (.int (mnI n r)) st | _ => .bad)
    | none => .bad
  | _,_ => .bad
theorem cw_minL (hc:X.calm = true):CallW X (.builtin "min") oMinL:=⟨_,call_minL hc,fun ws vs st H m Q S rs p => by
  match ws,rs,p with
  | [],rs,p => exact False.elim p
  | x :: y :: t,rs,p => cases x <;> exact False.elim p
  | [x],rs,p =>
    obtain ⟨v,rfl,r1⟩:=rel1 rs
    cases x with
    | ref l =>
      unfold oMinL at p
      unfold RelW at r1
      obtain ⟨a,rfl,hl⟩:=r1
      cases e:lstOf st l with
      | none => simp only [e] at p; exact False.elim p
      | some ws =>
        simp only [e] at p
        cases e2:intsOf ws with
        | none => simp only [e2] at p; exact False.elim p
        | some bs =>
          cases bs with
          | nil => simp only [e2] at p; exact False.elim p
          | cons n bs =>
            simp only [e2] at p
            obtain ⟨xs,q1,q2⟩:=S.read hl e
            have q3:=intsOf_rel q2 e2
            subst q3
            exact ⟨a,n,bs,rfl,q1,p _ m H Ext.refl S mkInt⟩
    | _ => exact False.elim p⟩
theorem cw_min2 (hc:X.calm = true):CallW X (.builtin "min") oMin2:=CallW.or oMin2 (cw_minL hc) (cw_min hc) fun ws st => by
  unfold oMin2 oMinL
  split
  · exact .inl rfl
  · exact .inr rfl
end
end J
namespace J
open PySem PySem.Spec PyProof.Rows L2
section
variable {X:Cx}
def gMethS (mt:PySem.Str → List Wv → Hs → Re Wv) (go:GE) (ga:GA):GE:=fun ρ st => (go ρ st).bind fun o st1 => match o with
  | .str z => (ga ρ st1).bind fun ws st2 => (mt z ws st2).nox
  | _ => .bad
def MsW (X:Cx) (id:String) (mt:PySem.Str → List Wv → Hs → Re Wv):Prop:=∃ r,MtR X id r ∧ ∀ (z:PySem.Str) (ws:List Wv) (vs:List V) (st:Hs) (H:Hp) (m:Mp) (Q:VK),PyData.strOk z = true → Sim X.K m st H → RelWs X.K m H ws vs → PostO X.K m H (mt z ws st) Q → r (.str z) vs H Q
theorem je_methS {o:Expr} {name:Str} {id:String} {e:Expr} {es:List Expr} {go:GE} {ga:GA} {apos cpos:Pos} {mt:PySem.Str → List Wv → Hs → Re Wv} (hm:MsW X id mt) (slot:Slot "str" name id) (hty:typeOf (.builtin id) = pure (.type "method_descriptor")) (ho:JE X o go) (ha:JA X (e :: es) ga)
    (hbase:attributeBase o name X.env (eval o X.env) = eval o X.env)
    (hfew:((backTo cpos (starEach (e :: es) X.env)).all (fun x => !x.1) && (backToKw cpos (keywordEach [] X.env)).all (fun x => x.1.isSome) && decide ((e :: es).length + ([]:List Keyword).length + (if ([]:List Keyword).isEmpty then 0 else 1) < 30)) = true)
    (hline:(apos.endLine == cpos.line) = true) (hs:starEach (e :: es) X.env = (false,eval e X.env) :: starEach es X.env) (hplain:(backTo cpos (starEach es X.env)).any (·.1) = false) :
    JE X (.Call (.Attribute o name apos) (e :: es) [] cpos) (gMethS mt go ga):=by
  obtain ⟨r,h1,h2⟩:=hm
  refine JE.of (pe_bm PySem.F.plainAttrs_str slot hty h1 pe_SE pa_SA hbase hfew hline hs hplain) fun ρ st σ H m Q S R p => ?_
  refine ho.go S R (PostG.bind p) fun o st1 v m1 H1 p1 e1 S1 ro => ?_
  cases o with
  | str z =>
    dsimp only at p1
    unfold RelW at ro
    obtain ⟨rfl,hz⟩:=ro
    refine ⟨rfl,?_⟩
    refine ha.go S1 (R.mono e1) ((PostG.bind p1).imp e1 fun _ _ q => q) fun ws st2 vs m2 H2 p2 e2 S2 rs => ?_
    exact h2 z ws vs st2 H2 m2 Q hz S2 rs (PostO.shift (PostG.nox p2) (e1.trans e2))
  | _ => exact False.elim p1
def strsOf:List Wv → Option (List PySem.Str)
  | [] => some []
  | .str b :: r => (match strsOf r with | some l => some (b :: l) | none => none)
  | _ => none
theorem strsOf_map:∀ ns:List PySem.Str,strsOf (ns.map Wv.str) = some ns
  | [] => rfl
  | n :: r => by rw [List.map_cons]; unfold strsOf; rw [strsOf_map r]
theorem strsOf_rel {K:PySem.W.Frag} {m:Mp} {H:Hp}:∀ {ws:List Wv} {xs:List V} {bs:List PySem.Str},RelWs K m H ws xs → strsOf ws = some bs → xs = bs.map V.str ∧ ∀ b ∈ bs,PyData.strOk b = true
  | [],xs,bs,r,h => by
    unfold RelWs at r
    cases h
    exact ⟨r,fun _ z => by cases z⟩
  | w :: ws,xs,bs,r,h => by
    unfold RelWs at r
    obtain ⟨x,t,rfl,r1,r2⟩:=r
    cases w with
    | str b =>
      unfold strsOf at h
      cases e:strsOf ws with
      | none => rw [e] at h; cases h
      | some l =>
        rw [e] at h
        cases h
        unfold RelW at r1
        obtain ⟨rfl,hb⟩:=r1
        obtain ⟨q1,q2⟩:=strsOf_rel r2 e
        refine ⟨by rw [q1]; rfl,fun c hc => ?_⟩
        rcases List.mem_cons.mp hc with z | z
        · rw [z]; exact hb
        · exact q2 c z
    | _ => cases h
theorem vals_str:∀ {ns:List PySem.Str} {its:List Value},Vals (ns.map V.str) its → StrsAre its ns
  | [],its,r => by cases r; exact .nil
  | n :: ns,its,r => by
    cases r with
    | cons h t =>
      obtain ⟨tk,rfl⟩:=h
      exact .cons n tk (vals_str t)
theorem mt_join:MtR X "str.join" (fun x xs H Q => ∃ (z:PySem.Str) (p:Addr) (ys:List PySem.Str),x = .str z ∧ xs = [.ref p] ∧ (SqL X.K H p (ys.map V.str) ∨ SqT X.K H p (ys.map V.str)) ∧ (ys.map (·.length)).sum + ys.length * z.length ≤ 16777216 ∧ Q (.str (Txt.join z ys)) H):=by
  intro pins s σ H x xs v us Q I rx rv h
  obtain ⟨z,p,ys,rfl,rfl,hq,hz,q⟩:=h
  obtain ⟨t,rfl⟩:=rx
  obtain ⟨u,rfl,ru⟩:=vals1 rv
  cases ru
  rcases hq with hq | hq
  · obtain ⟨its,r',pl,_⟩:=I.list hq
    exact join_list pl.isList (by simpa using vals_str r') hz fun t' k => ⟨.str _,H,I.tok k,⟨t',rfl⟩,q⟩
  · obtain ⟨its,r',pl,_⟩:=I.tuple hq
    exact join_tuple pl (by simpa using vals_str r') hz fun t' k => ⟨.str _,H,I.tok k,⟨t',rfl⟩,q⟩
theorem strOk_iff {z:PySem.Str}:PyData.strOk z = true ↔ ∀ c ∈ z.cps.toList,c < 1114112:=by
  unfold PyData.strOk
  rw [Array.all_eq_true_iff_forall_mem]
  constructor
  · intro h c hc
    simpa using h c (Array.mem_toList_iff.mp hc)
  · intro h c hc
    simpa using h c (Array.mem_toList_iff.mpr hc)
theorem strOk_join {z:PySem.Str} {ys:List PySem.Str} (hz:PyData.strOk z = true) (hy:∀ b ∈ ys,PyData.strOk b = true):PyData.strOk (Txt.join z ys) = true:=by
  have ej:Txt.join z ys = PySem.Str.join z ys:=by simpa using join_plain_closes z ys
  rw [ej]
  rw [strOk_iff] at hz ⊢
  intro c hc
  rcases (mem_join z c ys).mp hc with ⟨t,ht,h⟩ | ⟨_,h⟩
  · exact (strOk_iff.mp (hy t ht)) c h
  · exact hz c h
def mJoin (z:PySem.Str):List Wv → Hs → Re Wv
  | [.ref l],st => match lstOf st l with
    | some ws => (match strsOf ws with | some ys => if (ys.map (·.length)).sum + ys.length * z.length ≤ 16777216 then .ok (.str (Txt.join z ys)) st else .bad | none => .bad)
    | none => .bad
  | [.tup ws],st => (match strsOf ws with | some ys => if (ys.map (·.length)).sum + ys.length * z.length ≤ 16777216 then .ok (.str (Txt.join z ys)) st else .bad | none => .bad)
  | _,_ => .bad
theorem ms_join:MsW X "str.join" mJoin:=⟨_,mt_join,fun z ws vs st H m Q hz S rs p => by
  match ws,rs,p with
  | [],rs,p => exact False.elim p
  | x :: y :: t,rs,p => cases x <;> exact False.elim p
  | [x],rs,p =>
    obtain ⟨v,rfl,r1⟩:=rel1 rs
    cases x with
    | ref l =>
      unfold mJoin at p
      unfold RelW at r1
      obtain ⟨a,rfl,hl⟩:=r1
      cases e:lstOf st l with
      | none => simp only [e] at p; exact False.elim p
      | some ws =>
        simp only [e] at p
        cases e2:strsOf ws with
        | none => simp only [e2] at p; exact False.elim p
        | some bs =>
          simp only [e2] at p
          by_cases c:(bs.map (·.length)).sum + bs.length * z.length ≤ 16777216
          · rw [if_pos c] at p
            obtain ⟨xs,q1,q2⟩:=S.read hl e
            obtain ⟨q3,q4⟩:=strsOf_rel q2 e2
            subst q3
            exact ⟨z,a,bs,rfl,rfl,.inl q1,c,p _ m H Ext.refl S (mkStr (strOk_join hz q4))⟩
          · rw [if_neg c] at p; exact False.elim p
    | tup ws =>
      unfold mJoin at p
      unfold RelW at r1
      obtain ⟨a,xs,rfl,q1,q2⟩:=r1
      cases e2:strsOf ws with
      | none => simp only [e2] at p; exact False.elim p
      | some bs =>
        simp only [e2] at p
        by_cases c:(bs.map (·.length)).sum + bs.length * z.length ≤ 16777216
        · rw [if_pos c] at p
          obtain ⟨q3,q4⟩:=strsOf_rel q2 e2
          subst q3
          exact ⟨z,a,bs,rfl,rfl,.inr (SqT.of q1),c,p _ m H Ext.refl S (mkStr (strOk_join hz q4))⟩
        · rw [if_neg c] at p; exact False.elim p
    | _ => exact False.elim p⟩
end
end J
namespace J
open PySem PySem.Spec PyProof.Rows L2
section
variable {X:Cx}
theorem sl_str:SlR X (fun x lo hi H Q => ∃ z,x = .str z ∧ z.length ≤ sizeLine ∧ Q (.str (Txt.slice z lo hi)) H):=by
  intro pins s σ H x v vl vu lo hi sl Q I rx hs pl pu h
  obtain ⟨z,rfl,hz,q⟩:=h
  obtain ⟨t,rfl⟩:=rx
  have fin:∀ t' k,EP X pins σ Q (.str (Txt.slice z lo hi) t') { s with toks:=k }:=fun t' k => ⟨.str _,H,I.tok k,⟨t',rfl⟩,q⟩
  refine ⟨"str",_,PySem.F.slot_str_getitem.lookup,typeIs_str _ _ _,?_⟩
  have hl:=Nat.le_trans (Txt.slice_le z lo hi) hz
  cases pl with
  | none =>
    cases pu with
    | none => exact wpAny_getItem_str_slice (l:=none) (u:=none) (st:=none) hs rfl (post_val_or_str ⟨hl,fin⟩)
    | int j tj => exact wpAny_getItem_str_slice (l:=none) (u:=some (j,tj)) (st:=none) hs rfl (post_val_or_str ⟨hl,fin⟩)
  | int i ti =>
    cases pu with
    | none => exact wpAny_getItem_str_slice (l:=some (i,ti)) (u:=none) (st:=none) hs rfl (post_val_or_str ⟨hl,fin⟩)
    | int j tj => exact wpAny_getItem_str_slice (l:=some (i,ti)) (u:=some (j,tj)) (st:=none) hs rfl (post_val_or_str ⟨hl,fin⟩)
theorem mem_slice {z:PySem.Str} {lo hi:Option Int} {c:Nat} (h:c ∈ (Txt.slice z lo hi).cps.toList):c ∈ z.cps.toList:=by
  unfold Txt.slice at h
  split at h
  · exact h
  · simp only [List.mem_filterMap] at h
    obtain ⟨i,_,e⟩:=h
    rw [Array.getElem?_eq_some_iff] at e
    obtain ⟨hi,rfl⟩:=e
    exact Array.mem_toList_iff.mpr (Array.getElem_mem hi)
theorem strOk_slice {z:PySem.Str} {lo hi:Option Int} (h:PyData.strOk z = true):PyData.strOk (Txt.slice z lo hi) = true:=by
  rw [strOk_iff] at h ⊢
  exact fun c hc => h c (mem_slice hc)
end
section
open HT
theorem getItem_whole {prog:Program} {w:World} {A:Around} {E:Value → Shared → Prop} {s:Shared} {t sl:Addr} {us:Array Value} {vl vu:Value} {lo hi:Option Int} {Q:Value → Shared → Prop} (ht:IsTup s.heap t us) (hs:s.heap.IsSliceOf sl vl vu .none) (pl:IsPart vl lo) (pu:IsPart vu hi)
    (hw:sIx us.size 0 lo = 0 ∧ sIx us.size us.size hi = us.size) (h:Q (.ref t) s):wpAny (model prog w) A (getItem (.ref t) (.ref sl)) Q E s:=by
  obtain ⟨os,o1,o2,o3⟩:=id hs
  have tys:s.TypeIs (.ref sl) "slice":=⟨os,o1,o2⟩
  unfold getItem; try with_reducible refine wpAny_holding ?_
  first | refine wpAny_bind (wpAny_pure ?_) | skip
  refine wpAny_bind (wpAny_sequenceKey ht.typeIs (by decide) ?_); refine wpAny_bind (wpAny_callSpecial?_slot (name:=Str.ofString "__getitem__") ht.typeIs PyProof.Rows.slot_tuple_getitem (wpAny_call_entry PyProof.Rows.slot_tuple_getitem ht.typeIs entry_tuple_getitem ?_ (args_tuple_getitem _ _)))
  show wpAny _ _ (Builtin.Tuple.tupleItemsOf (.ref t) >>= _) _ _ _; refine wpAny_bind (tupleItemsOf_ ht ?_); refine wpAny_bind (wpAny_typeOf tys ?_)
  rw [if_pos (by decide)]; refine wpAny_bind (sliceApplied_gen hs pl pu ?_)
  rw [hw.1,hw.2]
  have yes:((((0:Nat):Int)) == 0 && (1:Int) == 1 && (us.size - 0) == us.size) = true:=by simp
  show wpAny _ _ (if ((((0:Nat):Int)) == 0 && (1:Int) == 1 && (us.size - 0) == us.size) = true then _ else _) _ _ s
  rw [if_pos yes]
  refine wpAny_bind (m:=Builtin.Tuple.tupleIsExact _) ?_
  unfold Builtin.Tuple.tupleIsExact
  refine wpAny_bind (wpAny_typeOf ht.typeIs (wpAny_pure ?_))
  rw [if_pos (by decide)]
  exact wpAny_bind (wpAny_rule (wpAny_pure ⟨_,rfl,wpAny_pure h⟩))
end
section
variable {X:Cx}
def rSlW (K:PySem.W.Frag):V → Option Int → Option Int → Hp → VK → Prop:=fun x lo hi H Q => ∃ a xs,x = .ref a ∧ SqT K H a xs ∧ (HT.sIx xs.length 0 lo = 0 ∧ HT.sIx xs.length xs.length hi = xs.length) ∧ Q (.ref a) H
theorem sl_whole:SlR X (rSlW X.K):=by
  intro pins s σ H x v vl vu lo hi sl Q I rx hs pl pu h
  obtain ⟨a,xs,rfl,hx,hw,q⟩:=h
  cases rx
  obtain ⟨its,r,ht,hz⟩:=I.tuple hx
  have n:its.toArray.size = xs.length:=by rw [List.size_toArray]; exact r.length.symm
  exact ⟨"tuple",_,PyProof.Rows.slot_tuple_getitem.lookup,ht.typeIs,getItem_whole ht hs pl pu (by rw [n]; exact hw) ⟨.ref a,H,I,rfl,q⟩⟩
def isWh (n:Nat) (lo hi:Option Int):Prop:=HT.sIx n 0 lo = 0 ∧ HT.sIx n n hi = n
instance {n:Nat} {lo hi:Option Int}:Decidable (isWh n lo hi):=inferInstanceAs (Decidable (HT.sIx n 0 lo = 0 ∧ HT.sIx n n hi = n))
def oSl2 (x:Wv) (lo hi:Option Int) (st:Hs):Re Wv:=match x with
  | .str z => if z.length ≤ lim then .ok (.str (Txt.slice z lo hi)) st else .bad
  | .tup ws => if isWh ws.length lo hi then .ok (.tup ws) st else oSl (.tup ws) lo hi st
  | x => oSl x lo hi st
def gSlice2 (ga:GE) (gl gh:GO):GE:=fun ρ st => (ga ρ st).bind fun x st1 => (gl ρ st1).bind fun lo st2 => (gh ρ st2).bind fun hi st3 => oSl2 x lo hi st3
theorem je_slice2 {a:Expr} {lo hi:Option Expr} {ga:GE} {gl gh:GO} {pos p2:Pos} (ha:JE X a ga) (hl:JO X lo gl) (hh:JO X hi gh):JE X (.Subscript a (.Slice lo hi none p2) pos) (gSlice2 ga gl gh):=by
  have hS:JE X (.Subscript a (.Slice lo hi none p2) pos) (fun ρ st => (ga ρ st).bind fun x st1 => (gl ρ st1).bind fun lo st2 => (gh ρ st2).bind fun hi st3 => match x with | .str z => if z.length ≤ lim then .ok (.str (Txt.slice z lo hi)) st3 else .bad | _ => .bad):=by
    refine JE.of (pe_slice sl_str pe_SE po_SO po_SO) fun ρ st σ H m Q S R p => ?_
    refine ha.go S R (PostG.bind p) fun x st1 v m1 H1 p1 e1 S1 rx => ?_
    refine hl.go S1 (R.mono e1) ((PostG.bind p1).imp e1 fun _ _ q => q) fun l st2 m2 H2 p2 e2 S2 => ?_
    refine hh.go S2 (R.mono (e1.trans e2)) ((PostG.bind p2).imp (e1.trans e2) fun _ _ q => q) fun h st3 m3 H3 p3 e3 S3 => ?_
    have e13:=e1.trans (e2.trans e3)
    cases x with
    | str z =>
      dsimp only at p3
      by_cases c:z.length ≤ lim
      · rw [if_pos c] at p3
        unfold RelW at rx
        obtain ⟨rfl,hz⟩:=rx
        exact ⟨z,rfl,lim_le c,p3 _ m3 H3 e13 S3 (mkStr (strOk_slice hz))⟩
      · rw [if_neg c] at p3; exact False.elim p3
    | _ => exact False.elim p3
  have hW:JE X (.Subscript a (.Slice lo hi none p2) pos) (fun ρ st => (ga ρ st).bind fun x st1 => (gl ρ st1).bind fun lo st2 => (gh ρ st2).bind fun hi st3 => match x with | .tup ws => if isWh ws.length lo hi then .ok (.tup ws) st3 else oSl (.tup ws) lo hi st3 | _ => .bad):=by
    refine JE.of (pe_slice (SlR.or sl_whole sl_tup) pe_SE po_SO po_SO) fun ρ st σ H m Q S R p => ?_
    refine ha.go S R (PostG.bind p) fun x st1 v m1 H1 p1 e1 S1 rx => ?_
    refine hl.go S1 (R.mono e1) ((PostG.bind p1).imp e1 fun _ _ q => q) fun l st2 m2 H2 p2 e2 S2 => ?_
    refine hh.go S2 (R.mono (e1.trans e2)) ((PostG.bind p2).imp (e1.trans e2) fun _ _ q => q) fun h st3 m3 H3 p3 e3 S3 => ?_
    have e13:=e1.trans (e2.trans e3)
    cases x with
    | tup ws =>
      dsimp only at p3
      have rx':=RelW.mono (e2.trans e3) _ _ rx
      unfold RelW at rx'
      obtain ⟨a',xs,rfl,f1,f2⟩:=rx'
      by_cases c:isWh ws.length l h
      · rw [if_pos c] at p3
        unfold isWh at c
        rw [f2.length] at c
        exact .inl ⟨a',xs,rfl,SqT.of f1,c,p3 _ m3 H3 e13 S3 (by unfold RelW; exact ⟨a',xs,rfl,f1,f2⟩)⟩
      · rw [if_neg c] at p3
        unfold oSl at p3
        dsimp only at p3
        unfold isWh at c
        rw [if_neg c] at p3
        rw [f2.length] at c
        refine .inr ⟨a',xs,rfl,SqT.of f1,c,fun q hq => ?_⟩
        have eU:Ext X.K m3 H3 m3 (L2.upd H3 q (.tup (cutV xs l h))):=Ext.updW (.inl hq)
        exact p3 (.ref q) m3 _ (e13.trans eU) (S3.fresh hq) (by unfold RelW; exact ⟨q,_,rfl,L2.upd_same,RelWs.mono eU _ _ (cut_rel f2)⟩)
    | _ => exact False.elim p3
  intro ρ st σ H m Q S R p
  unfold gSlice2 at p
  cases e1:ga ρ st with
  | bad => rw [e1] at p; exact False.elim p
  | err c st1 => rw [e1] at p; exact je_slice ha hl hh ρ st σ H m Q S R (by unfold gSlice; rw [e1]; exact p)
  | ok x st1 =>
    rw [e1] at p
    cases x with
    | str z => exact hS ρ st σ H m Q S R (by dsimp only; rw [e1]; exact p)
    | tup ws => exact hW ρ st σ H m Q S R (by dsimp only; rw [e1]; exact p)
    | _ => exact je_slice ha hl hh ρ st σ H m Q S R (by unfold gSlice; rw [e1]; exact p)
def oIn2:Op2
  | .str i,.str j,st => .ok (.bl (!(Builtin.Str.occurrences j i 0 j.length 1).isEmpty)) st
  | x,y,st => oIn x y st
def oNotIn2:Op2
  | .str i,.str j,st => .ok (.bl (!(!(Builtin.Str.occurrences j i 0 j.length 1).isEmpty))) st
  | x,y,st => oNotIn x y st
theorem ow_in2:OpW X (compareOp .In) oIn2:=by
  obtain ⟨r,h1,h2⟩:=ow_in (X:=X)
  refine ⟨_,OpR.or op_in_str h1,fun x y a b st H m Q S rx ry p => ?_⟩
  unfold oIn2 at p
  split at p
  · rename_i i j
    unfold RelW at rx ry
    obtain ⟨rfl,_⟩:=rx
    obtain ⟨rfl,_⟩:=ry
    exact .inl ⟨i,j,rfl,rfl,p _ m H Ext.refl S mkBl⟩
  · exact .inr (h2 x y a b st H m Q S rx ry p)
theorem ow_notIn2:OpW X (compareOp .NotIn) oNotIn2:=by
  obtain ⟨r,h1,h2⟩:=ow_notIn (X:=X)
  refine ⟨_,OpR.or op_notIn_str h1,fun x y a b st H m Q S rx ry p => ?_⟩
  unfold oNotIn2 at p
  split at p
  · rename_i i j
    unfold RelW at rx ry
    obtain ⟨rfl,_⟩:=rx
    obtain ⟨rfl,_⟩:=ry
    exact .inl ⟨i,j,rfl,rfl,p _ m H Ext.refl S mkBl⟩
  · exact .inr (h2 x y a b st H m Q S rx ry p)
theorem mt_count:MtR X "str.count" (fun x xs H Q => ∃ z y,x = .str z ∧ xs = [.str y] ∧ Q (.int (Txt.count z y)) H):=by
  intro pins s σ H x xs v us Q I rx rv h
  obtain ⟨z,y,rfl,rfl,q⟩:=h
  obtain ⟨t,rfl⟩:=rx
  obtain ⟨u,rfl,t',rfl⟩:=vals1 rv
  exact SC.count ⟨.int _,H,I.tok _,⟨_,rfl⟩,q⟩
theorem mt_index:MtR X "str.index" (fun x xs H Q => ∃ z y i r,x = .str z ∧ xs = [.str y] ∧ Builtin.Str.occurrences z y 0 z.length 1 = i :: r ∧ Q (.int (i:Nat)) H):=by
  intro pins s σ H x xs v us Q I rx rv h
  obtain ⟨z,y,i,r,rfl,rfl,ho,q⟩:=h
  obtain ⟨t,rfl⟩:=rx
  obtain ⟨u,rfl,t',rfl⟩:=vals1 rv
  exact SC.index ho ⟨.int _,H,I.tok _,⟨_,rfl⟩,q⟩
def mCount (z:PySem.Str):List Wv → Hs → Re Wv
  | [.str y],st => .ok (.int (Txt.count z y)) st
  | _,_ => .bad
def mIndex (z:PySem.Str):List Wv → Hs → Re Wv
  | [.str y],st => (match Builtin.Str.occurrences z y 0 z.length 1 with | i :: _ => .ok (.int (i:Nat)) st | [] => .bad)
  | _,_ => .bad
theorem ms_count:MsW X "str.count" mCount:=⟨_,mt_count,fun z ws vs st H m Q hz S rs p => by
  match ws,rs,p with
  | [],rs,p => exact False.elim p
  | x :: y :: t,rs,p => cases x <;> exact False.elim p
  | [x],rs,p =>
    obtain ⟨v,rfl,r1⟩:=rel1 rs
    cases x with
    | str y => unfold RelW at r1; obtain ⟨rfl,_⟩:=r1; exact ⟨z,y,rfl,rfl,p _ m H Ext.refl S mkInt⟩
    | _ => exact False.elim p⟩
theorem ms_index:MsW X "str.index" mIndex:=⟨_,mt_index,fun z ws vs st H m Q hz S rs p => by
  match ws,rs,p with
  | [],rs,p => exact False.elim p
  | x :: y :: t,rs,p => cases x <;> exact False.elim p
  | [x],rs,p =>
    obtain ⟨v,rfl,r1⟩:=rel1 rs
    cases x with
    | str y =>
      unfold RelW at r1
      obtain ⟨rfl,_⟩:=r1
      unfold mIndex at p
      dsimp only at p
      cases e:Builtin.Str.occurrences z y 0 z.length 1 with
      | nil => rw [e] at p; exact False.elim p
      | cons i r => rw [e] at p; exact ⟨z,y,i,r,rfl,rfl,e,p _ m H Ext.refl S mkInt⟩
    | _ => exact False.elim p⟩
end
end J
namespace J
open PySem PySem.Spec PyProof.Rows L2 PySem.W
section
variable {X:Cx}
end
section
variable {X:Cx}
end
section
variable {X:Cx}
end
end J
namespace J
open PySem PySem.Spec PyProof.Rows L2
def Its (x:Str):It:=⟨fun i _ => i < x.cps.size,fun i H v H' => H' = H ∧ ∃ c,x.cps[i]? = some c ∧ v = .str ⟨#[c]⟩,fun i _ => x.cps.size ≤ i⟩
theorem turn_ascii {P:Program} {w:World} {K:PySem.W.Frag} {tg:Expr} (x:Str) (t:Tok) (it:Addr):Turn P w K tg (Its x) [it] it (fun i h => h.IsStrIter it "str_ascii_iterator" x t i) where
  mem:=List.mem_singleton.mpr rfl
  obj:=fun i h st b hb => by
    cases List.mem_singleton.mp hb
    obtain ⟨o,e,c,d⟩:=st
    exact ⟨o,e,fun v z => by rw [d] at z; cases z⟩
  keep:=fun i h h' st k => let ⟨o,e,r⟩:=st; ⟨o,k it (List.mem_singleton.mpr rfl) o e,r⟩
  item:=by
    intro X hP hw hK hc i pins s σ H E I hf st hg
    subst hP; subst hw; subst hK
    obtain ⟨f0,f1,f2,f3,f4,f5⟩:=hf it (List.mem_singleton.mpr rfl)
    have hi:i < x.cps.size:=hg
    refine wpAny_pyNext_ascii_item st (c:=x.cps[i]) (by simp [hi]) fun h' st' sb => ?_
    have I1:L2.Inv X pins σ H { s with heap:=h',toks:=s.toks + 1 }:=I.turned (t':=s.toks + 1) (fun b o hb e => sb.extBut b o hb e) f0 f1 f3 f4 f5
    obtain ⟨o,e,c,d⟩:=id st'
    exact ⟨_,rfl,go_of (s:={ s with heap:=h',toks:=s.toks + 1 }) e c d (by decide) ⟨.str ⟨#[x.cps[i]]⟩,H,I1,⟨_,rfl⟩,⟨rfl,_,by simp [hi],rfl⟩,st',fun b hb => (hf b hb).1⟩⟩
  done:=by
    intro X hP hw hK hc i pins s σ H E I hf st hg
    subst hP; subst hw; subst hK
    obtain ⟨f0,f1,f2,f3,f4,f5⟩:=hf it (List.mem_singleton.mpr rfl)
    have hi:x.cps.size ≤ i:=hg
    exact wpAny_pyNext_ascii_end (I.ok.hd hc) st (by simp [hi]) fun h' eb => ⟨rfl,I.turned (t':=s.toks) (fun b o hb e => eb b o hb e) f0 f1 f3 f4 f5⟩
  self:=fun _ _ _ _ _ st h => wpAny_pyIter_striter_ascii st h
theorem turn_wide {P:Program} {w:World} {K:PySem.W.Frag} {tg:Expr} (x:Str) (t:Tok) (it:Addr):Turn P w K tg (Its x) [it] it (fun i h => h.IsStrIter it "str_iterator" x t i) where
  mem:=List.mem_singleton.mpr rfl
  obj:=fun i h st b hb => by
    cases List.mem_singleton.mp hb
    obtain ⟨o,e,c,d⟩:=st
    exact ⟨o,e,fun v z => by rw [d] at z; cases z⟩
  keep:=fun i h h' st k => let ⟨o,e,r⟩:=st; ⟨o,k it (List.mem_singleton.mpr rfl) o e,r⟩
  item:=by
    intro X hP hw hK hc i pins s σ H E I hf st hg
    subst hP; subst hw; subst hK
    obtain ⟨f0,f1,f2,f3,f4,f5⟩:=hf it (List.mem_singleton.mpr rfl)
    have hi:i < x.cps.size:=hg
    refine wpAny_pyNext_wide_item st (c:=x.cps[i]) (by simp [hi]) fun h' st' sb => ?_
    have I1:L2.Inv X pins σ H { s with heap:=h',toks:=s.toks + 1 }:=I.turned (t':=s.toks + 1) (fun b o hb e => sb.extBut b o hb e) f0 f1 f3 f4 f5
    obtain ⟨o,e,c,d⟩:=id st'
    exact ⟨_,rfl,go_of (s:={ s with heap:=h',toks:=s.toks + 1 }) e c d (by decide) ⟨.str ⟨#[x.cps[i]]⟩,H,I1,⟨_,rfl⟩,⟨rfl,_,by simp [hi],rfl⟩,st',fun b hb => (hf b hb).1⟩⟩
  done:=by
    intro X hP hw hK hc i pins s σ H E I hf st hg
    subst hP; subst hw; subst hK
    obtain ⟨f0,f1,f2,f3,f4,f5⟩:=hf it (List.mem_singleton.mpr rfl)
    have hi:x.cps.size ≤ i:=hg
    exact wpAny_pyNext_wide_end (I.ok.hd hc) st (by simp [hi]) fun h' eb => ⟨rfl,I.turned (t':=s.toks) (fun b o hb e => eb b o hb e) f0 f1 f3 f4 f5⟩
  self:=fun _ _ _ _ _ st h => wpAny_pyIter_striter_wide st h
section
variable {X:Cx}
theorem pi_str {tg l:Expr} {tl:TE} (hl:PE X l tl):PI X tg l (fun σ H R => tl σ H fun v H1 => ∃ z,v = .str z ∧ R (Its z) H1):=by
  intro pins s σ H R I h
  refine thn (hl pins s σ H _ I h) fun v s1 ⟨x,H1,I1,r1,z,e,q⟩ => ?_
  subst e
  obtain ⟨t,rfl⟩:=r1
  have frs:∀ b ∈ [s1.heap.objs.size],FpOk X pins H1 b:=fun b hb => by
    cases List.mem_singleton.mp hb
    exact I1.fpOk (Nat.le_refl _) (I1.hok.fresh (Nat.le_refl _))
  cases ha:z.cps.all (· < 128)
  · exact wpAny_pyIter_wide ha ⟨s1.heap.objs.size,[s1.heap.objs.size],_,_,H1,rfl,I1.kept (t':=s1.toks) fun b o e => Heap.get?_push_of_some _ e,turn_wide z t _,⟨_,Heap.get?_push_size _ rfl,rfl,rfl⟩,frs,q⟩
  · exact wpAny_pyIter_ascii ha ⟨s1.heap.objs.size,[s1.heap.objs.size],_,_,H1,rfl,I1.kept (t':=s1.toks) fun b o e => Heap.get?_push_of_some _ e,turn_ascii z t _,⟨_,Heap.get?_push_size _ rfl,rfl,rfl⟩,frs,q⟩
def signsW (z:PySem.Str):List Wv:=z.cps.toList.map fun c => Wv.str ⟨#[c]⟩
def seqW2 (w:Wv) (st:Hs):Re Wk:=match w with
  | .str z => .ok (none,signsW z) st
  | w => seqW w st
def giSeq2 (g:GE):GI:=fun ρ st => (g ρ st).bind seqW2
theorem it_str {z:PySem.Str} {m1:Mp} {H1:Hp} (hz:PyData.strOk z = true):ItFor X (none,signsW z) m1 H1 (Its z) where
  go:=fun k H m' st _ _ _ hk => by
    have:k < z.cps.size:=by simpa [signsW] using hk
    exact this
  stop:=fun k H m' st _ _ _ hk => by
    have:k = z.cps.size:=by simpa [signsW] using hk
    exact Nat.le_of_eq this.symm
  yld:=fun k hk H v H' m' st _ _ _ y => by
    obtain ⟨rfl,c,hc,rfl⟩:=y
    refine ⟨rfl,?_⟩
    have hk':k < z.cps.size:=by simpa [signsW] using hk
    have e:∀ h:k < (signsW z).length,(signsW z)[k]'h = .str ⟨#[z.cps[k]]⟩:=by intro h; simp [signsW]
    have hc':z.cps[k] = c:=by simpa [hk'] using hc
    show RelW X.K m' H' ((signsW z)[k]'hk) _
    rw [e hk,hc']
    refine mkStr ?_
    rw [strOk_iff] at hz ⊢
    intro d hd
    simp at hd
    rw [hd,← hc']
    exact hz _ (by simp)
theorem ji_seq2 {tg iter:Expr} {g:GE} (h:JE X iter g):JI X tg iter (giSeq2 g):=by
  obtain ⟨w1,h1,k1⟩:=ji_seq (tg:=tg) h
  refine ⟨fun σ H R => w1 σ H R ∨ (SE X iter σ H fun v H1 => ∃ z,v = .str z ∧ R (Its z) H1),fun pins s σ H R I q => ?_,fun ρ st σ H m R S RR p => ?_⟩
  · rcases q with q | q
    · exact h1 pins s σ H R I q
    · exact pi_str pe_SE pins s σ H R I q
  · unfold giSeq2 at p
    cases e:g ρ st with
    | bad => rw [e] at p; exact False.elim p
    | err c st' => rw [e] at p; exact .inl (k1 ρ st σ H m R S RR (by unfold giSeq; rw [e]; exact p))
    | ok w st' =>
      rw [e] at p
      cases w with
      | str z =>
        refine .inr ?_
        refine h.go (ok:=fun w st1 => w = .str z ∧ st1 = st') S RR (by rw [e]; exact ⟨rfl,rfl⟩) fun w st1 v m1 H1 q e1 S1 r1 => ?_
        obtain ⟨rfl,rfl⟩:=q
        unfold RelW at r1
        obtain ⟨rfl,hz⟩:=r1
        exact ⟨z,rfl,p m1 H1 _ e1 S1 trivial (it_str hz)⟩
      | _ => exact .inl (k1 ρ st σ H m R S RR (by unfold giSeq; rw [e]; exact p))
end
end J
namespace J
open PySem PySem.Spec PyProof.Rows L2
section
variable {X:Cx}
theorem countP_eqU {x:V}:∀ {xs:List V} {us:List Value},Vals xs us → xs.all flatV = true → us.countP (eqU x) = xs.countP fun y => eqV y x
  | _,_,.nil,_ => rfl
  | y :: xs,u :: us,.cons r t,f => by
    rw [List.all_cons,Bool.and_eq_true] at f
    rw [List.countP_cons,List.countP_cons,eqU_of r f.1,countP_eqU t f.2]
theorem mt_lcount:MtR X "list.count" (fun x xs H Q => ∃ (p:Addr) (ys:List V) (y:V),x = .ref p ∧ xs = [y] ∧ SqL X.K H p ys ∧ flatV y = true ∧ ys.all flatV = true ∧ Q (.int (ys.countP fun z => eqV z y:Nat)) H):=by
  intro pins s σ H x xs v us Q I rx rv h
  obtain ⟨p,ys,y,rfl,rfl,hq,fy,fs,q⟩:=h
  cases rx
  obtain ⟨u,rfl,ru⟩:=vals1 rv
  obtain ⟨its,r,pl,hz⟩:=I.list hq
  obtain ⟨⟨cls,dd,data,sl⟩,ho,hc,n,hd⟩:=pl.isList
  simp only at hc hd
  subst hc; subst hd
  refine call_meets PySem.F.slot_list_count ⟨_,ho,rfl⟩ PySem.F.entry_list_count (PySem.F.args_list_count_2 _ _) (SeqAt.list_countAt p its.toArray n dd sl u (eqU y)) ⟨ho,fun w hw => mem_eqAt ru fy r fs w (by simpa using hw),?_⟩
  refine ⟨.int _,H,I.tok _,⟨s.toks,?_⟩,q⟩
  rw [List.toList_toArray,countP_eqU r fs]
theorem mt_lindex:MtR X "list.index" (fun x xs H Q => ∃ (p:Addr) (ys:List V) (y:V) (j:Nat),x = .ref p ∧ xs = [y] ∧ SqL X.K H p ys ∧ flatV y = true ∧ ys.all flatV = true ∧ ys.findIdx? (fun z => eqV z y) = some j ∧ Q (.int (j:Nat)) H):=by
  intro pins s σ H x xs v us Q I rx rv h
  obtain ⟨p,ys,y,j,rfl,rfl,hq,fy,fs,hj,q⟩:=h
  cases rx
  obtain ⟨u,rfl,ru⟩:=vals1 rv
  obtain ⟨its,r,pl,hz⟩:=I.list hq
  have hlen:=r.length
  obtain ⟨⟨cls,dd,data,sl⟩,ho,hc,n,hd⟩:=pl.isList
  simp only at hc hd
  subst hc; subst hd
  rw [List.findIdx?_eq_some_iff_getElem] at hj
  obtain ⟨hj1,hj2,hj3⟩:=hj
  have at':∀ (k:Nat) (h:k < ys.length) (h':k < its.length),eqU y its[k] = eqV ys[k] y:=by
    intro k h h'
    obtain ⟨w,hw,rw'⟩:=r.get (List.getElem?_eq_getElem h)
    rw [List.getElem?_eq_getElem h'] at hw
    cases hw
    exact eqU_of rw' (List.all_eq_true.mp fs _ (List.getElem_mem h))
  have hs:sizeLine = 16777216:=sizeLine_eq
  refine call_meets PySem.F.slot_list_index ⟨_,ho,rfl⟩ PySem.F.entry_list_index (PySem.F.args_list_index_2 _ _) (SeqAt.list_indexAt p its.toArray n dd sl u (eqU y) j (by simp; omega) (by omega) ?_ ?_) ⟨ho,fun w hw => mem_eqAt ru fy r fs w (by simpa using hw),⟨.int _,H,I.tok _,⟨_,rfl⟩,q⟩⟩
  · rw [List.getElem_toArray,at' j hj1 (by omega)]; exact hj2
  · intro m hm hlt
    rw [List.getElem_toArray,at' m (by omega) (by omega)]
    simpa using hj3 m hlt
def mLCount (o v:Wv) (st:Hs):Re Wv:=match o with
  | .ref l => (match lstOf st l with
    | some ws => if flatW v = true ∧ ws.all flatW = true then .ok (.int (ws.countP fun z => eqF z v:Nat)) st else .bad
    | none => .bad)
  | _ => .bad
def mLIndex (o v:Wv) (st:Hs):Re Wv:=match o with
  | .ref l => (match lstOf st l with
    | some ws => if flatW v = true ∧ ws.all flatW = true then (match ws.findIdx? (fun z => eqF z v) with | some j => .ok (.int (j:Nat)) st | none => .bad) else .bad
    | none => .bad)
  | _ => .bad
theorem flatsW_rel {m:Mp} {H:Hp}:∀ {ws:List Wv} {xs:List V},RelWs X.K m H ws xs → ws.all flatW = true → xs.all flatV = true
  | [],xs,r,_ => by unfold RelWs at r; subst r; rfl
  | w :: ws,xs,r,f => by
    unfold RelWs at r
    obtain ⟨x,t,rfl,r1,r2⟩:=r
    rw [List.all_cons,Bool.and_eq_true] at f ⊢
    exact ⟨flat_rel r1 f.1,flatsW_rel r2 f.2⟩
theorem count_rel {m:Mp} {H:Hp} {v:Wv} {y:V} (rv:RelW X.K m H v y) (fv:flatW v = true):∀ {ws:List Wv} {xs:List V},RelWs X.K m H ws xs → ws.all flatW = true → (xs.countP fun z => eqV z y) = ws.countP fun z => eqF z v
  | [],xs,r,_ => by unfold RelWs at r; subst r; rfl
  | w :: ws,xs,r,f => by
    unfold RelWs at r
    obtain ⟨x,t,rfl,r1,r2⟩:=r
    rw [List.all_cons,Bool.and_eq_true] at f
    rw [List.countP_cons,List.countP_cons,count_rel rv fv r2 f.2,eqF_rel r1 rv f.1 fv]
theorem find_rel {m:Mp} {H:Hp} {v:Wv} {y:V} (rv:RelW X.K m H v y) (fv:flatW v = true):∀ {ws:List Wv} {xs:List V},RelWs X.K m H ws xs → ws.all flatW = true → xs.findIdx? (fun z => eqV z y) = ws.findIdx? fun z => eqF z v
  | [],xs,r,_ => by unfold RelWs at r; subst r; rfl
  | w :: ws,xs,r,f => by
    unfold RelWs at r
    obtain ⟨x,t,rfl,r1,r2⟩:=r
    rw [List.all_cons,Bool.and_eq_true] at f
    rw [List.findIdx?_cons,List.findIdx?_cons,find_rel rv fv r2 f.2,eqF_rel r1 rv f.1 fv]
theorem mw_lcount:MtW X "list.count" mLCount:=⟨_,mt_lcount,fun o w x v st H m Q S ro rw' p => by
  cases o with
  | ref l =>
    unfold RelW at ro
    obtain ⟨a,rfl,ha⟩:=ro
    unfold mLCount at p
    cases e:lstOf st l with
    | none => simp only [e] at p; exact False.elim p
    | some ws =>
      simp only [e] at p
      by_cases c:flatW w = true ∧ ws.all flatW = true
      · rw [if_pos c] at p
        obtain ⟨xs,q1,q2⟩:=S.read ha e
        refine ⟨a,xs,v,rfl,rfl,q1,flat_rel rw' c.1,flatsW_rel q2 c.2,?_⟩
        rw [count_rel rw' c.1 q2 c.2]
        exact p _ m H Ext.refl S mkInt
      · rw [if_neg c] at p; exact False.elim p
  | _ => exact False.elim p⟩
theorem mw_lindex:MtW X "list.index" mLIndex:=⟨_,mt_lindex,fun o w x v st H m Q S ro rw' p => by
  cases o with
  | ref l =>
    unfold RelW at ro
    obtain ⟨a,rfl,ha⟩:=ro
    unfold mLIndex at p
    cases e:lstOf st l with
    | none => simp only [e] at p; exact False.elim p
    | some ws =>
      simp only [e] at p
      by_cases c:flatW w = true ∧ ws.all flatW = true
      · rw [if_pos c] at p
        obtain ⟨xs,q1,q2⟩:=S.read ha e
        cases ej:ws.findIdx? (fun z => eqF z w) with
        | none => rw [ej] at p; exact False.elim p
        | some j =>
          rw [ej] at p
          exact ⟨a,xs,v,j,rfl,rfl,q1,flat_rel rw' c.1,flatsW_rel q2 c.2,by rw [find_rel rw' c.1 q2 c.2]; exact ej,p _ m H Ext.refl S mkInt⟩
      · rw [if_neg c] at p; exact False.elim p
  | _ => exact False.elim p⟩
end
end J
namespace J
open PySem PySem.Spec PyProof.Rows L2
def valW {κ:Type} [DecidableEq κ] (kvs:List (κ × Wv)) (k:κ):Option Wv:=match kvs with
  | [] => none
  | p :: r => if p.1 = k then some p.2 else valW r k
def putW {κ:Type} [DecidableEq κ] (kvs:List (κ × Wv)) (k:κ) (v:Wv):List (κ × Wv):=if (kvs.any fun kv => decide (kv.1 = k)) = true then kvs.map (fun kv => if kv.1 = k then (kv.1,v) else kv) else kvs ++ [(k,v)]
section
variable {K:PySem.W.Frag} {m:Mp} {H:Hp} {κ:Type}
theorem RelK.nil:RelK (κ:=κ) K m H [] []:=⟨rfl,RelWs.nil⟩
theorem RelK.cons {k:κ} {w:Wv} {v:V} {kvs:List (κ × Wv)} {xs:List (κ × V)} (h:RelW K m H w v) (t:RelK K m H kvs xs):RelK K m H ((k,w) :: kvs) ((k,v) :: xs) :=
  ⟨by simp [t.1],by simpa using RelWs.cons h t.2⟩
theorem RelK.nil_inv {xs:List (κ × V)} (h:RelK K m H [] xs):xs = []:=by
  have:=h.1
  cases xs with
  | nil => rfl
  | cons a b => simp at this
theorem RelK.cons_inv {p:κ × Wv} {kvs:List (κ × Wv)} {xs:List (κ × V)} (h:RelK K m H (p :: kvs) xs):∃ v t,xs = (p.1,v) :: t ∧ RelW K m H p.2 v ∧ RelK K m H kvs t:=by
  obtain ⟨h1,h2⟩:=h
  cases xs with
  | nil => simp at h1
  | cons q t =>
    simp at h1 h2
    unfold RelWs at h2
    obtain ⟨x,r,e1,e2,e3⟩:=h2
    cases e1
    exact ⟨q.2,t,by rw [h1.1],e2,h1.2,e3⟩
theorem RelK.length {kvs:List (κ × Wv)} {xs:List (κ × V)} (h:RelK K m H kvs xs):kvs.length = xs.length:=by
  have:=congrArg List.length h.1
  simpa using this
variable [DecidableEq κ]
theorem RelK.val:∀ {kvs:List (κ × Wv)} {xs:List (κ × V)} (k:κ),RelK K m H kvs xs → (valW kvs k = none → valV xs k = none) ∧ ∀ w,valW kvs k = some w → ∃ v,valV xs k = some v ∧ RelW K m H w v
  | [],xs,k,h => by
    rw [h.nil_inv]
    exact ⟨fun _ => rfl,(fun w e => by cases e)⟩
  | p :: r,xs,k,h => by
    obtain ⟨v,t,rfl,h1,h2⟩:=h.cons_inv
    obtain ⟨i1,i2⟩:=RelK.val k h2
    unfold valW
    by_cases e:p.1 = k
    · rw [if_pos e,valV_pos (by exact e)]
      exact ⟨(fun z => by cases z),fun w z => ⟨v,rfl,by cases z; exact h1⟩⟩
    · rw [if_neg e,valV_neg (by exact e)]
      exact ⟨i1,i2⟩
theorem RelK.any:∀ {kvs:List (κ × Wv)} {xs:List (κ × V)} (k:κ),RelK K m H kvs xs → (kvs.any fun kv => decide (kv.1 = k)) = xs.any fun kv => decide (kv.1 = k)
  | [],xs,k,h => by rw [h.nil_inv]; rfl
  | p :: r,xs,k,h => by
    obtain ⟨v,t,rfl,h1,h2⟩:=h.cons_inv
    rw [List.any_cons,List.any_cons,RelK.any k h2]
theorem RelK.repl:∀ {kvs:List (κ × Wv)} {xs:List (κ × V)} (k:κ) {w:Wv} {v:V},RelK K m H kvs xs → RelW K m H w v → RelK K m H (kvs.map fun kv => if kv.1 = k then (kv.1,w) else kv) (xs.map fun kv => if kv.1 = k then (kv.1,v) else kv)
  | [],xs,k,w,v,h,r => by rw [h.nil_inv]; exact RelK.nil
  | p :: kvs,xs,k,w,v,h,r => by
    obtain ⟨u,t,rfl,h1,h2⟩:=h.cons_inv
    rw [List.map_cons,List.map_cons]
    by_cases e:p.1 = k
    · rw [if_pos e,if_pos (by exact e)]
      exact RelK.cons r (RelK.repl k h2 r)
    · rw [if_neg e,if_neg (by exact e)]
      exact RelK.cons h1 (RelK.repl k h2 r)
theorem RelK.snoc:∀ {kvs:List (κ × Wv)} {xs:List (κ × V)} (k:κ) {w:Wv} {v:V},RelK K m H kvs xs → RelW K m H w v → RelK K m H (kvs ++ [(k,w)]) (xs ++ [(k,v)])
  | [],xs,k,w,v,h,r => by rw [h.nil_inv]; exact RelK.cons r RelK.nil
  | p :: kvs,xs,k,w,v,h,r => by
    obtain ⟨u,t,rfl,h1,h2⟩:=h.cons_inv
    exact RelK.cons h1 (RelK.snoc k h2 r)
theorem RelK.put {kvs:List (κ × Wv)} {xs:List (κ × V)} (k:κ) {w:Wv} {v:V} (h:RelK K m H kvs xs) (r:RelW K m H w v):RelK K m H (putW kvs k w) (putK xs k v):=by
  unfold putW putK
  rw [h.any k]
  split
  · exact h.repl k r
  · exact h.snoc k r
end
section
variable {K:PySem.W.Frag} {m:Mp} {H:Hp}
end
section
variable {X:Cx}
inductive JPs (X:Cx) (pos:Pos):List (Option Expr) → List Expr → List (GE × GE) → Prop
  | nil:JPs X pos [] [] []
  | cons {k v:Expr} {ks:List (Option Expr)} {vs:List Expr} {gk gv:GE} {gs:List (GE × GE)}:JE X k gk → JE X v gv → JPs X pos ks vs gs → JPs X pos (some k :: ks) (v :: vs) ((gk,gv) :: gs)
end
def FlatV:Wv → Value → Prop
  | .int i,u => ∃ t,u = .int i t
  | .str x,u => (∃ t,u = .str x t) ∧ PyData.strOk x = true
  | _,_ => False
abbrev Dc:=List (PySem.Str × Wv)
def EntsOk (w:World):Dc → List DictEntry → Prop
  | [],[] => True
  | (k,v) :: r,e :: t => (e.hash = hashStr w k ∧ (∃ tk,e.key = .str k tk) ∧ FlatV v e.val) ∧ EntsOk w r t
  | _,_ => False
def DcAt (K:PySem.W.Frag) (w:World) (mg:Str → Option Value) (x:Str) (kvs:Dc):Prop :=
  ∃ (a:Addr) (es:Array DictEntry) (ep:Nat),mg x = some (.ref a) ∧ K.lookup a = some ⟨.type "dict",none,.dict es ep,#[]⟩ ∧ (a == sysModules) = false ∧ EntsOk w kvs es.toList ∧ (kvs.map (·.1)).Nodup
theorem ents_get {P:Program} {w:World}:∀ {kvs:Dc} {l:List DictEntry},EntsOk w kvs l → ∃ vs:List (PySem.Str × Value),vs.map (·.1) = kvs.map (·.1) ∧ Pairs (PySem.strKind P w) l vs ∧ (∀ e ∈ l,∃ k,(PySem.strKind P w).is k e.key = true ∧ e.hash = (PySem.strKind P w).hash k) ∧
    ∀ k,(kvs.lookup k = none → valueAt vs k = none) ∧ ∀ v,kvs.lookup k = some v → ∃ u,valueAt vs k = some u ∧ FlatV v u
  | [],[],_ => ⟨[],rfl,.nil,(fun _ z => by cases z),fun k => ⟨fun _ => rfl,(fun v z => by cases z)⟩⟩
  | (k,v) :: r,e :: t,h => by
    obtain ⟨⟨h1,⟨tk,h2⟩,h3⟩,h4⟩:=h
    obtain ⟨vs,i1,i2,i3,i4⟩:=ents_get (P:=P) h4
    have his:(PySem.strKind P w).is k e.key = true:=by rw [h2]; exact strKind_is P w k tk
    refine ⟨(k,e.val) :: vs,by simp [i1],.cons his rfl i2,fun e' he => ?_,fun k' => ?_⟩
    · rcases List.mem_cons.mp he with z | z
      · subst z; exact ⟨k,his,h1⟩
      · exact i3 e' z
    · rw [List.lookup_cons]
      unfold valueAt
      rw [List.find?_cons]
      by_cases ek:k = k'
      · subst ek
        have b1:(k == k) = true:=by simp
        rw [b1]
        simp only [decide_true,Option.map_some]
        exact ⟨(fun z => by cases z),fun v' z => ⟨e.val,rfl,by cases z; exact h3⟩⟩
      · have b1:(k' == k) = false:=beq_eq_false_iff_ne.mpr fun z => ek z.symm
        rw [b1]
        simp only [ek,decide_false]
        exact i4 k'
  | [],_ :: _,h => False.elim h
  | _ :: _,[],h => False.elim h
theorem dc_dict {P:Program} {w:World} {K:PySem.W.Frag} {h:Heap} {a:Addr} {es:Array DictEntry} {ep:Nat} {kvs:Dc} (KX:K.In h) (hl:K.lookup a = some ⟨.type "dict",none,.dict es ep,#[]⟩) (he:EntsOk w kvs es.toList) (nd:(kvs.map (·.1)).Nodup) :
    ∃ vs:List (PySem.Str × Value),h.DictOf (PySem.strKind P w) a vs ∧ ∀ k,(kvs.lookup k = none → valueAt vs k = none) ∧ ∀ v,kvs.lookup k = some v → ∃ u,valueAt vs k = some u ∧ FlatV v u:=by
  obtain ⟨vs,i1,i2,i3,i4⟩:=ents_get (P:=P) he
  exact ⟨vs,⟨_,es,ep,KX a _ hl,⟨rfl,rfl,rfl⟩,rfl,fun e hm => i3 e (by simpa using hm),i2,by rw [i1]; exact nd⟩,i4⟩
section
variable {X:Cx}
def gDcIn (neg:Bool) (kvs:Dc) (ga:GE):GE:=fun ρ st => (ga ρ st).bind fun a st1 => match a with
  | .str k => .ok (.bl ((kvs.lookup k).isSome != neg)) st1
  | _ => .bad
def gDcIx (kvs:Dc) (ga:GE):GE:=fun ρ st => (ga ρ st).bind fun a st1 => match a with
  | .str k => (match kvs.lookup k with | some w => .ok w st1 | none => .bad)
  | _ => .bad
def tDcIn (neg:Bool) (kvs:Dc) (ty:TE):TE:=fun σ H Q => ty σ H fun y H1 => ∃ z,y = .str z ∧ Q (.bl ((kvs.lookup z).isSome != neg)) H1
theorem pc_kin {i:Expr} {ty:TE} {x:Str} {p:Pos} {kvs:Dc} (hi:PE X i ty) (hg:Gl X x) (hd:(x == ("__debug__":Str)) = false) (D:DcAt X.K X.w X.mg x kvs):PC X .In i (.Name x p) (tDcIn false kvs ty):=by
  intro pins s σ H Q I h
  obtain ⟨a,es,ep,g1,g2,g3,g4,g5⟩:=D
  refine thn (hi pins s σ H _ I h) fun iv s1 ⟨y,H1,I1,ry,z,ey,q1⟩ => thn (pe_glob (v:=.ref a) hg g1 rfl hd pins s1 σ H1 (fun v H2 => v = .ref a ∧ H2 = H1) I1 ⟨rfl,rfl⟩) fun u s2 ⟨v,H2,I2,rv,ev,eH⟩ => ?_
  subst ey ev eH
  obtain rfl:u = Value.ref a:=rv
  obtain ⟨t,rfl⟩:=(show ∃ t,iv = Value.str z t from ry)
  obtain ⟨vs,dd,look⟩:=dc_dict (P:=X.prog) (w:=X.w) I2.kIn g2 g4 g5
  refine wpAny_in_of (strKind_is X.prog X.w z t) g3 dd.mapOf ⟨.bl (kvs.lookup z).isSome,_,I2.tok _,?_,by simpa using q1⟩
  obtain ⟨l1,l2⟩:=look z
  cases e:kvs.lookup z with
  | none => rw [l1 e]; rfl
  | some w => obtain ⟨u,e1,_⟩:=l2 w e; rw [e1]; rfl
theorem pc_knotin {i:Expr} {ty:TE} {x:Str} {p:Pos} {kvs:Dc} (hi:PE X i ty) (hg:Gl X x) (hd:(x == ("__debug__":Str)) = false) (D:DcAt X.K X.w X.mg x kvs):PC X .NotIn i (.Name x p) (tDcIn true kvs ty):=by
  intro pins s σ H Q I h
  obtain ⟨a,es,ep,g1,g2,g3,g4,g5⟩:=D
  refine thn (hi pins s σ H _ I h) fun iv s1 ⟨y,H1,I1,ry,z,ey,q1⟩ => thn (pe_glob (v:=.ref a) hg g1 rfl hd pins s1 σ H1 (fun v H2 => v = .ref a ∧ H2 = H1) I1 ⟨rfl,rfl⟩) fun u s2 ⟨v,H2,I2,rv,ev,eH⟩ => ?_
  subst ey ev eH
  obtain rfl:u = Value.ref a:=rv
  obtain ⟨t,rfl⟩:=(show ∃ t,iv = Value.str z t from ry)
  obtain ⟨vs,dd,look⟩:=dc_dict (P:=X.prog) (w:=X.w) I2.kIn g2 g4 g5
  refine wpAny_notIn_of (strKind_is X.prog X.w z t) g3 dd.mapOf ⟨.bl (!(kvs.lookup z).isSome),_,I2.tok _,?_,by simpa using q1⟩
  obtain ⟨l1,l2⟩:=look z
  cases e:kvs.lookup z with
  | none => rw [l1 e]; rfl
  | some w => obtain ⟨u,e1,_⟩:=l2 w e; rw [e1]; rfl
theorem read_dcIn {a:Expr} {ga:GE} {neg:Bool} {kvs:Dc} (ha:JE X a ga) {ρ:Rho} {st:Hs} {σ:St} {H:Hp} {m:Mp} {Q:VK} (S:Sim X.K m st H) (R:RelEnv X.K m H ρ σ) (p:PostE X σ m H (gDcIn neg kvs ga ρ st) Q):tDcIn neg kvs (SE X a) σ H Q:=by
  refine ha.go S R (PostG.bind p) fun w st1 v m1 H1 p1 e1 S1 r1 => ?_
  cases w with
  | str k =>
    unfold RelW at r1
    exact ⟨k,r1.1,p1 _ m1 H1 e1 S1 (by unfold RelW; rfl)⟩
  | _ => exact False.elim p1
theorem je_dcIn {a:Expr} {ga:GE} {x:Str} {p pos:Pos} {kvs:Dc} (ha:JE X a ga) (hg:Gl X x) (hd:(x == ("__debug__":Str)) = false) (D:DcAt X.K X.w X.mg x kvs):JE X (.Compare a [.In] [.Name x p] pos) (gDcIn false kvs ga) :=
  JE.of (pe_cmp (pc_kin pe_SE hg hd D) rfl) fun ρ st σ H m Q S R p => read_dcIn ha S R p
theorem je_dcNotIn {a:Expr} {ga:GE} {x:Str} {p pos:Pos} {kvs:Dc} (ha:JE X a ga) (hg:Gl X x) (hd:(x == ("__debug__":Str)) = false) (D:DcAt X.K X.w X.mg x kvs):JE X (.Compare a [.NotIn] [.Name x p] pos) (gDcIn true kvs ga) :=
  JE.of (pe_cmp (pc_knotin pe_SE hg hd D) rfl) fun ρ st σ H m Q S R p => read_dcIn ha S R p
theorem jt_dcIn {a:Expr} {ga:GE} {x:Str} {p pos:Pos} {kvs:Dc} (ha:JE X a ga) (hg:Gl X x) (hd:(x == ("__debug__":Str)) = false) (D:DcAt X.K X.w X.mg x kvs):JT X (.Compare a [.In] [.Name x p] pos) (gTst (gDcIn false kvs ga)) :=
  JT.of (pt_cmp (pc_kin pe_SE hg hd D) rfl) fun ρ st σ H m Q S R p => read_dcIn ha S R (post_tst p)
theorem jt_dcNotIn {a:Expr} {ga:GE} {x:Str} {p pos:Pos} {kvs:Dc} (ha:JE X a ga) (hg:Gl X x) (hd:(x == ("__debug__":Str)) = false) (D:DcAt X.K X.w X.mg x kvs):JT X (.Compare a [.NotIn] [.Name x p] pos) (gTst (gDcIn true kvs ga)) :=
  JT.of (pt_cmp (pc_knotin pe_SE hg hd D) rfl) fun ρ st σ H m Q S R p => read_dcIn ha S R (post_tst p)
def tDcIx (kvs:Dc) (ty:TE):TE:=fun σ H Q => ty σ H fun y H1 => ∃ z w v,y = .str z ∧ kvs.lookup z = some w ∧ (∀ u,FlatV w u → RelV v u) ∧ Q v H1
theorem pe_dcIx {b:Expr} {ty:TE} {x:Str} {p pos:Pos} {kvs:Dc} (hb:PE X b ty) (hs:NoSl b) (hg:Gl X x) (hd:(x == ("__debug__":Str)) = false) (D:DcAt X.K X.w X.mg x kvs):PE X (.Subscript (.Name x p) b pos) (tDcIx kvs ty):=by
  intro pins s σ H Q I h
  obtain ⟨a,es,ep,g1,g2,g3,g4,g5⟩:=D
  refine subD_of PySem.F.slot_dict_getitem.lookup hs (thn (pe_glob (v:=.ref a) hg g1 rfl hd pins s σ H (fun v H2 => v = .ref a ∧ H2 = H) I ⟨rfl,rfl⟩) fun u s1 ⟨v,H1,I1,rv,ev,eH⟩ => ?_)
  subst ev eH
  obtain rfl:u = Value.ref a:=rv
  refine thn (hb pins s1 σ H1 _ I1 h) fun iv s2 ⟨y,H2,I2,ry,z,w,v,ey,ew,ev,q⟩ => ?_
  subst ey
  obtain ⟨t,rfl⟩:=(show ∃ t,iv = Value.str z t from ry)
  obtain ⟨vs,dd,look⟩:=dc_dict (P:=X.prog) (w:=X.w) I2.kIn g2 g4 g5
  obtain ⟨u,e1,e2⟩:=(look z).2 w ew
  exact ⟨dd.typeIs,wpAny_getItem_of (strKind_is X.prog X.w z t) dd.mapOf e1 ⟨v,H2,I2.tok _,ev u e2,q⟩⟩
theorem je_dcIx {b:Expr} {gb:GE} {x:Str} {p pos:Pos} {kvs:Dc} (hb:JE X b gb) (hs:NoSl b) (hg:Gl X x) (hd:(x == ("__debug__":Str)) = false) (D:DcAt X.K X.w X.mg x kvs):JE X (.Subscript (.Name x p) b pos) (gDcIx kvs gb) :=
  JE.of (pe_dcIx pe_SE hs hg hd D) fun ρ st σ H m Q S R p => by
    refine hb.go S R (PostG.bind p) fun w st1 v m1 H1 p1 e1 S1 r1 => ?_
    cases w with
    | str k =>
      dsimp only at p1
      cases e:kvs.lookup k with
      | none => rw [e] at p1; exact False.elim p1
      | some u =>
        rw [e] at p1
        unfold RelW at r1
        cases u with
        | int i => exact ⟨k,.int i,.int i,r1.1,e,fun u h => h,p1 _ m1 H1 e1 S1 (by unfold RelW; rfl)⟩
        | str y =>
          by_cases hy:PyData.strOk y = true
          · exact ⟨k,.str y,.str y,r1.1,e,fun u h => h.1,p1 _ m1 H1 e1 S1 (by unfold RelW; exact ⟨rfl,hy⟩)⟩
          · obtain ⟨a,es,ep,_,_,_,g4,_⟩:=D
            obtain ⟨vs,_,_,_,i4⟩:=ents_get (P:=X.prog) g4
            obtain ⟨u,_,e2⟩:=(i4 k).2 _ e
            exact absurd e2.2 hy
        | _ =>
          obtain ⟨a,es,ep,_,_,_,g4,_⟩:=D
          obtain ⟨vs,_,_,_,i4⟩:=ents_get (P:=X.prog) g4
          obtain ⟨u,_,e2⟩:=(i4 k).2 _ e
          exact False.elim e2
    | _ => exact False.elim p1
end
end J
namespace J
open PySem PySem.Spec PyProof.Rows PySem.W L2
section
variable (lt:Nat → Nat → Bool) (N:Nat)
def Kg {α:Type}:KasT α → (α → Prop) → Prop
  | .ret a,Q => Q a
  | .ask i j k,Q => (i < N ∧ j < N) ∧ Kg (k (lt i j)) Q
end
section
variable {lt:Nat → Nat → Bool} {N:Nat}
theorem Kg.bind {α β:Type} {f:α → KasT β} {Q:β → Prop}:∀ {t:KasT α},Kg lt N t (fun a => Kg lt N (f a) Q) → Kg lt N (t.bind f) Q
  | .ret a,h => h
  | .ask i j k,h => ⟨h.1,Kg.bind (t:=k (lt i j)) h.2⟩
theorem Kg.imp {α:Type} {Q R:α → Prop} (hq:∀ a,Q a → R a):∀ {t:KasT α},Kg lt N t Q → Kg lt N t R
  | .ret a,h => hq a h
  | .ask i j k,h => ⟨h.1,Kg.imp hq (t:=k (lt i j)) h.2⟩
structure Ord (lt:Nat → Nat → Bool):Prop where
  as:∀ a b,lt a b = true → lt b a = false
  tr:∀ a b c,lt a b = false → lt b c = false → lt a c = false
theorem Ord.irr (o:Ord lt) (a:Nat):lt a a = false:=by
  cases h:lt a a with
  | false => rfl
  | true => have:=o.as a a h; rw [h] at this; cases this
abbrev at_ (p:Array Nat) (i:Nat):Nat:=p.getD i 0
structure Pm (N:Nat) (p:Array Nat):Prop where
  sz:p.size = N
  pm:p.toList.Perm (List.range N)
theorem Pm.bd {p:Array Nat} (h:Pm N p) {i:Nat} (hi:i < N):at_ p i < N:=by
  have e:at_ p i = p[i]'(by rw [h.sz]; exact hi):=by simp [at_,Array.getD,h.sz,hi]
  rw [e]
  have:p[i]'(by rw [h.sz]; exact hi) ∈ p.toList:=by simp
  exact List.mem_range.mp (h.pm.mem_iff.mp this)
theorem getD_of {p q:Array Nat} {i j:Nat} (h:p[i]? = q[j]?):at_ p i = at_ q j:=by
  unfold at_
  rw [Array.getD_eq_getD_getElem?,Array.getD_eq_getD_getElem?,h]
theorem rev_at {p:Array Nat} (h:Pm N p) {i j:Nat} (hj:j ≤ N) (k:Nat):at_ (kas_rev p i j) k = if i ≤ k ∧ k < j then at_ p (i + j - 1 - k) else at_ p k:=by
  have q:=getElem?_mirror_all (xs:=p) (i:=i) (j:=j) (by rw [h.sz]; exact hj) k
  unfold kas_rev
  split
  · rename_i c; rw [if_pos c] at q; exact getD_of q
  · rename_i c; rw [if_neg c] at q; exact getD_of q
def Up (lt:Nat → Nat → Bool) (p:Array Nat) (k:Nat):Prop:=∀ i j,i ≤ j → j < k → lt (at_ p j) (at_ p i) = false
def Dn (lt:Nat → Nat → Bool) (p:Array Nat) (k:Nat):Prop:=∀ i j,i ≤ j → j < k → lt (at_ p i) (at_ p j) = false
theorem Up.succ (o:Ord lt) {p:Array Nat} {k:Nat} (h:Up lt p k) (hk:1 ≤ k) (e:lt (at_ p k) (at_ p (k - 1)) = false):Up lt p (k + 1):=by
  intro i j hij hj
  by_cases c:j < k
  · exact h i j hij c
  · have:j = k:=by omega
    subst this
    by_cases c2:i = j
    · subst c2; exact o.irr _
    · exact o.tr _ _ _ e (h i (j - 1) (by omega) (by omega))
theorem Dn.succ (o:Ord lt) {p:Array Nat} {k:Nat} (h:Dn lt p k) (hk:1 ≤ k) (e:lt (at_ p (k - 1)) (at_ p k) = false):Dn lt p (k + 1):=by
  intro i j hij hj
  by_cases c:j < k
  · exact h i j hij c
  · have:j = k:=by omega
    subst this
    by_cases c2:i = j
    · subst c2; exact o.irr _
    · exact o.tr _ _ _ (h i (j - 1) (by omega) (by omega)) e
theorem Dn.up {p:Array Nat} (hp:Pm N p) {n:Nat} (hn:n ≤ N) (h:Dn lt p n):Up lt (kas_rev p 0 n) n:=by
  intro i j hij hj
  rw [rev_at hp hn,rev_at hp hn,if_pos ⟨by omega,hj⟩,if_pos ⟨by omega,by omega⟩]
  exact h _ _ (by omega) (by omega)
end
section
variable {prog:Program} {w:World} {A:Around} {E:Value → Shared → Prop} {s:Shared}
end
section
variable {X:Cx} {pins:List (Addr × Obj)} {σ:St} {H:Hp} {s:Shared}
end
section
variable {X:Cx}
end
section
variable {prog:Program} {w:World} {A:Around} {E:Value → Shared → Prop} {s:Shared}
end
section
variable {X:Cx}
abbrev pw (p:Int × Int):Wv:=.tup [.int p.1,.int p.2]
end
end J
namespace J
open PySem PySem.Spec PyProof.Rows L2
section
variable {X:Cx}
end
end J
namespace J
open PySem PySem.Spec PyProof.Rows PySem.W L2
def DRaw (h:Heap) (d:Addr) (es:Array DictEntry) (ep:Nat):Prop:=∃ o,h.get? d = some o ∧ o.cls = .type "dict" ∧ o.data = .dict es ep
section
variable {prog:Program} {w:World} {A:Around} {E:Value → Shared → Prop} {s:Shared} {d it:Addr} {es:Array DictEntry} {ep i:Nat}
theorem DRaw.ty (x:DRaw s.heap d es ep):s.TypeIs (.ref d) "dict":=let ⟨o,h1,h2,_⟩:=x; ⟨o,h1,h2⟩
end
section
variable {X:Cx}
end
section
variable {X:Cx}
end
end J
namespace J
open PySem L2 PyProof.Rows
section
open PySem.SeqAt PySem.MeetsSeq PySem.MeetsSeq2 PySem.MeetsSeq3
end
variable {X:Cx}
def oLe:Op2:=fun x y st => oLe0 x y st
theorem ow_leT (hu:X.A.units + 64 < cLine):OpW X (compareOp .LtE) oLe:=ow_le
def oLt:Op2:=fun x y st => oLt0 x y st
theorem ow_ltT (hu:X.A.units + 64 < cLine):OpW X (compareOp .Lt) oLt:=ow_lt
end J
namespace J
open PySem PySem.Spec PyProof.Rows L2
structure RoomU (k:Nat) (A:Around):Prop where
  d:A.depth + 3 * k + 5 < recursionLimit
  u:A.units + 16 * k + 200 < cLine
theorem RoomU.of {k:Nat} {A:Around} (r:Room k A):RoomU k A:=⟨r.dp,r.un⟩
theorem RoomU.less {j k:Nat} {A:Around} (r:RoomU k A) (h:j ≤ k):RoomU j A:=⟨by have:=r.d; omega,by have:=r.u; omega⟩
theorem RoomU.down {k:Nat} {A:Around} (r:RoomU (k + 1) A) (env:Env):RoomU k (A.deeper env) :=
  ⟨by have q:=r.d; show A.depth + 1 + 3 * k + 5 < _; omega,by have q:=r.u; show A.units + 3 + 16 * k + 200 < _; omega⟩
theorem RoomU.u64 {k:Nat} {A:Around} (r:RoomU k A):A.units + 64 < cLine:=by have:=r.u; omega
structure FnOkU (P:Program) (w:World) (K:PySem.W.Frag) (mg:Str → Option Value) (base:Heap) (k:Nat) (f:Addr) (fd:FuncData) (ps:List Str) (sp:Sp):Prop where
  n:∀ vs H Q E,sp vs H Q E → vs.length = ps.length
  go:∀ (A:Around) (outer:List Env) (s:Shared) (H:Hp) (args:Args) (us:List Value) (vs:List V) (Q:VK) (E:XK),RoomU k A → Env0 P w K mg base A outer s H →
    BindsTo s fd args (ps.zip us) → Vals vs us → sp vs H Q E → codeAny (model P w) A (.call (.ref f) args) (CR (CXJ P w) outer P w H s Q E) s
section
variable {P:Program} {w:World} {K:PySem.W.Frag} {mg:Str → Option Value} {base:Heap}
def cxU (P:Program) (w:World) (K:PySem.W.Frag) (mg:Str → Option Value) (base:Heap) (N:List Str) (qual:Str) (scope:Scope) (f:Addr) (cd:Value) (A:Around) (outer:List Env) (s:Shared) (H:Hp) (E:XK):Cx :=
  { cxOf (CXJ P w) P w K mg base N qual scope f cd A outer s H E with calm:=false }
theorem startU {N ps:List Str} {qual:Str} {scope:Scope} {f:Addr} {cd:Value} {A:Around} {outer:List Env} {s s1:Shared} {H:Hp} {E:XK} {us:List Value} {vs:List V} (S:FnScope N ps scope) (z:Env0 P w K mg base A outer s H) (ln:vs.length = ps.length) (r:Vals vs us)
    (x:InCallC s s.heap.objs.size (bindL (envOfC qual scope s.heap.objs.size f cd).kindOf (ps.zip us) fun _ => none) (cellsFrom (s.heap.objs.size + 1) scope.names []) (bindC (envOfC qual scope s.heap.objs.size f cd).kindOf (ps.zip us) fun _ => none) s1) :
    Inv (cxU P w K mg base N qual scope f cd A outer s H E) [] (start N vs) H s1:=by
  have z':Env0 P w K mg base { A with handled:=none } outer s H:=⟨z.frames,z.mod,z.bs,z.bsz,z.funs,z.frf,z.hok,z.bare⟩
  have I:=inv_start (CX:=CXJ P w) (E:=E) (cd:=cd) (A:={ A with handled:=none }) S rfl z' ln r x
  have o:=I.ok
  exact ⟨⟨o.mod,o.kind,o.glob,o.blt,o.above,o.inj,o.has,o.cab,(fun h => by cases h),o.frames,o.stk,o.exf,o.bs,o.bsz,o.noex,o.exfs,o.funs,o.frf⟩,I.os,I.bare,I.base,I.loc,I.cell,I.free,I.freeC,I.pin,I.hok,I.len⟩
theorem out_U {N:List Str} {qual:Str} {scope:Scope} {f:Addr} {cdv:Value} {A:Around} {outer:List Env} {s s':Shared} {H H':Hp} {E:XK} {σ:St} {c:PySem.Str} {e:Value}
    (r:Raised (cxU P w K mg base N qual scope f cdv A outer s H E) σ H' c e s') (h:∀ C,ClsAt K c C → E (.ref C) none H'):(cxU P w K mg base N qual scope f cdv A outer s H E).xe e s':=by
  obtain ⟨C,pins,Hc,sc,hC,I,r⟩:=r
  rcases r with fl | ⟨rfl,a,args,rfl,ho,hg,M⟩
  · exact leave_flown (X:=cxU P w K mg base N qual scope f cdv A outer s H E) rfl rfl rfl I fl fun s2 fl2 => ⟨H',C,fl2,h C hC⟩
  · exact leave_made (X:=cxU P w K mg base N qual scope f cdv A outer s H E) rfl rfl rfl I ho hg M fun s2 fl2 => ⟨H',C,fl2,h C hC⟩
theorem fn_U {x qual:Str} {st:Stmt} {f:Addr} {fd:FuncData} {N ps:List Str} {k:Nat} {g:GS} (F:Fun K x qual st f fd) (S:FnScope N ps (defScope st))
    (body:∀ (cdv:Value) (A:Around) (outer:List Env) (s:Shared) (H:Hp) (E:XK),RoomU k (A.deeper (envOfC qual (defScope st) s.heap.objs.size f cdv)) → JSs (cxU P w K mg base N qual (defScope st) f cdv A outer s H E) (defBody st) g) :
    FnOkU P w K mg base (k + 1) f fd ps (spW K ps.length (fnF N.length g)):=by
  have hpl:ps.length ≤ N.length:=by have:=congrArg List.length S.pre; rw [List.length_take] at this; omega
  obtain ⟨oc,od,kV,doc,pm,an,cdv,ct,osl,rfl,lk,hcd⟩:=F.ex
  have len:∀ vs H Q E,spW K ps.length (fnF N.length g) vs H Q E → vs.length = ps.length:=fun vs H Q E h => by
    obtain ⟨m,st',ws,_,r,hl,_⟩:=h
    rw [← r.length]; exact hl
  refine ⟨len,fun A outer s H args us vs Q E hr z hb r hsp => ?_⟩
  have ln:=len _ _ _ _ hsp
  have kx:K.In s.heap:=z.mod.kin.keeps fun b o q => (z.bs b o q).1
  have nl:s.heap.NoLimit:=z.mod.nolimit.keeps fun b o q => (z.bs b o q).1
  have kinds:∀ y ∈ ps.zip us,(defScope st).names.lookup y.1 = some .local ∨ ((defScope st).names.lookup y.1 = some .cell ∧ ((cellsFrom (s.heap.objs.size + 1) (defScope st).names []).lookup y.1).isSome = true):=fun y hy => by
    rcases S.par y.1 (List.of_mem_zip hy).1 with t | t
    · exact .inl t
    · exact .inr ⟨t,PySem.W.cellsFrom_some _ _ _ (.inl t)⟩
  refine codeAny_call_function (by have:=hr.d; omega) (kx _ _ lk) rfl S.co S.gen rfl (PySem.W.codeRec_of kx hcd) (hb _ _ _ _ ?_)
  refine wpAny_newFunctionEnv_cells S.kind kinds fun env he s1 y => ?_
  subst he
  refine ⟨nl.keeps y.toInCall.keep,codeAny_func ?_⟩
  obtain ⟨m,st',ws,S',rs,hl,p⟩:=hsp
  have I:=startU (E:=E) (cd:=cdv) S z ln r y
  have go:SSs (cxU P w K mg base N qual (defScope st) f cdv A outer s H E) (defBody st) { nx:=fun _ H' => Q .non H',rt:=Q } (start N vs) H:=by
    refine body cdv A outer s H E (hr.down _) _ st' _ H m _ S' (startRel rs (by omega)) ?_
    unfold fnF at p
    cases e:g (ws.map some ++ List.replicate (N.length - ws.length) none) st' with
    | nx ρ st2 => rw [e] at p; exact fun σ m' H' e' S2 R2 => p _ m' H' e' S2 (by unfold RelW; rfl)
    | rt w' st2 => rw [e] at p; exact p
    | bk ρ st2 => rw [e] at p; exact False.elim p
    | ct ρ st2 => rw [e] at p; exact False.elim p
    | err c ρ st2 => rw [e] at p; exact fun σ m' H' x s' e' S2 R2 rz => out_U rz fun C hC => p m' H' C e' S2 hC
    | bad => rw [e] at p; exact False.elim p
  refine wpAny_mono (pss_SSs [] s1 (start N vs) H _ I go) (fun fl s' hs => ?_) fun e s' hs => hs
  cases fl with
  | ret u => obtain ⟨v,σ',H',I',rv,q⟩:=hs; exact ⟨v,H',I'.os,I'.bare,I'.base,I'.hok,rv,q⟩
  | next => obtain ⟨σ',H',I',q⟩:=hs; exact ⟨.non,H',I'.os,I'.bare,I'.base,I'.hok,rfl,q⟩
  | brk => obtain ⟨_,_,_,q⟩:=hs; exact False.elim q
  | cont => obtain ⟨_,_,_,q⟩:=hs; exact False.elim q
end
section
variable {X:Cx}
theorem je_callU {k n:Nat} {f:Addr} {fd:FuncData} {ps:List Str} {F:List Wv → Hs → Re Wv} {x:Str} {p pos:Pos} {e:Expr} {es:List Expr} {g:GA}
    (G:FnOkU X.prog X.w X.K X.mg X.base k f fd ps (spW X.K n F)) (hr:RoomU k X.A) (hm:X.mg x = some (.ref f)) (hk:PySem.W.keepIn X.K (.ref f) = true) (hb:Binds X.K fd ps []) (ha:JA X (e :: es) g) (hg:Gl X x)
    (hdb:(x == ("__debug__":Str)) = false) (he:starEach (e :: es) X.env = (false,eval e X.env) :: starEach es X.env) (hpl:(backTo pos (starEach es X.env)).any (·.1) = false) :
    JE X (.Call (.Name x p) (e :: es) [] pos) (gCall n F g):=by
  intro ρ st σ H m Q S R p pins s I
  have args:=ha.go (T:=fun vs H1 => ∃ ws st1 m1,PostE X σ m H (if ws.length = n then F ws st1 else .bad) Q ∧ Ext X.K m H m1 H1 ∧ Sim X.K m1 st1 H1 ∧ RelWs X.K m1 H1 ws vs) S R (PostG.bind p)
    fun ws st1 vs m1 H1 p1 e1 S1 rs => ⟨ws,st1,m1,p1,e1,S1,rs⟩
  refine wpAny_Call_Name_kw (ld_glob I hg hm ?_ hdb)
  refine PySem.W.callWith_K (h₀:=X.base) I.ok.mod.kin hk (thn (args pos pins s I) fun us s1 ⟨vs,H1,I1,r,ws,st1,m1,p1,e1,S1,rs⟩ => ⟨I1.kIn,?_⟩) he hpl
  by_cases c:ws.length = n
  · rw [if_pos c] at p1
    let E:XK:=fun cl _ H2 => ∃ c' st2 m2 C,cl = .ref C ∧ ClsAt X.K c' C ∧ F ws st1 = .err c' st2 ∧ Ext X.K m1 H1 m2 H2 ∧ Sim X.K m2 st2 H2
    have sp:spW X.K n F vs H1 Q E:=by
      refine ⟨m1,st1,ws,S1,rs,c,?_⟩
      cases er:F ws st1 with
      | ok w st2 => rw [er] at p1; exact PostE.shift (r:=.ok w st2) p1 e1
      | err c' st2 => exact fun m2 H2 C e2 S2 hC => ⟨c',st2,m2,C,rfl,hC,er,e2,S2⟩
      | bad => rw [er] at p1; exact False.elim p1
    have hl:us.length = ps.length:=by rw [← r.length]; exact G.n _ _ _ _ sp
    have bd:=hb s1 us I1.kIn (by rw [List.append_nil]; exact hl)
    rw [List.append_nil] at bd
    refine wpAny_call (codeAny_mono (G.go X.A X.stack s1 H1 ⟨us,[]⟩ us vs Q E hr I1.env0 bd r sp) fun rr s2 hq => ?_)
    cases rr with
    | error x =>
      obtain ⟨H2,C,fl,c',st2,m2,C',ec,hC,er,e2,S2⟩:=hq
      cases ec
      rw [er] at p1
      exact p1 m2 H2 x s2 (e1.trans e2) S2 ⟨C,pins,H1,s1,hC,I1,.inl fl⟩
    | ok fw =>
      cases fw with
      | ret u => exact I1.after hq
      | next => exact False.elim hq
      | brk => exact False.elim hq
      | cont => exact False.elim hq
  · rw [if_neg c] at p1; exact False.elim p1
end
def HasU (P:Program) (w:World) (K:PySem.W.Frag) (mg:Str → Option Value) (base:Heap) (k:Nat) (x:Str) (n:Nat) (F:List Wv → Hs → Re Wv):Prop :=
  ∃ f fd ps,FnOkU P w K mg base k f fd ps (spW K n F) ∧ mg x = some (.ref f) ∧ PySem.W.keepIn K (.ref f) = true ∧ Binds K fd ps []
theorem HasU.mono {P:Program} {w:World} {K:PySem.W.Frag} {mg:Str → Option Value} {base:Heap} {j k:Nat} {x:Str} {n:Nat} {F:List Wv → Hs → Re Wv} (h:HasU P w K mg base j x n F) (l:j ≤ k):HasU P w K mg base k x n F:=by
  obtain ⟨f,fd,ps,G,r⟩:=h
  exact ⟨f,fd,ps,⟨G.n,fun A outer s H args us vs Q E hr => G.go A outer s H args us vs Q E (hr.less l)⟩,r⟩
end J
namespace J
open PySem PySem.Spec PyProof.Rows L2
section
variable {X:Cx}
end
end J
namespace J
open PySem PySem.Spec PyProof.Rows L2
section
variable {X:Cx}
end
end J
namespace J
open PySem PySem.Spec PyProof.Rows L2
abbrev Wk2:=Option (Nat × List Wv) × List Wv
def ck2 (c:Option (Nat × List Wv)) (st:Hs):Prop:=match c with
  | some (l,ws) => lstOf st l = some ws
  | none => True
structure ItFor2 (X:Cx) (w:Wk2) (m1:Mp) (H1:Hp) (J':It):Prop where
  go:∀ (k:Nat) (H:Hp) (m':Mp) (st:Hs),Ext X.K m1 H1 m' H → Sim X.K m' st H → ck2 w.1 st → k < w.2.length → J'.go k H
  stop:∀ (k:Nat) (H:Hp) (m':Mp) (st:Hs),Ext X.K m1 H1 m' H → Sim X.K m' st H → ck2 w.1 st → k = w.2.length → J'.stop k H
  yld:∀ (k:Nat) (hk:k < w.2.length) (H:Hp) (v:V) (H':Hp) (m':Mp) (st:Hs),Ext X.K m1 H1 m' H → Sim X.K m' st H → ck2 w.1 st → J'.yld k H v H' → Ext X.K m' H m' H' ∧ Sim X.K m' st H' ∧ RelW X.K m' H' w.2[k] v
section
variable {X:Cx}
end
open Classical in
section
variable {X:Cx}
end
end J
namespace J
open PySem PySem.Spec PyProof.Rows L2
open Classical in
structure CScope2 (X:Cx) (scope:Scope) (x:Str) (xr:List Str) (cs:Caps):Prop where
  one:CScope X scope x cs
  var:∀ y ∈ x :: xr,scope.names.lookup y = some .local
  nd:((x :: xr) ++ cs.map (·.1)).Nodup
inductive NamesAre:List Expr → List Str → Prop
  | nil:NamesAre [] []
  | cons {x:Str} {p:Pos} {es:List Expr} {xs:List Str}:NamesAre es xs → NamesAre (.Name x p :: es) (x :: xs)
section
variable {X:Cx} {pins:List (Addr × Obj)} {σ:St} {H:Hp} {s:Shared} {scope:Scope} {x:Str} {xr:List Str} {cs:Caps}
end
section
variable {prog:Program} {w:World} {A:Around} {R:Result → Shared → Prop} {s:Shared}
end
section
variable {X:Cx}
end
end J
namespace J
open PySem PySem.Spec PyProof.Rows L2
section
variable {X:Cx}
theorem je_methO {ob:Expr} {name:Str} {id:String} {e:Expr} {go ga:GE} {apos cpos:Pos} {mt:Wv → Wv → Hs → Re Wv} (hm:MtW X id mt) (slot:Slot "list" name id) (hty:typeOf (.builtin id) = pure (.type "method_descriptor")) (hbase:attributeBase ob name X.env (eval ob X.env) = eval ob X.env) (ho:JE X ob go) (ha:JE X e ga)
    (hst:starEach [e] X.env = [(false,eval e X.env)]) (hline:(apos.endLine == cpos.line) = true):JE X (.Call (.Attribute ob name apos) [e] [] cpos) (gMeth mt go ga):=by
  obtain ⟨r,h1,h2⟩:=hm
  have hfew:((backTo cpos (starEach [e] X.env)).all (fun x => !x.1) && (backToKw cpos (keywordEach [] X.env)).all (fun x => x.1.isSome) && decide ([e].length + ([]:List Keyword).length + (if ([]:List Keyword).isEmpty then 0 else 1) < 30)) = true:=by
    rw [hst]; rfl
  refine JE.of (pe_bm PySem.F.plainAttrs_list slot hty h1 pe_SE pa_SA hbase hfew hline hst rfl) fun ρ st σ H m Q S R p => ?_
  refine ho.go S R (PostG.bind p) fun o st1 v m1 H1 p1 e1 S1 ro => ?_
  cases o with
  | ref l =>
    dsimp only at p1
    cases el:lstOf st1 l with
    | none => rw [el] at p1; exact False.elim p1
    | some ws0 =>
      rw [el] at p1
      dsimp only at p1
      have ro':=ro
      unfold RelW at ro'
      obtain ⟨a,rfl,hla⟩:=ro'
      obtain ⟨xs,hq,_⟩:=S1.read hla el
      refine ⟨.inl ⟨rfl,xs,hq⟩,?_⟩
      refine (ja_cons ha ja_nil hst).go S1 (R.mono e1) (ok:=fun ws st2 => PostG X σ m H (match ws with | [w] => (mt (.ref l) w st2).nox | _ => .bad) (okE X.K m H Q)) ?_ fun ws st2 vs m2 H2 p2 e2 S2 rs => ?_
      · have p3:=(PostG.bind p1).imp e1 (fun _ _ q => q)
        show PostG X σ m1 H1 ((ga ρ st1).bind fun x st1 => (gNil ρ st1).bind fun xs st2 => .ok (x :: xs) st2) _
        cases eg:ga ρ st1 with
        | ok w st2 => rw [eg] at p3; exact p3
        | err c st2 => rw [eg] at p3; exact p3
        | bad => rw [eg] at p3; exact p3
      · match ws,rs,p2 with
        | [],rs,p2 => exact False.elim p2
        | [w],rs,p2 =>
          obtain ⟨v2,rfl,rw2⟩:=rel1 rs
          exact h2 (.ref l) w (.ref a) v2 st2 H2 m2 Q S2 (RelW.mono e2 _ _ ro) rw2 (PostO.shift (PostG.nox p2) (e1.trans e2))
        | _ :: _ :: _,rs,p2 => exact False.elim p2
  | _ => exact False.elim p1
end
section
open PySem.SeqAt PySem.MeetsSeq PySem.MeetsSeq2 PySem.MeetsSeq3
theorem tup_indexAt (p:Addr) (its:Array Value) (n:Nat) (dd:Option Addr) (sl:Array (Option Value)) (x:Value) (e:Value → Bool) (j:Nat) (hj:j < its.size) (hit:e its[j] = true) (hno:∀ m (hm:m < its.size),m < j → e its[m] = false) :
    Meets (Builtin.«tuple.index» ⟨[.ref p,x],[]⟩)
      (fun A R s => s.heap.get? p = some { cls:=.type "tuple",dict:=dd,data:=.seq its n,slots:=sl } ∧ (∀ y,y ∈ its → EqAt A.in1 s y x (e y)) ∧ R (.ok (.ret (.int j s.toks))) { s with toks:=s.toks + 1 }) :=
  .of_wp fun prog w A R s hh => by
    obtain ⟨hp,g,d,tk,os⟩:=s
    obtain ⟨gp,he,hr⟩:=hh
    have sb:=AutoSeq1.sub_tuple_tuple
    wp_walk using PySem.AutoSeq1.wpAny_loadPart' gp
    rw [Nat.min_self]
    show wpAny (model prog w) A.in1 (forIn [:its.size] (none,()) (fun (i:Nat) (__s:Option PySem.Fin × Unit) => match its[i]? with
            | some y => do
              let __do_lift ← eqBool y x
              if __do_lift = true then do
                  let __do_lift ← retInt i
                  pure (ForInStep.done (some __do_lift,()))
                else pure (ForInStep.yield (none,()))
            | x => pure (ForInStep.yield (none,())))) _ _ _
    rw [Std.Legacy.Range.forIn_eq_forIn_range']
    simp only [Std.Legacy.Range.size,Nat.sub_zero,Nat.add_sub_cancel,Nat.div_one]
    refine wpAny_forIn_list _ (fun rest b s' => b.1 = none ∧ s' = ⟨hp,g,d,tk,os⟩ ∧ ∃ i,i ≤ j ∧ rest = List.range' i (its.size - i)) _ ?_ ?_ _ _ ⟨rfl,rfl,0,Nat.zero_le _,by simp⟩
    · rintro y rest b s' ⟨e0,rfl,i,hi,er⟩
      have hlt:i < its.size:=by omega
      obtain ⟨rfl,er'⟩:y = i ∧ rest = List.range' (i + 1) (its.size - (i + 1)):=by
        have q:its.size - i = (its.size - (i + 1)) + 1:=by omega
        rw [q,List.range'_succ] at er
        injection er with h1 h2
        exact ⟨h1,h2⟩
      rw [Array.getElem?_eq_getElem hlt]
      dsimp only
      refine wpAny_bind (he _ (Array.getElem_mem hlt) prog w _ _ ?_)
      by_cases cj:y = j
      · subst cj
        rw [hit,if_pos rfl]
        wp_walk
        exact ⟨_,rfl,hr⟩
      · rw [hno y hlt (by omega),if_neg Bool.false_ne_true]
        exact wpAny_pure ⟨rfl,rfl,y + 1,by omega,er'⟩
    · rintro b s' ⟨e0,rfl,i,hi,er⟩
      exfalso
      have:its.size - i = 0:=by
        have:=congrArg List.length er
        simpa using this.symm
      omega
end
section
variable {X:Cx}
def gMethT (mt:Wv → Wv → Hs → Re Wv) (go ga:GE):GE:=fun ρ st => (go ρ st).bind fun o st1 => match o with
  | .tup us => (ga ρ st1).bind fun v st2 => (mt (.tup us) v st2).nox
  | _ => .bad
theorem je_methT {ob:Expr} {name:Str} {id:String} {e:Expr} {go ga:GE} {apos cpos:Pos} {mt:Wv → Wv → Hs → Re Wv} (hm:MtW X id mt) (slot:Slot "tuple" name id) (hty:typeOf (.builtin id) = pure (.type "method_descriptor")) (hbase:attributeBase ob name X.env (eval ob X.env) = eval ob X.env) (ho:JE X ob go) (ha:JE X e ga)
    (hst:starEach [e] X.env = [(false,eval e X.env)]) (hline:(apos.endLine == cpos.line) = true):JE X (.Call (.Attribute ob name apos) [e] [] cpos) (gMethT mt go ga):=by
  obtain ⟨r,h1,h2⟩:=hm
  have hfew:((backTo cpos (starEach [e] X.env)).all (fun x => !x.1) && (backToKw cpos (keywordEach [] X.env)).all (fun x => x.1.isSome) && decide ([e].length + ([]:List Keyword).length + (if ([]:List Keyword).isEmpty then 0 else 1) < 30)) = true:=by
    rw [hst]; rfl
  refine JE.of (pe_bm PySem.F.plainAttrs_tuple slot hty h1 pe_SE pa_SA hbase hfew hline hst rfl) fun ρ st σ H m Q S R p => ?_
  refine ho.go S R (PostG.bind p) fun o st1 v m1 H1 p1 e1 S1 ro => ?_
  cases o with
  | tup us =>
      dsimp only at p1
      have ro':=ro
      unfold RelW at ro'
      obtain ⟨a,xs,rfl,hq,_⟩:=ro'
      refine ⟨.inr (.inl ⟨rfl,.inr ⟨xs,hq⟩⟩),?_⟩
      refine (ja_cons ha ja_nil hst).go S1 (R.mono e1) (ok:=fun ws st2 => PostG X σ m H (match ws with | [w] => (mt (.tup us) w st2).nox | _ => .bad) (okE X.K m H Q)) ?_ fun ws st2 vs m2 H2 p2 e2 S2 rs => ?_
      · have p3:=(PostG.bind p1).imp e1 (fun _ _ q => q)
        show PostG X σ m1 H1 ((ga ρ st1).bind fun x st1 => (gNil ρ st1).bind fun xs st2 => .ok (x :: xs) st2) _
        cases eg:ga ρ st1 with
        | ok w st2 => rw [eg] at p3; exact p3
        | err c st2 => rw [eg] at p3; exact p3
        | bad => rw [eg] at p3; exact p3
      · match ws,rs,p2 with
        | [],rs,p2 => exact False.elim p2
        | [w],rs,p2 =>
          obtain ⟨v2,rfl,rw2⟩:=rel1 rs
          exact h2 (.tup us) w (.ref a) v2 st2 H2 m2 Q S2 (RelW.mono e2 _ _ ro) rw2 (PostO.shift (PostG.nox p2) (e1.trans e2))
        | _ :: _ :: _,rs,p2 => exact False.elim p2
  | _ => exact False.elim p1
theorem mt_tindex:MtR X "tuple.index" (fun x xs H Q => ∃ (p:Addr) (ys:List V) (y:V) (j:Nat),x = .ref p ∧ xs = [y] ∧ SqT X.K H p ys ∧ flatV y = true ∧ ys.all flatV = true ∧ ys.findIdx? (fun z => eqV z y) = some j ∧ Q (.int (j:Nat)) H):=by
  intro pins s σ H x xs v us Q I rx rv h
  obtain ⟨p,ys,y,j,rfl,rfl,hq,fy,fs,hj,q⟩:=h
  cases rx
  obtain ⟨u,rfl,ru⟩:=vals1 rv
  obtain ⟨its,r,pl,hz⟩:=I.tuple hq
  have hlen:=r.length
  obtain ⟨⟨cl,dd,dt,sl⟩,ho,hc,n,hd⟩:=pl
  dsimp only at hc hd
  subst hc; subst hd
  rw [List.findIdx?_eq_some_iff_getElem] at hj
  obtain ⟨hj1,hj2,hj3⟩:=hj
  have at':∀ (k:Nat) (h:k < ys.length) (h':k < its.length),eqU y its[k] = eqV ys[k] y:=by
    intro k h h'
    obtain ⟨w,hw,rw'⟩:=r.get (List.getElem?_eq_getElem h)
    rw [List.getElem?_eq_getElem h'] at hw
    cases hw
    exact eqU_of rw' (List.all_eq_true.mp fs _ (List.getElem_mem h))
  refine call_meets PySem.F.slot_tuple_index ⟨_,ho,rfl⟩ PySem.F.entry_tuple_index (PySem.F.args_tuple_index_2 _ _) (tup_indexAt p its.toArray n dd sl u (eqU y) j (by simp; omega) ?_ ?_) ⟨ho,fun w hw => mem_eqAt ru fy r fs w (by simpa using hw),⟨.int _,H,I.tok _,⟨_,rfl⟩,q⟩⟩
  · rw [List.getElem_toArray,at' j hj1 (by omega)]; exact hj2
  · intro m hm hlt
    rw [List.getElem_toArray,at' m (by omega) (by omega)]
    simpa using hj3 m hlt
def mTIndex (o v:Wv) (st:Hs):Re Wv:=match o with
  | .tup ws => if flatW v = true ∧ ws.all flatW = true then (match ws.findIdx? (fun z => eqF z v) with | some j => .ok (.int (j:Nat)) st | none => .bad) else .bad
  | _ => .bad
theorem mw_tindex:MtW X "tuple.index" mTIndex:=⟨_,mt_tindex,fun o w x v st H m Q S ro rw' p => by
  cases o with
  | tup ws =>
    unfold RelW at ro
    obtain ⟨a,xs,rfl,q1,q2⟩:=ro
    unfold mTIndex at p
    dsimp only at p
    by_cases c:flatW w = true ∧ ws.all flatW = true
    · rw [if_pos c] at p
      cases ej:ws.findIdx? (fun z => eqF z w) with
      | none => rw [ej] at p; exact False.elim p
      | some j =>
        rw [ej] at p
        exact ⟨a,xs,v,j,rfl,rfl,SqT.of q1,flat_rel rw' c.1,flatsW_rel q2 c.2,by rw [find_rel rw' c.1 q2 c.2]; exact ej,p _ m H Ext.refl S mkInt⟩
    · rw [if_neg c] at p; exact False.elim p
  | _ => exact False.elim p⟩
end
end J
namespace J
open PySem PySem.Spec PyProof.Rows L2
section
variable {X:Cx}
inductive JEs (X:Cx):List Expr → List GE → Prop
  | nil:JEs X [] []
  | cons {e:Expr} {g:GE} {es:List Expr} {gs:List GE}:JE X e g → JEs X es gs → JEs X (e :: es) (g :: gs)
end
section
variable {X:Cx}
def gDcGet (kvs:Dc) (gk gx:GE):GE:=fun ρ st => (gk ρ st).bind fun k st1 => (gx ρ st1).bind fun x st2 => match k with
  | .str z => .ok ((kvs.lookup z).getD x) st2
  | _ => .bad
theorem je_dcGet {e f:Expr} {gk gx:GE} {x:Str} {p apos cpos:Pos} {kvs:Dc} (he:JE X e gk) (hf:JE X f gx) (M:M2 X (.Name x p) "get" apos e f cpos) (hg:Gl X x) (hd:(x == ("__debug__":Str)) = false) (D:DcAt X.K X.w X.mg x kvs):JE X (.Call (.Attribute (.Name x p) "get" apos) [e,f] [] cpos) (gDcGet kvs gk gx):=by
  intro ρ st σ H m Q S R pp pins s I
  obtain ⟨a,es,ep,g1,g2,g3,g4,g5⟩:=D
  have k1:=he.go (T:=fun y H2 => ∃ k st1 m1,PostE X σ m H ((gx ρ st1).bind fun x st2 => match k with | .str z => .ok ((kvs.lookup z).getD x) st2 | _ => .bad) Q ∧ Ext X.K m H m1 H2 ∧ Sim X.K m1 st1 H2 ∧ RelW X.K m1 H2 k y) S R (PostG.bind pp) fun w st1 v m1 H1 p1 e1 S1 rw' => ⟨w,st1,m1,p1,e1,S1,rw'⟩
  refine wpAny_Call_method M.base M.few M.line PySem.F.plainAttrs_dict PySem.F.slot_dict_get PySem.F.type_dict_get (thn (pe_glob (v:=.ref a) hg g1 rfl hd pins s σ H (fun v H2 => v = .ref a ∧ H2 = H) I ⟨rfl,rfl⟩) fun u s1 ⟨v,H1,I1,rv,ev,eH⟩ => ?_)
  subst ev
  cases eH
  obtain rfl:u = Value.ref a:=rv
  refine ⟨⟨_,I1.kIn _ _ g2,rfl⟩,fun a' e => by cases e; exact ⟨_,I1.kIn _ _ g2,rfl⟩,?_⟩
  rw [M.trees]
  refine Calls.callWith_builtin rfl (Calls.evalArgs_plain (Calls.spliced_cons (thn (k1 pins s1 I1) fun iv s2 ⟨y,H2,I2,ry,k,st1,m1,p1,e1,S1,rk⟩ => ?_)))
  have k2:=hf.go (T:=fun z H3 => ∃ x' st2 m2,PostE X σ m H (match k with | .str z => .ok ((kvs.lookup z).getD x') st2 | _ => .bad) Q ∧ Ext X.K m H m2 H3 ∧ Sim X.K m2 st2 H3 ∧ RelW X.K m2 H3 x' z) S1 (R.mono e1) ((PostG.bind p1).imp e1 fun _ _ q => q) fun w st2 v m2 H3 p2 e2 S2 rw' => ⟨w,st2,m2,p2,e1.trans e2,S2,rw'⟩
  refine Calls.spliced_cons (thn (k2 pins s2 I2) fun fv s3 ⟨z,H3,I3,rz,x',st2,m2,p2,e2,S2,rx⟩ => Calls.spliced_nil ?_)
  cases k with
  | str zs =>
    obtain ⟨rfl,_⟩:=relStr rk
    obtain ⟨t,rfl⟩:=(show ∃ t,iv = Value.str zs t from ry)
    obtain ⟨vs,dd,look⟩:=dc_dict (P:=X.prog) (w:=X.w) I3.kIn g2 g4 g5
    refine call_meetsIn PySem.F.slot_dict_get dd.typeIs PySem.F.entry_dict_get (PySem.F.args_dict_get_3 _ _ _) (meets_dict_get_default (PySem.strKind X.prog X.w) a (strKind_is X.prog X.w zs t) g3 fv) ⟨_,dd.mapOf,?_⟩
    have p2':okE X.K m H Q ((kvs.lookup zs).getD x') st2:=p2
    cases e:kvs.lookup zs with
    | none =>
      rw [e] at p2'
      have q:=(look zs).1 e
      show EP X pins σ Q ((valueAt vs zs).getD fv) _
      rw [q]
      exact ⟨z,H3,I3.tok _,rz,p2' z m2 H3 e2 S2 rx⟩
    | some u =>
      rw [e] at p2'
      obtain ⟨u',q1,q2⟩:=(look zs).2 u e
      show EP X pins σ Q ((valueAt vs zs).getD fv) _
      rw [q1]
      cases u with
      | int i => exact ⟨.int i,H3,I3.tok _,q2,p2' _ m2 H3 e2 S2 (by unfold RelW; rfl)⟩
      | str y => exact ⟨.str y,H3,I3.tok _,q2.1,p2' _ m2 H3 e2 S2 (by unfold RelW; exact ⟨rfl,q2.2⟩)⟩
      | _ => exact False.elim q2
  | _ => exact False.elim p2
end
def fBad:List Wv → Hs → Re Wv:=fun _ _ => .bad
theorem has_bad {P:Program} {w:World} {K:PySem.W.Frag} {mg:Str → Option Value} {base:Heap} {h:Heap} {k:Nat} {x:Str} {st:Stmt} {ps:List Str} (KX:K.In h) (NS:h.Ns mainGlobals mg) (D:DefAt K x st)
    (hb:∀ (kV doc pm:Value) (an:Option Addr) (cdv ct:Value) (us:List Value),us.length = ps.length → bindArgs (PySem.W.fnOf x x (defArgs st) (defBody st) (defScope st) .none kV doc pm an cdv ct) ⟨us,[]⟩ = pure (ps.zip us)) :
    Has P w K mg base k x ps.length fBad:=by
  obtain ⟨f,fd,a,F⟩:=D
  exact ⟨f,fd,ps,⟨fun vs H Q E ⟨_,_,_,_,_,_,p⟩ => False.elim p,fun A outer s H args us vs Q E hr e0 hb r ⟨_,_,_,_,_,_,p⟩ => False.elim p⟩,PySem.W.mg_of KX NS a,F.kp,F.binds hb⟩
section
variable {X:Cx}
theorem op_mulS1:OpR X (binaryOp .Mult) (fun x y H Q => ∃ z n,x = .str z ∧ y = .int n ∧ (n = 0 ∨ n = 1) ∧ Q (.str (if n = 0 then PySem.Str.empty else z)) H):=by
  intro pins s σ H x y v u Q I rx ry h
  obtain ⟨z,n,rfl,rfl,hn,q⟩:=h
  obtain ⟨t,rfl⟩:=rx
  obtain ⟨t',rfl⟩:=ry
  rcases hn with rfl | rfl
  · exact PySem.P.mul_str_none (by omega) (by omega) ⟨.str PySem.Str.empty,H,I.tok _,⟨_,rfl⟩,q⟩
  · refine PySem.P.mul_str (by decide) (fun _ h => by cases h) (fun _ h => by cases h) ?_
    rw [if_neg (by omega),if_pos (by rfl)]
    exact ⟨.str z,H,I,⟨t,rfl⟩,q⟩
noncomputable def oMulL:Op2:=fun x y st => match x,y with
  | .str z,.int n => if n = 0 ∨ n = 1 then .ok (.str (if n = 0 then PySem.Str.empty else z)) st else oMulL0 (.str z) (.int n) st
  | x,y => oMulL0 x y st
theorem ow_mulL1:OpW X (binaryOp .Mult) oMulL:=by
  obtain ⟨r,h1,h2⟩:=ow_mulL (X:=X)
  refine ⟨_,OpR.or op_mulS1 h1,fun x y a b st H m Q S rx ry p => ?_⟩
  cases x with
  | str z =>
    cases y with
    | int n =>
      have p':PostO X.K m H (if n = 0 ∨ n = 1 then .ok (.str (if n = 0 then PySem.Str.empty else z)) st else oMulL0 (.str z) (.int n) st) Q:=p
      by_cases c:n = 0 ∨ n = 1
      · rw [if_pos c] at p'
        obtain ⟨rfl,ok⟩:=relStr rx
        refine .inl ⟨z,n,rfl,relInt ry,c,p' _ m H Ext.refl S (mkStr ?_)⟩
        by_cases c0:n = 0
        · rw [if_pos c0]; decide +kernel
        · rw [if_neg c0]; exact ok
      · rw [if_neg c] at p'
        exact .inr (h2 _ _ _ _ st H m Q S rx ry p')
    | _ => exact .inr (h2 _ _ _ _ st H m Q S rx ry p)
  | _ => exact .inr (h2 _ _ _ _ st H m Q S rx ry p)
end
end J
namespace J
open PySem PySem.Spec PyProof.Rows L2
abbrev LF:=List Wv → List Wv → Hs → Re Wv
section
variable {X:Cx} {pins:List (Addr × Obj)} {σ:St} {H:Hp} {s:Shared}
end
def spL (K:PySem.W.Frag) (n:Nat) (p:Lm) (L:LF):Sp:=fun vs H Q E => ∃ m st ws caps,Sim K m st H ∧ RelWs K m H ws vs ∧ RelWs K m H caps p.xs ∧ H p.c = some (.ext (CodeX p.c p.q)) ∧ ws.length = n ∧ PostF K m H (L caps ws st) Q E
def HasL (P:Program) (w:World) (K:PySem.W.Frag) (mg:Str → Option Value) (base:Heap) (k:Nat) (p:Lm) (n:Nat) (L:LF):Prop :=
  ∃ fd ps ob,FnOk P w K mg base (CXJ P w) k p.a fd ps (spL K n p L) ∧ base.get? p.a = some ob ∧ ob.data = .func fd ∧ Binds K fd ps []
open Classical in
section
variable {X:Cx}
end
def freeOf (sc:Scope):List Str:=(sc.names.filter fun p => decide (p.2 = .free)).map (·.1)
structure LamSc (sc:Scope) (x1 x2 x3 y:Str):Prop where
  kind:sc.kind = .function
  co:sc.isCoroutine = false
  gen:sc.isGenerator = false
  nocell:∀ p ∈ sc.names,p.2 ≠ .cell
  p1:sc.names.lookup x1 = some .local
  p2:sc.names.lookup x2 = some .local
  p3:sc.names.lookup x3 = some .local
  fr:freeOf sc = [y]
  fy:sc.names.lookup y = some .free
  nd:[x1,x2,x3,y].Nodup
end J
namespace J
open PySem PySem.Spec PyProof.Rows L2
section
variable {P:Program} {w:World} {K:PySem.W.Frag} {mg:Str → Option Value} {base:Heap} {p:Lm} {scope:Scope} {x1 x2 x3 y:Str} {cy:Addr}
end
end J
namespace J
open PySem PySem.Spec PyProof.Rows L2
structure LamAt (X:Cx) (q:Str) (P:Addr):Prop where
  code:∃ c,X.env.code = .ref c ∧ PySem.W.CodeHd X.base c P
  qual:X.env.qual = q ++ ".<locals>."
  tab:tabFree X.K q = some P
  mem:q ∈ lamDefs
  uniq:∀ q',q' ∈ lamDefs → tabFree X.K q' = some P → q' = q
  bm:∃ bm ob,X.mg "__builtins__" = some (.ref bm) ∧ bm ≠ builtinsNs ∧ bm ≠ mainGlobals ∧ X.base.get? bm = some ob ∧ ob.cls = .type "module" ∧ ob.dict = some builtinsNs ∧ ob.data = .plain
section
variable {X:Cx} {pins:List (Addr × Obj)} {σ:St} {H:Hp} {s:Shared} {q:Str} {P:Addr}
end
end J
namespace J
open PySem PySem.Spec PyProof.Rows L2
abbrev FLt:=Lm → LF → List Wv → Hs → Re Wv
def BmOk (mg:Str → Option Value) (base:Heap):Prop:=∃ bm ob,mg "__builtins__" = some (.ref bm) ∧ bm ≠ builtinsNs ∧ bm ≠ mainGlobals ∧ base.get? bm = some ob ∧ ob.cls = .type "module" ∧ ob.dict = some builtinsNs ∧ ob.data = .plain
def ModB (K:PySem.W.Frag) (mg:Str → Option Value) (base:Heap):Prop:=Mod K mg base ∧ BmOk mg base
def FnL (P:Program) (w:World) (K:PySem.W.Frag) (mg:Str → Option Value) (k j:Nat) (x:Str) (FL:FLt):Prop :=
  (∃ f,mg x = some (.ref f) ∧ PySem.W.keepIn K (.ref f) = true) ∧ ∀ (base:Heap) (p:Lm) (L:LF),ModB K mg base → HasL P w K mg base (j + 1) p 3 L → Has P w K mg base k x 2 (FL p L)
section
variable {X:Cx}
end
end J
namespace J
open PySem PySem.Spec PyProof.Rows L2
section
variable {P:Program} {w:World} {A:Around} {E:Value → Shared → Prop} {s:Shared}
structure Zd (z T O j1 j2 j3 t1 t2 t3:Addr):Prop where
  nd:[z,T,O,j1,j2,j3].Nodup
  a1:t1 ∉ [z,O,j1,j2,j3]
  a2:t2 ∉ [z,O,j1,j2,j3]
  a3:t3 ∉ [z,O,j1,j2,j3]
end
end J
namespace J
open PySem PySem.Spec PyProof.Rows L2
abbrev zA (h:Heap) (t1:Addr):Heap:=h.push { cls:=.type "tuple_iterator",data:=.fields #[.ref t1,.int 0 0] }
abbrev zB (h:Heap) (t1 t2:Addr):Heap:=zA (zA h t1) t2
abbrev zC (h:Heap) (t1 t2 t3:Addr):Heap:=zA (zB h t1 t2) t3
abbrev zD (h:Heap) (t1 t2 t3:Addr):Heap:=(zC h t1 t2 t3).push { cls:=.type "tuple",data:=.seq #[.ref h.objs.size,.ref (zA h t1).objs.size,.ref (zB h t1 t2).objs.size] }
section
variable {P:Program} {w:World} {A:Around} {E:Value → Shared → Prop} {s:Shared}
end
section
variable {P:Program} {w:World} {A:Around} {E:Value → Shared → Prop} {s:Shared}
end
end J
namespace J
open PySem PySem.Spec PyProof.Rows L2
section
variable {X:Cx}
end
end J
namespace J
open PySem PySem.Spec PyProof.Rows L2
def CRs (a b c:Int):Prop:=0 ≤ a ∧ a < 2 ^ 30 ∧ 0 ≤ b ∧ b < 2 ^ 30 ∧ 1 ≤ c ∧ c < 2 ^ 30
noncomputable instance {a b c}:Decidable (CRs a b c):=Classical.propDecidable _
section
variable {X:Cx} {tg:Expr}
end
end J
namespace J
open PySem PySem.Spec PyProof.Rows L2
def gTryN (cat:PySem.Str → Option Bool) (gb gs:GS):GS:=fun ρ st => match gb ρ st with
  | .err c ρ' st' => (match cat c with
    | some true => (match gs ρ' st' with
      | .nx ρ2 st2 => .nx ρ2 st2
      | .rt w st2 => .rt w st2
      | _ => .bad)
    | _ => .bad)
  | r => r
section
variable {X:Cx}
theorem js_tryN {x:Str} {D:Addr} {body suite:List Stmt} {b₀:Stmt} {gb gs:GS} {np hp pos:Pos} {tb:Tab} {tt:TabT} {tc:Tab} (K0:Stk X) (hc:X.calm = true) (O:TabOk X.K tb tt tc)
    (hg:Gl X x) (hm:X.mg x = some (.ref D)) (hD:ClsAt X.K x D) (hd:(x == ("__debug__":Str)) = false)
    (hb:∀ (pn:List (Addr × Obj)) (E:Value → Shared → Prop),JSs (reX X X.A true pn E) body gb) (hs:∀ (e:Value) (pn:List (Addr × Obj)) (E:Value → Shared → Prop),JSs (reX X (X.A.mark (some e)) false pn E) (b₀ :: suite) gs) :
    JS X (.Try body [.ExceptHandler (some (.Name x np)) none (b₀ :: suite) hp] [] [] pos) (gTryN (fun c => tc.lookup (c,x)) gb gs):=by
  intro ρ st σ H m D' S R p pins s I
  refine wpAny_Try_except ?_
  let hx':Value → Shared → Prop:=fun e s1 => wpAny (model X.prog X.w) X.A (noteFrame e X.env) (fun _ s2 => wpAny (model X.prog X.w) X.A (setFlight e none) (fun _ s3 =>
    wpAny (model X.prog X.w) X.A (handleBy e X.env [.ExceptHandler (some (.Name x np)) none (b₀ :: suite) hp]) (SP X pins D') X.xe s3) X.xe s2) X.xe s1
  have hA:X.A.handled = none:=I.ok.hd hc
  have Ib:Inv (reX X X.A true (X.pn ++ pins) hx') [] σ H s:=inv_re I rfl fun _ => hA
  have post:PostS (reX X X.A true (X.pn ++ pins) hx') m H (gb ρ st) D':=by
    unfold gTryN at p
    cases eb:gb ρ st with
    | nx ρ1 st1 => rw [eb] at p; exact p
    | rt w1 st1 => rw [eb] at p; exact p
    | bk ρ1 st1 => rw [eb] at p; exact p
    | ct ρ1 st1 => rw [eb] at p; exact p
    | bad => rw [eb] at p; exact p
    | err c ρ1 st1 =>
      rw [eb] at p
      dsimp only at p
      cases ec:tc.lookup (c,x) with
      | none => rw [ec] at p; exact False.elim p
      | some bc =>
        cases bc with
        | false => rw [ec] at p; exact False.elim p
        | true =>
          rw [ec] at p
          dsimp only at p
          intro σ1 m1 H1 e s1 e1 S1 R1 rz
          obtain ⟨C,pins',Hc,sc,hC,Ic,rz⟩:=rz
          obtain ⟨zC,zD,hmro⟩:=O.cat c x true C D ec hC hD
          refine land K0 (inv_er I.ok Ic) rz fun a a0 B h5 ea fl5 inv hn => ?_
          subst ea
          have I5:Inv X pins σ1 (upd H1 a (.ext (ExnAt a C))) { s1 with heap:=h5 }:=inv h5 s1.toks fl5 (Heap.UpToSlots.refl _)
          obtain ⟨o5,ho5,hc5,_⟩:=(I5.hok a _ upd_same).1
          have Im:Inv (reX X (X.A.mark (some (.ref a))) false (X.pn ++ pins) fun _ _ => False) [] σ1 (upd H1 a (.ext (ExnAt a C))) { s1 with heap:=h5 }:=inv_re I5 rfl (fun z => by cases z)
          refine wpAny_handleBy_cons (codeAny_handlers_test (ld_glob Im hg hm ?_ hd)) (by intro q; cases q)
          refine catch_own (b:=true) Im.kIn zC zD hmro ho5 hc5 ?_
          refine codeAny_handlers_suite ?_
          refine lands_againW fl5 fun h6 fl6 up6 => ?_
          have I6:=inv h6 s1.toks fl6 up6
          have e6:Ext X.K m1 H1 m1 (upd H1 a (.ext (ExnAt a C))):=Ext.upd (.inl hn)
          have S6:Sim X.K m1 st1 (upd H1 a (.ext (ExnAt a C))):=S1.fresh hn
          have I7':Inv (reX X (X.A.mark (some (.ref a))) false (X.pn ++ pins) fun _ _ => False) [] σ1 (upd H1 a (.ext (ExnAt a C))) { s1 with heap:=h6 }:=inv_re I6 rfl (fun z => by cases z)
          cases es:gs ρ1 st1 with
          | nx ρ2 st2 =>
            rw [es] at p
            let D2:Ends:={ nx:=D'.nx,rt:=fun _ _ => False,bk:=fun _ _ => False,ct:=fun _ _ => False }
            have go:=hs (.ref a) (X.pn ++ pins) (fun _ _ => False) ρ1 st1 σ1 _ m1 D2 S6 (R1.mono e6) (by
              rw [es]
              exact fun σ' m' H' e' S' R' => p σ' m' H' (e1.trans (e6.trans e')) S' R') [] _ I7'
            refine wpAny_mono go (fun f s8 h8 => ?_) fun _ _ z => z.elim
            cases f with
            | next =>
              obtain ⟨σ8,H8,I8,q8⟩:=h8
              exact ⟨_,H8,inv_er I.ok I8,q8⟩
            | brk => obtain ⟨_,_,_,q8⟩:=h8; exact q8.elim
            | cont => obtain ⟨_,_,_,q8⟩:=h8; exact q8.elim
            | ret u => obtain ⟨_,_,_,_,_,q8⟩:=h8; exact q8.elim
          | rt w2 st2 =>
            rw [es] at p
            let D2:Ends:={ nx:=fun _ _ => False,rt:=D'.rt,bk:=fun _ _ => False,ct:=fun _ _ => False }
            have go:=hs (.ref a) (X.pn ++ pins) (fun _ _ => False) ρ1 st1 σ1 _ m1 D2 S6 (R1.mono e6) (by
              rw [es]
              exact fun v' m' H' e' S' R' => p v' m' H' (e1.trans (e6.trans e')) S' R') [] _ I7'
            refine wpAny_mono go (fun f s8 h8 => ?_) fun _ _ z => z.elim
            cases f with
            | next => obtain ⟨_,_,_,q8⟩:=h8; exact q8.elim
            | brk => obtain ⟨_,_,_,q8⟩:=h8; exact q8.elim
            | cont => obtain ⟨_,_,_,q8⟩:=h8; exact q8.elim
            | ret u =>
              obtain ⟨v8,σ8,H8,I8,r8,q8⟩:=h8
              exact ⟨v8,_,H8,inv_er I.ok I8,r8,q8⟩
          | bk ρ2 st2 => rw [es] at p; exact False.elim p
          | ct ρ2 st2 => rw [es] at p; exact False.elim p
          | err c2 ρ2 st2 => rw [es] at p; exact False.elim p
          | bad => rw [es] at p; exact False.elim p
  refine wpAny_mono (hb (X.pn ++ pins) hx' ρ st σ H m D' S R post [] s Ib) (fun f s1 h1 => ?_) fun e s1 h1 => h1
  have h2:=sp_er I.ok h1
  cases f with
  | next => exact wpAny_execs_nil h2
  | brk => exact h2
  | cont => exact h2
  | ret u => exact h2
end
end J
namespace J
open PySem PySem.Spec PyProof.Rows L2
def whl (gt:GT) (gb:GS):Nat → Rho → Hs → Rs
  | 0,_,_ => .bad
  | n + 1,ρ,st => (gt ρ st).thn ρ fun b st1 => if b = true then (match gb ρ st1 with
      | .nx ρ' st' => whl gt gb n ρ' st'
      | .ct ρ' st' => whl gt gb n ρ' st'
      | .bk ρ' st' => .nx ρ' st'
      | .rt w st' => .rt w st'
      | .err c ρ' st' => .err c ρ' st'
      | .bad => .bad) else .nx ρ st1
def gWhile (n:Nat) (gt:GT) (gb:GS):GS:=fun ρ st => whl gt gb n ρ st
section
variable {X:Cx}
theorem js_while (n:Nat) {c:Expr} {body:List Stmt} {gt:GT} {gb:GS} {pos:Pos} (hp:PassesOwn (model X.prog X.w) X.A X.env X.xe) (hc:JT X c gt) (hb:JSs X body gb):JS X (.While c body [] pos) (gWhile n gt gb):=by
  refine JS.of (ps_while hp pt_ST pss_SSs) fun ρ st σ H m D S R p => ?_
  refine ⟨fun k σ' H' => ∃ ρ' st' m',Ext X.K m H m' H' ∧ Sim X.K m' st' H' ∧ RelEnv X.K m' H' ρ' σ' ∧ PostS X m' H' (whl gt gb k ρ' st') D,⟨n,ρ,st,m,Ext.refl,S,R,p⟩,?_⟩
  rintro k σ1 H1 ⟨ρ1,st1,m1,e1,S1,R1,p1⟩
  cases k with
  | zero => exact False.elim p1
  | succ k =>
    refine hc.go S1 R1 (PostS.of_thn R1 p1) fun b st2 m2 H2 p2 e2 S2 => ?_
    cases b with
    | false =>
      rw [if_neg Bool.false_ne_true] at p2 ⊢
      exact p2 σ1 m2 H2 e2 S2 (R1.mono e2)
    | true =>
      rw [if_pos rfl] at p2 ⊢
      refine ⟨fun σ' H' => ∃ ρ' st' m',Ext X.K m H m' H' ∧ Sim X.K m' st' H' ∧ RelEnv X.K m' H' ρ' σ' ∧ PostS X m' H' (whl gt gb k ρ' st') D,fun σ' H' q => ⟨k,Nat.lt_succ_self k,q⟩,?_⟩
      refine hb ρ1 st2 σ1 H2 m2 _ S2 (R1.mono e2) ?_
      have e12:=e1.trans e2
      cases eg:gb ρ1 st2 with
      | nx ρ3 st3 => rw [eg] at p2; exact fun σ3 m3 H3 e3 S3 R3 => ⟨ρ3,st3,m3,e12.trans e3,S3,R3,PostS.shift p2 (e2.trans e3)⟩
      | ct ρ3 st3 => rw [eg] at p2; exact fun σ3 m3 H3 e3 S3 R3 => ⟨ρ3,st3,m3,e12.trans e3,S3,R3,PostS.shift p2 (e2.trans e3)⟩
      | bk ρ3 st3 => rw [eg] at p2; exact fun σ3 m3 H3 e3 S3 R3 => p2 σ3 m3 H3 (e2.trans e3) S3 R3
      | rt w3 st3 => rw [eg] at p2; exact PostS.shift (r:=.rt w3 st3) p2 e2
      | err c3 ρ3 st3 => rw [eg] at p2; exact fun σ' m' H' x s' e' => p2 σ' m' H' x s' (e2.trans e')
      | bad => rw [eg] at p2; exact p2
def augO:Operator → Option (Int → Int → Int)
  | .Add => some fun i j => i + j
  | .Sub => some fun i j => i - j
  | _ => none
def kAug (f:Int → Int → Int) (i:Nat) (x y:Wv) (ρ:Rho) (st:Hs):Rs:=match x,y with
  | .int a,.int b => .nx (ρ.set i (some (.int (f a b)))) st
  | _,_ => .bad
def gAug (f:Int → Int → Int) (i:Nat) (g:GE):GS:=fun ρ st => match ρ[i]? with
  | some (some x) => (g ρ st).thn ρ fun y st' => kAug f i x y ρ st'
  | _ => .bad
theorem js_aug {op:Operator} {f:Int → Int → Int} (i:Nat) {x:Str} {e:Expr} {g:GE} {pos pos':Pos} (ho:augO op = some f) (hN:X.N.Nodup) (h:JE X e g) (hi:X.N[i]? = some x) (hx:Loc X.env.scope x)
    (hf:X.fn x = true ∨ X.env.scope.names.lookup x = some .local):JS X (.AugAssign (.Name x pos') op e pos) (gAug f i g):=by
  have hip:PIp X op (ipI f):=by
    cases op <;> first | (cases ho; exact ip_add) | (cases ho; exact ip_sub) | cases ho
  refine JS.of (ps_aug hN hi hx pe_SE hip hf) fun ρ st σ H m D S R p => ?_
  unfold gAug at p
  cases q:ρ[i]? with
  | none => rw [q] at p; exact False.elim p
  | some o =>
    cases o with
    | none => rw [q] at p; exact False.elim p
    | some w =>
      rw [q] at p
      obtain ⟨v,h1,h2⟩:=R.get _ _ q
      refine ⟨v,h1,?_⟩
      refine h.go S R (PostS.of_thn R p) fun y st1 u m1 H1 p1 e1 S1 r1 => ?_
      have h2':=RelW.mono e1 _ _ h2
      cases w with
      | int a =>
        cases y with
        | int b =>
          cases relInt h2'
          cases relInt r1
          exact ⟨a,b,rfl,rfl,p1 _ m1 H1 e1 S1 ((R.mono e1).set i mkInt)⟩
        | _ => exact False.elim p1
      | _ => exact False.elim p1
def oOrd:List Wv → Hs → Re Wv
  | [.str x],st => if x.length = 1 then .ok (.int (x.cps.getD 0 0:Nat)) st else .bad
  | _,_ => .bad
theorem boot_ordJ:bootBuiltins "ord" = some (.builtin "ord"):=by decide +kernel
theorem cw_ord:CallW X (.builtin "ord") oOrd:=⟨_,call_ord,fun ws vs st H m Q S r p => by
  match ws,r,p with
  | [],r,p => exact False.elim p
  | x :: y :: t,r,p => cases x <;> exact False.elim p
  | [x],r,p =>
    obtain ⟨v,rfl,rx⟩:=rel1 r
    cases x with
    | str z =>
      have p':PostO X.K m H (if z.length = 1 then .ok (.int (z.cps.getD 0 0:Nat)) st else .bad) Q:=p
      by_cases c:z.length = 1
      · rw [if_pos c] at p'
        obtain ⟨rfl,_⟩:=relStr rx
        exact ⟨z,rfl,c,p' _ m H Ext.refl S mkInt⟩
      · rw [if_neg c] at p'; exact False.elim p'
    | _ => exact False.elim p⟩
end
end J
namespace J
open PySem PySem.Spec PyProof.Rows L2
theorem ext_tup (l:Addr) (items:Array Value) (n:Nat) (b:Addr) (items2:Array Value) (n2:Nat) (dd:Option Addr) (sl:Array (Option Value)) (hs0:¬(!items.isEmpty && Builtin.List.listTooLong (items.size + items2.size)) = true) (hs1:items.size ≤ sizeLine) (hs2:items.size + items2.size ≤ sizeLine + 1) :
    Meets (Builtin.«list.extend» ⟨[.ref l,.ref b],[]⟩) (fun _ R s => s.heap.get? l = some { cls:=.type "list",dict:=none,data:=.seq items n,slots:=#[] } ∧ s.heap.get? b = some ⟨.type "tuple",dd,.seq items2 n2,sl⟩ ∧ R (.ok (.ret Value.none)) { s with heap:=s.heap.update l (Obj.mapSeq fun x => x ++ items2),toks:=s.toks }) :=
  .of_wp fun prog w A R s h => by
    obtain ⟨hp,g,d,tk,os⟩:=s; obtain ⟨hl,hb,h⟩:=h; have f1:=AutoSeq1.idx_int; have f2:=AutoSeq1.sub_tuple_tuple; have f3:=AutoSeq1.sub_list_list; have f4:=AutoSeq1.sub_tuple_list; have f5:=AutoSeq1.sub_list_tuple;
    have hz':(items ++ items2).size ≤ sizeLine + 1:=by rw [Array.size_append]; exact hs2
    wp_walk using (wpAny_updateSeq hl rfl (hz:=hs1) (_hz':=hz')),wpAny_loadPart' hl,wpAny_loadPart' hb; exact ⟨_,rfl,h⟩
def rExtendT (K:PySem.W.Frag):V → List V → Hp → VK → Prop:=fun x vs H Q => ∃ l b xs zs,x = .ref l ∧ vs = [.ref b] ∧ H l = some (.lst xs) ∧ SqT K H b zs ∧ xs.length + zs.length ≤ sizeLine ∧ Q .non (upd H l (.lst (xs ++ zs)))
section
variable {X:Cx}
theorem mt_extendT:MtM X "list.extend" (rExtendT X.K):=by
  intro pins s σ H x vs v us Q I rx rv h
  obtain ⟨l,b,xs,zs,rfl,rfl,hH,hB,hz,q⟩:=h
  cases rx
  obtain ⟨u,rfl,ru⟩:=rv.one
  cases ru
  obtain ⟨z,its,n,r,hl,e⟩:=I.lstM hH
  obtain ⟨its2,r2,⟨o,e2,oc,n2,od⟩,z2⟩:=I.tuple hB
  obtain ⟨oc',dd,od',sl⟩:=o
  dsimp only at oc od
  subst oc od
  have l1:xs.length = its.length:=r.length
  have l2:zs.length = its2.length:=r2.length
  have hsz:its.toArray.size + its2.toArray.size ≤ sizeLine:=by rw [List.size_toArray,List.size_toArray]; omega
  have hlong:¬ (!its.toArray.isEmpty && Builtin.List.listTooLong (its.toArray.size + its2.toArray.size)) = true:=by
    rw [notLongL hsz,Bool.and_false]
    exact Bool.false_ne_true
  refine call_meets F.slot_list_extend ⟨_,e,rfl⟩ F.entry_list_extend (F.args_list_extend_2 _ _)
    (ext_tup l its.toArray n b its2.toArray n2 dd sl hlong (by rw [List.size_toArray]; omega) (by omega)) ⟨e,e2,?_⟩
  refine ⟨.non,_,I.lset (its':=its ++ its2) hH e (by simp) (r.append r2) ?_,rfl,q⟩
  rw [List.length_append]
  omega
def mExtT (o v:Wv) (st:Hs):Re Wv:=match v with
  | .tup zs => (match o with
    | .ref l => (match st[l]? with
      | some (.lst ws) => if ws.length + zs.length ≤ lim then .ok .non (st.set l (.lst (ws ++ zs))) else .bad
      | _ => .bad)
    | _ => .bad)
  | v => mExt o v st
theorem mw_extT:MtW X "list.extend" mExtT:=by
  obtain ⟨r0,m0,h0⟩:=mw_ext (X:=X)
  refine ⟨fun x vs H Q => r0 x vs H Q ∨ rExtendT X.K x vs H Q,?_,fun o w x v st H m Q S ro rw' p => ?_⟩
  · intro pins s σ H x vs v us Q I rx rv h
    rcases h with h | h
    · exact m0 pins s σ H x vs v us Q I rx rv h
    · exact mt_extendT pins s σ H x vs v us Q I rx rv h
  · cases w with
    | tup zs =>
      refine .inr ?_
      cases o with
      | ref l =>
        unfold RelW at ro rw'
        obtain ⟨a,rfl,ha⟩:=ro
        obtain ⟨b,ys,rfl,hb,g2⟩:=rw'
        have p':PostO X.K m H (match st[l]? with | some (.lst ws) => if ws.length + zs.length ≤ lim then .ok .non (st.set l (.lst (ws ++ zs))) else .bad | _ => .bad) Q:=p
        cases e:st[l]? with
        | none => rw [e] at p'; exact False.elim p'
        | some ob =>
          cases ob with
          | dct kvs => rw [e] at p'; exact False.elim p'
          | dcT kvs => rw [e] at p'; exact False.elim p'
          | scr ns => rw [e] at p'; exact False.elim p'
          | lst ws =>
            rw [e] at p'
            dsimp only at p'
            by_cases c:ws.length + zs.length ≤ lim
            · rw [if_pos c] at p'
              obtain ⟨xs,h1,h2⟩:=S.lstAt ha e
              have e4:Ext X.K m H m (upd H a (.lst (xs ++ ys))):=Ext.upd (.inr ⟨xs,h1⟩)
              exact ⟨a,b,xs,ys,rfl,rfl,h1,SqT.of hb,by rw [← h2.length,← g2.length]; exact lim_le c,p' _ m _ e4 (S.write ha e (h2.append g2)) mkNon⟩
            · rw [if_neg c] at p'; exact False.elim p'
      | _ => exact False.elim p
    | _ => exact .inl (h0 o _ x v st H m Q S ro rw' p)
end
def oInD (neg:Bool):Op2:=fun x y st => match datum st 20 y,datum st 20 x with
  | some (.list ds),some d => .ok (.bl ((ds.any fun z => PyData.eqv z d) != neg)) st
  | some (.tuple ds),some d => .ok (.bl ((ds.any fun z => PyData.eqv z d) != neg)) st
  | _,_ => .bad
section
variable {X:Cx}
def rInD (K:PySem.W.Frag) (neg:Bool):R2:=fun a b H Q => ∃ m st x y d ds c,Sim K m st H ∧ RelW K m H x a ∧ RelW K m H y b ∧ datum st 20 y = some c ∧ (c = .list ds ∨ c = .tuple ds) ∧ datum st 20 x = some d ∧ Q (.bl ((ds.any fun z => PyData.eqv z d) != neg)) H
theorem dep_all {ds:List PyData} {c:PyData} (h:c = .list ds ∨ c = .tuple ds) (k:c.canLay0 = true):PyData.canLayAll0 ds = true:=by
  rcases h with rfl | rfl <;> exact k
theorem op_inD (hu:X.A.units + 64 < cLine):OpR X (compareOp .In) (rInD X.K false):=by
  intro pins s σ H a b v u Q I rx ry h
  obtain ⟨m,st,x,y,d,ds,c,S,h1,h2,e1,hc,e2,q⟩:=h
  obtain ⟨as,q1,q2,q3⟩:=datum_ok I S 20 x a v d h1 rx e2
  obtain ⟨bs,p1,p2,p3⟩:=datum_ok I S 20 y b u c h2 ry e1
  have hd:X.A.units + 1 + min (PyData.depthAll ds) d.depth < cLine:=by
    have:=Nat.min_le_right (PyData.depthAll ds) d.depth
    omega
  have e:∀ t:Bool,(t != false) = t:=by decide
  rw [e] at q
  have ca:=dep_all hc p2
  rcases hc with rfl | rfl
  · exact SeqAt.in_list_reads p1 q1 ca q2 hd ⟨.bl _,H,I,rfl,q⟩
  · exact SeqAt.in_tuple_reads p1 q1 ca q2 hd ⟨.bl _,H,I,rfl,q⟩
theorem op_notInD (hu:X.A.units + 64 < cLine):OpR X (compareOp .NotIn) (rInD X.K true):=by
  intro pins s σ H a b v u Q I rx ry h
  obtain ⟨m,st,x,y,d,ds,c,S,h1,h2,e1,hc,e2,q⟩:=h
  obtain ⟨as,q1,q2,q3⟩:=datum_ok I S 20 x a v d h1 rx e2
  obtain ⟨bs,p1,p2,p3⟩:=datum_ok I S 20 y b u c h2 ry e1
  have hd:X.A.units + 1 + min (PyData.depthAll ds) d.depth < cLine:=by
    have:=Nat.min_le_right (PyData.depthAll ds) d.depth
    omega
  have e:∀ t:Bool,(t != true) = !t:=by decide
  rw [e] at q
  have ca:=dep_all hc p2
  rcases hc with rfl | rfl
  · exact SeqAt.notIn_list_reads p1 q1 ca q2 hd ⟨.bl _,H,I,rfl,q⟩
  · exact SeqAt.notIn_tuple_reads p1 q1 ca q2 hd ⟨.bl _,H,I,rfl,q⟩
theorem inD_of {neg:Bool} {x y:Wv} {a b:V} {st:Hs} {H:Hp} {m:Mp} {Q:VK} (S:Sim X.K m st H) (rx:RelW X.K m H x a) (ry:RelW X.K m H y b) (p:PostO X.K m H (oInD neg x y st) Q):rInD X.K neg a b H Q:=by
  unfold oInD at p
  split at p
  · rename_i ds d e1 e2
    exact ⟨m,st,x,y,d,ds,_,S,rx,ry,e1,.inl rfl,e2,p _ m H Ext.refl S mkBl⟩
  · rename_i ds d e1 e2
    exact ⟨m,st,x,y,d,ds,_,S,rx,ry,e1,.inr rfl,e2,p _ m H Ext.refl S mkBl⟩
  · exact False.elim p
theorem ow_inD (hu:X.A.units + 64 < cLine):OpW X (compareOp .In) (oInD false):=⟨_,op_inD hu,fun x y a b st H m Q S rx ry p => inD_of S rx ry p⟩
theorem ow_notInD (hu:X.A.units + 64 < cLine):OpW X (compareOp .NotIn) (oInD true):=⟨_,op_notInD hu,fun x y a b st H m Q S rx ry p => inD_of S rx ry p⟩
end
end J
namespace J
open PySem PySem.Spec PyProof.Rows L2
structure Ct where
 N:List Str
 names:List (Str × NameKind)
 consts:List (Str × Wv)
 bl:List Str
 fns:List (Str × Nat × (List Wv → Hs → Re Wv))
 tb:Tab:=[]
 tt:TabT:=[]
 clss:List Str:=[]
 cln:List Str:=[]
 tc:Tab:=[]
 dcs:List (Str × Dc):=[]
 dts:List Str:=[]
 dks:List Str:=[]
 dis:List Str:=[]
 fnu:List Str:=[]
 loop:Bool:=true
 free:Bool:=true
 top:Bool:=true
 lam:Option (Lm × LF):=none
 fnL:List (Str × FLt):=[]
 lfn:List Str:=[]
 lj:Nat:=0
 self:Str:=""
def ixOf (x:Str):List Str → Option Nat
 | [] => none
 | y :: r => if x = y then some 0 else match ixOf x r with
  | some i => some (i + 1)
  | none => none
theorem ixOf_get {x:Str}:∀ {N:List Str} {i:Nat},ixOf x N = some i → N[i]? = some x
 | [],i,h => by cases h
 | y :: r,i,h => by
  unfold ixOf at h
  by_cases e:x = y
  ·rw [if_pos e] at h; cases h; subst e; rfl
  ·rw [if_neg e] at h
   cases q:ixOf x r with
   | none => rw [q] at h; cases h
   | some j => rw [q] at h; cases h; simpa using ixOf_get q
def okN (x:Str):Bool:=!(x == ("__debug__":Str)) && !(x == ("__classdict__":Str)) && !(decide (x = "__name__"))
theorem okN_d {x:Str} (h:okN x = true):(x == ("__debug__":Str)) = false:=by unfold okN at h; revert h; cases (x == ("__debug__":Str)) <;> simp
theorem okN_c {x:Str} (h:okN x = true):(x == ("__classdict__":Str)) = false:=by unfold okN at h; revert h; cases (x == ("__classdict__":Str)) <;> simp
theorem okN_n {x:Str} (h:okN x = true):x ≠ "__name__":=by
 intro e
 subst e
 unfold okN at h
 simp at h
def FlatL:List Wv → List V → Prop
 | [],[] => True
 | .int i :: r,.int j :: t => i = j ∧ FlatL r t
 | .str x :: r,.str y :: t => (x = y ∧ PyData.strOk x = true) ∧ FlatL r t
 | _,_ => False
theorem FlatL.rel {K:PySem.W.Frag} {m:Mp} {H:Hp}:∀ {ws:List Wv} {vs:List V},FlatL ws vs → RelWs K m H ws vs
 | [],[],_ => RelWs.nil
 | .int i :: r,.int j :: t,h => by
  obtain ⟨rfl,h⟩:=h
  exact RelWs.cons (by unfold RelW; rfl) h.rel
 | .str x :: r,.str y :: t,h => by
  obtain ⟨⟨rfl,hx⟩,h⟩:=h
  exact RelWs.cons (by unfold RelW; exact ⟨rfl,hx⟩) h.rel
 | [],_ :: _,h => False.elim h
 | .int i :: r,[],h => False.elim h
 | .str i :: r,[],h => False.elim h
 | .int i :: r,.str _ :: _,h => False.elim h
 | .str i :: r,.int _ :: _,h => False.elim h
def CstOk (K:PySem.W.Frag) (mg:Str → Option Value) (x:Str):Wv → Prop
 | .int i => ∃ t,mg x = some (.int i t)
 | .str y => (∃ t,mg x = some (.str y t)) ∧ PyData.strOk y = true
 | .ktp ws => ∃ (a:Addr) (vs:List V) (o:Obj) (its:Array Value) (n:Nat),mg x = some (.ref a) ∧ K.lookup a = some o ∧ o.cls = .type "tuple" ∧ o.data = .seq its n ∧ its.size ≤ sizeLine ∧ Vals vs its.toList ∧ FlatL ws vs
 | _ => False
structure GoodX (c:Ct) (k:Nat) (X:Cx):Prop where
 lam:∀ p L,c.lam = some (p,L) → HasL X.prog X.w X.K X.mg X.base k p 3 L
 fnL:∀ x F,c.fnL.lookup x = some F → FnL X.prog X.w X.K X.mg k c.lj x F
 fnJ:∀ x n F,c.fns.lookup x = some (n,F) → c.lfn.contains x = true → ∀ base,ModB X.K X.mg base → Has X.prog X.w X.K X.mg base c.lj x n F
 at':c.top = true → c.self ∈ lamDefs → ∃ P,LamAt X c.self P
structure Good (c:Ct) (k:Nat) (X:Cx):Prop where
 N:X.N = c.N
 sc:X.env.scope.names = c.names
 nd:c.N.Nodup
 un:X.A.units + 64 < cLine
 free:c.free = true → Room k X.A ∧ X.calm = true
 loop:c.loop = true → X.calm = true ∧ PassesOwn (model X.prog X.w) X.A X.env X.xe
 cst:∀ x w,c.consts.lookup x = some w → CstOk X.K X.mg x w
 bl:∀ x,c.bl.contains x = true → X.mg x = none
 fns:∀ x n F,c.fns.lookup x = some (n,F) → Has X.prog X.w X.K X.mg X.base k x n F
 stk:c.top = true → Stk X
 fn:c.top = true → ∀ x,X.fn x = true
 kind:X.env.scope.kind = .function
 tab:TabOk X.K c.tb c.tt c.tc
 cls:∀ x,c.clss.contains x = true → ∃ C,X.mg x = some (.ref C) ∧ ExcC X.K x C
 cln:∀ x,c.cln.contains x = true → ∃ C,X.mg x = some (.ref C) ∧ ClsAt X.K x C
 dcs:∀ x kvs,c.dcs.lookup x = some kvs → DcAt X.K X.w X.mg x kvs
 rm:RoomU k X.A
 fnu:∀ x n F,c.fnu.contains x = true → c.fns.lookup x = some (n,F) → HasU X.prog X.w X.K X.mg X.base k x n F
 x:GoodX c k X
theorem room_un {k:Nat} {A:Around} (hr:Room k A):A.units + 64 < cLine:=by have:=hr.un; omega
def Ct.inTry (c:Ct):Ct:={ c with loop:=false }
def Ct.inSuite (c:Ct):Ct:={ c with loop:=false,free:=false }
abbrev Ct.un (c:Ct):Ct:=c.inSuite
theorem Good.body {c:Ct} {k:Nat} {X:Cx} (G:Good c k X) (hf:c.free = true) (pn:List (Addr × Obj)) (E:Value → Shared → Prop):Good c.inTry k (reX X X.A true pn E) :=
 ⟨G.N,G.sc,G.nd,G.un,fun _ => ⟨(G.free hf).1,rfl⟩,(fun z => by cases z),G.cst,G.bl,G.fns,fun z => ⟨(G.stk z).st,(G.stk z).fr,(G.stk z).ex⟩,G.fn,G.kind,G.tab,G.cls,G.cln,G.dcs,⟨G.rm.d,G.rm.u⟩,G.fnu,⟨G.x.lam,G.x.fnL,G.x.fnJ,fun t m => (G.x.at' t m).imp fun P L => ⟨L.code,L.qual,L.tab,L.mem,L.uniq,L.bm⟩⟩⟩
theorem Good.suite {c:Ct} {k:Nat} {X:Cx} (G:Good c k X) (e:Value) (pn:List (Addr × Obj)) (E:Value → Shared → Prop):Good c.inSuite k (reX X (X.A.mark (some e)) false pn E) :=
 ⟨G.N,G.sc,G.nd,G.un,(fun z => by cases z),(fun z => by cases z),G.cst,G.bl,G.fns,fun z => ⟨(G.stk z).st,(G.stk z).fr,(G.stk z).ex⟩,G.fn,G.kind,G.tab,G.cls,G.cln,G.dcs,⟨G.rm.d,G.rm.u⟩,G.fnu,⟨G.x.lam,G.x.fnL,G.x.fnJ,fun t m => (G.x.at' t m).imp fun P L => ⟨L.code,L.qual,L.tab,L.mem,L.uniq,L.bm⟩⟩⟩
theorem boot_tyV:bootBuiltins "ValueError" = some (.type "ValueError"):=by decide +kernel
def tyOf (x:Str):Option String :=
 if x = "int" then some "int" else if x = "str" then some "str" else if x = "bool" then some "bool" else if x = "tuple" then some "tuple" else if x = "list" then some "list" else if x = "ValueError" then some "ValueError" else none
theorem tyOf_ok {x:Str} {T:String} (h:tyOf x = some T):bootBuiltins x = some (.type T):=by
 unfold tyOf at h
 by_cases e:x = "int"
 ·rw [if_pos e] at h; cases h; subst e; exact boot_tyI
 rw [if_neg e] at h
 by_cases e:x = "str"
 ·rw [if_pos e] at h; cases h; subst e; exact boot_tyS
 rw [if_neg e] at h
 by_cases e:x = "bool"
 ·rw [if_pos e] at h; cases h; subst e; exact boot_tyB
 rw [if_neg e] at h
 by_cases e:x = "tuple"
 ·rw [if_pos e] at h; cases h; subst e; exact boot_tyT
 rw [if_neg e] at h
 by_cases e:x = "list"
 ·rw [if_pos e] at h; cases h; subst e; exact boot_tyL
 rw [if_neg e] at h
 by_cases e:x = "ValueError"
 ·rw [if_pos e] at h; cases h; subst e; exact boot_tyV
 rw [if_neg e] at h
 cases h
section
variable {X:Cx}
def oBad:Op2:=fun _ _ _ => .bad
theorem ow_bad {f:Value → Value → Sem Value}:OpW X f oBad:=⟨fun _ _ _ _ => False,fun _ _ _ _ _ _ _ _ _ _ _ _ h => h.elim,fun _ _ _ _ _ _ _ _ _ _ _ p => p⟩
noncomputable def binO:Operator → Op2
 | .Add => oAdd
 | .Sub => oSub
 | .Mult => oMulL
 | .FloorDiv => oFdiv
 | .Mod => oMod
 | .Pow => oPow
 | _ => oBad
theorem binO_ok (o:Operator):OpW X (binaryOp o) (binO o):=by
 cases o <;> first | exact ow_add | exact ow_sub | exact ow_mulL1 | exact ow_fdiv | exact ow_mod | exact ow_pow | exact ow_bad
def cmpO:CmpOp → Op2
 | .Eq => oEq
 | .NotEq => oNe
 | .Lt => oLt
 | .LtE => oLe
 | .Gt => oGt
 | .GtE => oGe
 | .Is => oIs
 | .IsNot => oIsNot
 | .In => oIn2
 | .NotIn => oNotIn2
theorem cmpO_ok (hu:X.A.units + 64 < cLine) (o:CmpOp):OpW X (compareOp o) (cmpO o):=by
 cases o <;> first | exact ow_eq hu | exact ow_ne hu | exact ow_ltT hu | exact ow_leT hu | exact ow_gt | exact ow_ge | exact ow_is | exact ow_isnot | exact ow_in2 | exact ow_notIn2
def cName (c:Ct) (x:Str):GE:=if okN x = true then
  match c.names.lookup x with
  | some .local => (match ixOf x c.N with | some i => gVar i | none => gBad)
  | some .cell => (match ixOf x c.N with | some i => gVar i | none => gBad)
  | some .free => (match ixOf x c.N with | some i => gVar i | none => gBad)
  | some .globalImplicit => (match c.consts.lookup x with
   | some w => gC w
   | none => if c.clss.contains x = true then gC (.cls x) else if c.cln.contains x = true then gC (.cls x) else if c.bl.contains x = true then (match tyOf x with | some T => gC (.ty T) | none => gBad) else gBad)
  | _ => gBad
 else gBad
theorem cName_ok {c:Ct} {k:Nat} (G:Good c k X) (x:Str) (pos:Pos):JE X (.Name x pos) (cName c x):=by
 unfold cName
 by_cases hx:okN x = true
 ·rw [if_pos hx]
  cases e:c.names.lookup x with
  | none => exact je_bad
  | some kd =>
   have el:X.env.scope.names.lookup x = some kd:=by rw [G.sc]; exact e
   cases kd with
   | «local» =>
    dsimp only
    cases e2:ixOf x c.N with
    | none => exact je_bad
    | some i => exact je_var i (by rw [G.N]; exact ixOf_get e2) (Or.inl el) (okN_d hx) (okN_c hx)
   | cell =>
    dsimp only
    cases e2:ixOf x c.N with
    | none => exact je_bad
    | some i => exact je_var i (by rw [G.N]; exact ixOf_get e2) (Or.inr (Or.inl el)) (okN_d hx) (okN_c hx)
   | free =>
    dsimp only
    cases e2:ixOf x c.N with
    | none => exact je_bad
    | some i => exact je_var i (by rw [G.N]; exact ixOf_get e2) (Or.inr (Or.inr el)) (okN_d hx) (okN_c hx)
   | globalImplicit =>
    dsimp only
    have hg:Gl X x:=el
    cases e2:c.consts.lookup x with
    | some w =>
     have q:=G.cst x w e2
     cases w with
     | int i => obtain ⟨t,q⟩:=q; exact je_globI hg q (okN_d hx)
     | str y => obtain ⟨⟨t,q⟩,z⟩:=q; exact je_globS hg q z (okN_d hx)
     | ktp ws =>
      obtain ⟨a,vs,o,its,n,q1,q2,q3,q4,q5,q6,q7⟩:=q
      exact JE.of (pe_glob (v:=.ref a) hg q1 rfl (okN_d hx)) fun ρ st σ H m Q S R p => p (.ref a) m H Ext.refl S (by unfold RelW; exact ⟨a,vs,rfl,⟨o,its,n,q2,q3,q4,q5,q6⟩,q7.rel⟩)
     | _ => exact False.elim q
    | none =>
     dsimp only
     by_cases e5:c.clss.contains x = true
     ·rw [if_pos e5]
      obtain ⟨C,q1,q2⟩:=G.cls x e5
      exact JE.of (pe_glob (v:=.ref C) hg q1 rfl (okN_d hx)) fun ρ st σ H m Q S R p => p (.ref C) m H Ext.refl S (by unfold RelW; exact ⟨C,rfl,q2.cls⟩)
     rw [if_neg e5]
     by_cases e6:c.cln.contains x = true
     ·rw [if_pos e6]
      obtain ⟨C,q1,q2⟩:=G.cln x e6
      exact JE.of (pe_glob (v:=.ref C) hg q1 rfl (okN_d hx)) fun ρ st σ H m Q S R p => p (.ref C) m H Ext.refl S (by unfold RelW; exact ⟨C,rfl,q2⟩)
     rw [if_neg e6]
     by_cases e3:c.bl.contains x = true
     ·rw [if_pos e3]
      cases e4:tyOf x with
      | none => exact je_bad
      | some T => exact je_ty hg (G.bl x e3) (tyOf_ok e4) (okN_n hx) (okN_d hx)
     ·rw [if_neg e3]; exact je_bad
   | _ => exact je_bad
 ·rw [if_neg hx]; exact je_bad
def cConst:Const → GE
 | .none => gC .non
 | .bool b => gC (.bl b)
 | .int i => gC (.int i)
 | .str x => if PyData.strOk x = true then gC (.str x) else gBad
 | _ => gBad
theorem cConst_ok (k:Const) (j:Nat) (pos:Pos):JE X (.Constant k j pos) (cConst k):=by
 cases k with
 | none => exact je_non
 | bool b => exact je_bl
 | int i => exact je_int
 | str x =>
  show JE X _ (if PyData.strOk x = true then gC (.str x) else gBad)
  by_cases h:PyData.strOk x = true
  ·rw [if_pos h]; exact je_str h
  ·rw [if_neg h]; exact je_bad
 | _ => exact je_bad
def plain:Expr → Bool
 | .Starred .. => false
 | _ => true
theorem star_plain {e:Expr} {es:List Expr} {env:Env} (h:plain e = true):starEach (e :: es) env = (false,eval e env) :: starEach es env:=by
 cases e <;> first | rfl | cases h
theorem any_plain {pos:Pos} {env:Env}:∀ {es:List Expr},es.all plain = true → (backTo pos (starEach es env)).any (·.1) = false
 | [],_ => rfl
 | e :: es,h => by
  rw [List.all_cons,Bool.and_eq_true] at h
  rw [star_plain h.1]
  have q:=any_plain (pos:=pos) (env:=env) h.2
  unfold backTo at q ⊢
  rw [List.map_cons,List.any_cons,q]
  rfl
def argsG (f:Expr → GE):List Expr → GA
 | [] => gNil
 | e :: es => gCons (f e) (argsG f es)
theorem args_ok {f:Expr → GE} (h:∀ e,JE X e (f e)):∀ es:List Expr,es.all plain = true → JA X es (argsG f es)
 | [],_ => ja_nil
 | e :: es,g => by
  rw [List.all_cons,Bool.and_eq_true] at g
  exact ja_cons (h e) (args_ok h es g.2) (star_plain g.1)
def blO (c:Ct) (x:Str):Option (Value × (List Wv → Hs → Re Wv)) :=
 if x = "len" then some (.builtin "len",oLen) else if x = "abs" then some (.builtin "abs",oAbs) else if x = "isinstance" then some (.builtin "isinstance",oIsA c.tb c.tt) else if x = "tuple" then some (.type "tuple",oTupC) else if x = "all" ∧ c.free = true then some (.builtin "all",oAll) else if x = "min" ∧ c.free = true then some (.builtin "min",oMin2) else if x = "ord" then some (.builtin "ord",oOrd) else none
theorem boot_all':bootBuiltins "all" = some (.builtin "all"):=by decide +kernel
theorem boot_min':bootBuiltins "min" = some (.builtin "min"):=by decide +kernel
theorem blO_ok {c:Ct} {x:Str} {v:Value} {op:List Wv → Hs → Re Wv} (O:TabOk X.K c.tb c.tt c.tc) (hc:c.free = true → X.calm = true) (h:blO c x = some (v,op)):bootBuiltins x = some v ∧ CallW X v op ∧ ((∃ id,v = .builtin id) ∨ ∃ T,v = .type T):=by
 unfold blO at h
 by_cases e:x = "len"
 ·rw [if_pos e] at h; cases h; subst e; exact ⟨boot_lenJ,cw_len,.inl ⟨_,rfl⟩⟩
 rw [if_neg e] at h
 by_cases e:x = "abs"
 ·rw [if_pos e] at h; cases h; subst e; exact ⟨boot_absJ,cw_abs,.inl ⟨_,rfl⟩⟩
 rw [if_neg e] at h
 by_cases e:x = "isinstance"
 ·rw [if_pos e] at h; cases h; subst e; exact ⟨boot_isI,cw_isA O,.inl ⟨_,rfl⟩⟩
 rw [if_neg e] at h
 by_cases e:x = "tuple"
 ·rw [if_pos e] at h; cases h; subst e; exact ⟨boot_tyT,cw_tup,.inr ⟨_,rfl⟩⟩
 rw [if_neg e] at h
 by_cases e:x = "all" ∧ c.free = true
 ·rw [if_pos e] at h; cases h; obtain ⟨rfl,e2⟩:=e; exact ⟨boot_all',cw_all (hc e2),.inl ⟨_,rfl⟩⟩
 rw [if_neg e] at h
 by_cases e:x = "min" ∧ c.free = true
 ·rw [if_pos e] at h; cases h; obtain ⟨rfl,e2⟩:=e; exact ⟨boot_min',cw_min2 (hc e2),.inl ⟨_,rfl⟩⟩
 rw [if_neg e] at h
 by_cases e:x = "ord"
 ·rw [if_pos e] at h; cases h; subst e; exact ⟨boot_ordJ,cw_ord,.inl ⟨_,rfl⟩⟩
 rw [if_neg e] at h
 cases h
noncomputable def cCallN (c:Ct) (fE:Expr → GE) (x:Str) (es:List Expr):GE:=if okN x = true ∧ es.all plain = true ∧ c.names.lookup x = some .globalImplicit then
   (match c.fns.lookup x with
   | some (n,F) => if c.free = true then gCall n F (argsG fE es) else if c.fnu.contains x = true then gCall n F (argsG fE es) else gBad
   | none => if c.bl.contains x = true then (match blO c x with | some (_,op) => gCallB op (argsG fE es) | none => gBad) else gBad)
  else gBad
def cMeth (fE:Expr → GE) (o:Expr) (name:Str) (e:Expr) (apos cpos:Pos):GE:=if plain e = true ∧ (apos.endLine == cpos.line) = true then
   (if name = "append" then gMeth mApp (fE o) (fE e) else if name = "extend" then gMeth mExtT (fE o) (fE e) else gBad)
  else gBad
def cMethL (fE:Expr → GE) (o:Expr) (name:Str) (e:Expr) (apos cpos:Pos):GE:=if plain e = true ∧ (apos.endLine == cpos.line) = true then
   (if name = "count" then gMeth mLCount (fE o) (fE e) else if name = "index" then gMeth mLIndex (fE o) (fE e) else gBad)
  else gBad
theorem cMethL_ok {fE:Expr → GE} (h:∀ e,JE X e (fE e)) (x name:Str) (e:Expr) (p apos cpos:Pos):JE X (.Call (.Attribute (.Name x p) name apos) [e] [] cpos) (cMethL fE (.Name x p) name e apos cpos):=by
 unfold cMethL
 by_cases g:plain e = true ∧ (apos.endLine == cpos.line) = true
 ·rw [if_pos g]
  by_cases n1:name = "count"
  ·rw [if_pos n1]
   subst n1
   exact je_meth mw_lcount PySem.F.slot_list_count PySem.F.type_list_count (h _) (h e) (star_plain g.1) g.2
  rw [if_neg n1]
  by_cases n2:name = "index"
  ·rw [if_pos n2]
   subst n2
   exact je_meth mw_lindex PySem.F.slot_list_index PySem.F.type_list_index (h _) (h e) (star_plain g.1) g.2
  rw [if_neg n2]
  exact je_bad
 ·rw [if_neg g]; exact je_bad
def isBase:Expr → Bool
 | .Name .. => true
 | .Constant (.str _) _ _ => true
 | .Subscript .. => true
 | _ => false
def cMethS (fE:Expr → GE) (o:Expr) (name:Str) (es:List Expr) (apos cpos:Pos):GE:=if isBase o = true ∧ es.all plain = true ∧ es.length < 20 ∧ (apos.endLine == cpos.line) = true then
   (if name = "join" then gMethS mJoin (fE o) (argsG fE es) else if name = "count" then gMethS mCount (fE o) (argsG fE es) else if name = "index" then gMethS mIndex (fE o) (argsG fE es) else gBad)
  else gBad
theorem base_ok {o:Expr} {name:Str} {env:Env} (h:isBase o = true):attributeBase o name env (eval o env) = eval o env:=by
 cases o with
 | Constant k j p => cases k <;> first | rfl | cases h
 | _ => first | rfl | cases h
theorem all_plain {pos:Pos} {env:Env}:∀ {es:List Expr},es.all plain = true → (backTo pos (starEach es env)).all (fun x => !x.1) = true
 | [],_ => rfl
 | e :: es,h => by
  rw [List.all_cons,Bool.and_eq_true] at h
  rw [star_plain h.1]
  have q:=all_plain (pos:=pos) (env:=env) h.2
  unfold backTo at q ⊢
  rw [List.map_cons,List.all_cons,q]
  rfl
theorem cMethS_ok {fE:Expr → GE} (h:∀ e,JE X e (fE e)) (o:Expr) (name:Str) (e:Expr) (es:List Expr) (apos cpos:Pos):JE X (.Call (.Attribute o name apos) (e :: es) [] cpos) (cMethS fE o name (e :: es) apos cpos):=by
 unfold cMethS
 by_cases g:isBase o = true ∧ (e :: es).all plain = true ∧ (e :: es).length < 20 ∧ (apos.endLine == cpos.line) = true
 ·rw [if_pos g]
  obtain ⟨g1,g2,g3,g4⟩:=g
  have gp:plain e = true ∧ es.all plain = true:=by rw [List.all_cons,Bool.and_eq_true] at g2; exact g2
  have hfew:((backTo cpos (starEach (e :: es) X.env)).all (fun x => !x.1) && (backToKw cpos (keywordEach [] X.env)).all (fun x => x.1.isSome) && decide ((e :: es).length + ([]:List Keyword).length + (if ([]:List Keyword).isEmpty then 0 else 1) < 30)) = true:=by
   rw [all_plain g2]
   have g5:(e :: es).length + ([]:List Keyword).length + (if ([]:List Keyword).isEmpty then 0 else 1) < 30:=by
    show (e :: es).length + 0 + 0 < 30
    omega
   rw [decide_eq_true g5]
   rfl
  by_cases n1:name = "join"
  ·rw [if_pos n1]
   subst n1
   exact je_methS ms_join PySem.F.slot_str_join PySem.F.type_str_join (h o) (args_ok h (e :: es) g2) (base_ok g1) hfew g4 (star_plain gp.1) (any_plain gp.2)
  rw [if_neg n1]
  by_cases n1:name = "count"
  ·rw [if_pos n1]
   subst n1
   exact je_methS ms_count PySem.F.slot_str_count PySem.F.type_str_count (h o) (args_ok h (e :: es) g2) (base_ok g1) hfew g4 (star_plain gp.1) (any_plain gp.2)
  rw [if_neg n1]
  by_cases n1:name = "index"
  ·rw [if_pos n1]
   subst n1
   exact je_methS ms_index PySem.F.slot_str_index PySem.F.type_str_index (h o) (args_ok h (e :: es) g2) (base_ok g1) hfew g4 (star_plain gp.1) (any_plain gp.2)
  rw [if_neg n1]
  exact je_bad
 ·rw [if_neg g]; exact je_bad
def cGet2 (fE:Expr → GE) (o:Expr) (e f:Expr) (apos cpos:Pos):GE:=gBad
theorem cGet2_ok {c:Ct} {k:Nat} (G:Good c k X) {fE:Expr → GE} (h:∀ e,JE X e (fE e)) (o:Expr) (ho:attributeBase o "get" X.env (eval o X.env) = eval o X.env) (e f:Expr) (apos cpos:Pos):JE X (.Call (.Attribute o "get" apos) [e,f] [] cpos) (cGet2 fE o e f apos cpos):=by
 exact je_bad
def dcOf (c:Ct) (x:Str):Option Dc:=if okN x = true ∧ c.names.lookup x = some .globalImplicit then c.dcs.lookup x else none
theorem dcOf_ok {c:Ct} {k:Nat} (G:Good c k X) {x:Str} {kvs:Dc} (h:dcOf c x = some kvs):Gl X x ∧ (x == ("__debug__":Str)) = false ∧ DcAt X.K X.w X.mg x kvs:=by
 unfold dcOf at h
 by_cases g:okN x = true ∧ c.names.lookup x = some .globalImplicit
 ·rw [if_pos g] at h
  refine ⟨?_,okN_d g.1,G.dcs x kvs h⟩
  show X.env.scope.names.lookup x = _
  rw [G.sc]; exact g.2
 ·rw [if_neg g] at h; cases h
def isBaseC:Expr → Bool
 | .Call (.Name _ _) (_ :: _) [] _ => true
 | _ => false
theorem baseC_ok {o:Expr} {name:Str} {env:Env} (h:isBaseC o = true):attributeBase o name env (eval o env) = eval o env:=by
 unfold isBaseC at h
 split at h
 ·rfl
 ·cases h
def isBaseS:Expr → Bool
 | .Subscript .. => true
 | _ => false
theorem baseS_ok {o:Expr} {name:Str} {env:Env} (h:isBaseS o = true):attributeBase o name env (eval o env) = eval o env:=by
 unfold isBaseS at h
 split at h
 ·rfl
 ·cases h
def cIndexO (fE:Expr → GE) (o e:Expr) (apos cpos:Pos):GE:=if plain e = true ∧ (apos.endLine == cpos.line) = true then
   (if isBaseC o = true then gMeth mLIndex (fE o) (fE e) else if isBaseS o = true then gMethT mTIndex (fE o) (fE e) else gBad)
  else gBad
theorem cIndexO_ok {fE:Expr → GE} (h:∀ e,JE X e (fE e)) (o e:Expr) (apos cpos:Pos):JE X (.Call (.Attribute o "index" apos) [e] [] cpos) (cIndexO fE o e apos cpos):=by
 unfold cIndexO
 by_cases g:plain e = true ∧ (apos.endLine == cpos.line) = true
 ·rw [if_pos g]
  by_cases b1:isBaseC o = true
  ·rw [if_pos b1]
   exact je_methO mw_lindex PySem.F.slot_list_index PySem.F.type_list_index (baseC_ok b1) (h o) (h e) (star_plain g.1) g.2
  rw [if_neg b1]
  by_cases b2:isBaseS o = true
  ·rw [if_pos b2]
   exact je_methT mw_tindex PySem.F.slot_tuple_index PySem.F.type_tuple_index (baseS_ok b2) (h o) (h e) (star_plain g.1) g.2
  rw [if_neg b2]
  exact je_bad
 ·rw [if_neg g]; exact je_bad
noncomputable def cCall (c:Ct) (fE:Expr → GE) (cpos:Pos):Expr → List Expr → List Keyword → GE
 | .Name x _,e :: es,[] => cCallN c fE x (e :: es)
 | .Attribute (.Name x p) name apos,[e],[] => if name = "append" ∨ name = "extend" then cMeth fE (.Name x p) name e apos cpos else if name = "count" ∨ name = "index" then gAlt (cMethS fE (.Name x p) name [e] apos cpos) (cMethL fE (.Name x p) name e apos cpos) else cMethS fE (.Name x p) name [e] apos cpos
 | .Attribute (.Name x p) name apos,[e,f],[] => if name = "get" then (match dcOf c x with | some kvs => (if plain e = true ∧ plain f = true ∧ (apos.endLine == cpos.line) = true then gDcGet kvs (fE e) (fE f) else gBad) | none => cGet2 fE (.Name x p) e f apos cpos) else cMethS fE (.Name x p) name [e,f] apos cpos
 | .Attribute o name apos,[e],[] => if name = "index" then gAlt (cMethS fE o name [e] apos cpos) (cIndexO fE o e apos cpos) else cMethS fE o name [e] apos cpos
 | .Attribute o name apos,e :: es,[] => cMethS fE o name (e :: es) apos cpos
 | _,_,_ => gBad
theorem cCallN_ok {c:Ct} {k:Nat} (G:Good c k X) {fE:Expr → GE} (h:∀ e,JE X e (fE e)) (x:Str) (e:Expr) (es:List Expr) (p pos:Pos):JE X (.Call (.Name x p) (e :: es) [] pos) (cCallN c fE x (e :: es)):=by
 unfold cCallN
 by_cases g:okN x = true ∧ (e :: es).all plain = true ∧ c.names.lookup x = some .globalImplicit
 ·rw [if_pos g]
  obtain ⟨g1,g2,g3⟩:=g
  have hg:Gl X x:=by
   show X.env.scope.names.lookup x = _
   rw [G.sc]; exact g3
  have gp:plain e = true ∧ es.all plain = true:=by rw [List.all_cons,Bool.and_eq_true] at g2; exact g2
  have ha:=args_ok h (e :: es) g2
  cases e1:c.fns.lookup x with
  | some nF =>
   obtain ⟨n,F⟩:=nF
   dsimp only
   by_cases cf:c.free = true
   ·rw [if_pos cf]
    obtain ⟨a,fd,ps,G1,G2,G3,G4⟩:=G.fns x n F e1
    exact je_call G1 (G.free cf).1 G2 G3 G4 ha hg (okN_d g1) (star_plain gp.1) (any_plain gp.2)
   ·rw [if_neg cf]
    by_cases cu:c.fnu.contains x = true
    ·rw [if_pos cu]
     obtain ⟨a,fd,ps,G1,G2,G3,G4⟩:=G.fnu x n F cu e1
     exact je_callU G1 G.rm G2 G3 G4 ha hg (okN_d g1) (star_plain gp.1) (any_plain gp.2)
    ·rw [if_neg cu]; exact je_bad
  | none =>
   dsimp only
   by_cases e3:c.bl.contains x = true
   ·rw [if_pos e3]
    cases e4:blO c x with
    | none => exact je_bad
    | some io =>
     obtain ⟨v,op⟩:=io
     obtain ⟨b1,b2,b3⟩:=blO_ok (X:=X) G.tab (fun z => (G.free z).2) e4
     rcases b3 with ⟨id,rfl⟩ | ⟨T,rfl⟩
     ·exact je_callB b2 hg (G.bl x e3) b1 ha (okN_n g1) (okN_d g1) (star_plain gp.1) (any_plain gp.2)
     ·exact je_callTy b2 hg (G.bl x e3) b1 ha (okN_n g1) (okN_d g1) (star_plain gp.1) (any_plain gp.2)
   ·rw [if_neg e3]
    exact je_bad
 ·rw [if_neg g]; exact je_bad
theorem cMeth_ok {fE:Expr → GE} (h:∀ e,JE X e (fE e)) (x name:Str) (e:Expr) (p apos cpos:Pos):JE X (.Call (.Attribute (.Name x p) name apos) [e] [] cpos) (cMeth fE (.Name x p) name e apos cpos):=by
 unfold cMeth
 by_cases g:plain e = true ∧ (apos.endLine == cpos.line) = true
 ·rw [if_pos g]
  by_cases n1:name = "append"
  ·rw [if_pos n1]
   subst n1
   exact je_meth mw_app PySem.F.slot_list_append PySem.F.type_list_append (h _) (h e) (star_plain g.1) g.2
  rw [if_neg n1]
  by_cases n2:name = "extend"
  ·rw [if_pos n2]
   subst n2
   exact je_meth mw_extT PySem.F.slot_list_extend PySem.F.type_list_extend (h _) (h e) (star_plain g.1) g.2
  rw [if_neg n2]
  exact je_bad
 ·rw [if_neg g]; exact je_bad
theorem cCall_ok {c:Ct} {k:Nat} (G:Good c k X) {fE:Expr → GE} (h:∀ e,JE X e (fE e)) (f:Expr) (as:List Expr) (ks:List Keyword) (pos:Pos):JE X (.Call f as ks pos) (cCall c fE pos f as ks):=by
 unfold cCall
 split
 ·exact cCallN_ok G h _ _ _ _ _
 ·rename_i x p name apos e
  by_cases g:name = "append" ∨ name = "extend"
  ·rw [if_pos g]; exact cMeth_ok h _ _ _ _ _ _
  ·rw [if_neg g]
   by_cases g2:name = "count" ∨ name = "index"
   ·rw [if_pos g2]; exact je_alt (cMethS_ok h _ _ _ _ _ _) (cMethL_ok h _ _ _ _ _ _)
   ·rw [if_neg g2]; exact cMethS_ok h _ _ _ _ _ _
 ·rename_i x p name apos e f
  by_cases g:name = "get"
  ·rw [if_pos g]
   subst g
   cases ed:dcOf c x with
   | none => exact cGet2_ok G h _ rfl _ _ _ _
   | some kvs =>
    dsimp only
    by_cases g:plain e = true ∧ plain f = true ∧ (apos.endLine == pos.line) = true
    ·rw [if_pos g]
     obtain ⟨g1,g2,g3⟩:=g
     obtain ⟨q1,q2,q3⟩:=dcOf_ok G ed
     refine je_dcGet (h e) (h f) ⟨rfl,?_,g3,?_⟩ q1 q2 q3
     ·rw [all_plain (es:=[e,f]) (by simp [g1,g2])]
      rfl
     ·rw [star_plain g1,star_plain g2]
      rfl
    ·rw [if_neg g]; exact je_bad
  ·rw [if_neg g]; exact cMethS_ok h _ _ _ _ _ _
 ·rename_i o name apos e _
  by_cases g:name = "index"
  ·rw [if_pos g]; subst g; exact je_alt (cMethS_ok h _ _ _ _ _ _) (cIndexO_ok h _ _ _ _)
  ·rw [if_neg g]; exact cMethS_ok h _ _ _ _ _ _
 ·exact cMethS_ok h _ _ _ _ _ _
 ·exact je_bad
def isSl:Expr → Bool
 | .Slice .. => true
 | _ => false
def partG (f:Expr → GE):Option Expr → GO
 | none => gNoPart
 | some e => gPart (f e)
theorem part_ok {f:Expr → GE} (h:∀ e,JE X e (f e)) (o:Option Expr):JO X o (partG f o):=by
 cases o with
 | none => exact jo_none
 | some e => exact jo_some (h e)
def subG (f:Expr → GE) (a:Expr):Expr → GE
 | .Slice lo hi none _ => gSlice2 (f a) (partG f lo) (partG f hi)
 | .Slice .. => gBad
 | b => gBin oIx (f a) (f b)
theorem sub_ok {f:Expr → GE} (h:∀ e,JE X e (f e)) (a b:Expr) (pos:Pos):JE X (.Subscript a b pos) (subG f a b):=by
 unfold subG
 split
 ·exact je_slice2 (h a) (part_ok h _) (part_ok h _)
 ·exact je_bad
 ·rename_i n1 n2
  refine je_ix (h a) (h b) ?_
  intro o i
  cases b <;> first | rfl | (rename_i lo hi st p; exact (n2 _ _ _ _ rfl).elim)
def cmpG (f:Expr → GE) (a:Expr):List CmpOp → List Expr → GE
 | [o],[b] => if behindInMarks o b = false then gBin (cmpO o) (f a) (f b) else gBad
 | [o,o'],[b,b'] => if lastMarks [o,o'] [b,b'] = false then gChain (cmpO o) (cmpO o') (f a) (f b) (f b') else gBad
 | _,_ => gBad
theorem cmp_ok (hu:X.A.units + 64 < cLine) {f:Expr → GE} (h:∀ e,JE X e (f e)) (a:Expr) (os:List CmpOp) (bs:List Expr) (pos:Pos):JE X (.Compare a os bs pos) (cmpG f a os bs):=by
 unfold cmpG
 split
 ·rename_i o b
  by_cases g:behindInMarks o b = false
  ·rw [if_pos g]; exact je_cmp (cmpO_ok hu o) (h a) (h b) g
  ·rw [if_neg g]; exact je_bad
 ·rename_i o o' b b'
  by_cases g:lastMarks [o,o'] [b,b'] = false
  ·rw [if_pos g]; exact je_chain (cmpO_ok hu o) (cmpO_ok hu o') (h a) (h b) (h b') g
  ·rw [if_neg g]; exact je_bad
 ·exact je_bad
def cmpT (f:Expr → GE) (a:Expr):List CmpOp → List Expr → GT
 | [o],[b] => if behindInMarks o b = false then gTst (gBin (cmpO o) (f a) (f b)) else gBadT
 | [o,o'],[b,b'] => if lastMarks [o,o'] [b,b'] = false then gTst (gChain (cmpO o) (cmpO o') (f a) (f b) (f b')) else gBadT
 | _,_ => gBadT
theorem cmpT_ok (hu:X.A.units + 64 < cLine) {f:Expr → GE} (h:∀ e,JE X e (f e)) (a:Expr) (os:List CmpOp) (bs:List Expr) (pos:Pos):JT X (.Compare a os bs pos) (cmpT f a os bs):=by
 unfold cmpT
 split
 ·rename_i o b
  by_cases g:behindInMarks o b = false
  ·rw [if_pos g]; exact jt_cmp (cmpO_ok hu o) (h a) (h b) g
  ·rw [if_neg g]; exact jt_bad
 ·rename_i o o' b b'
  by_cases g:lastMarks [o,o'] [b,b'] = false
  ·rw [if_pos g]; exact jt_chain (cmpO_ok hu o) (cmpO_ok hu o') (h a) (h b) (h b') g
  ·rw [if_neg g]; exact jt_bad
 ·exact jt_bad
def cmpD (c:Ct) (f:Expr → GE) (a:Expr):List CmpOp → List Expr → GE
 | [.In],[.Name x p] => (match dcOf c x with | some kvs => gDcIn false kvs (f a) | none => if c.dis.contains x = true then (if behindInMarks .In (.Name x p) = false then gBin (oInD false) (f a) (f (.Name x p)) else gBad) else cmpG f a [.In] [.Name x p])
 | [.NotIn],[.Name x p] => (match dcOf c x with | some kvs => gDcIn true kvs (f a) | none => if c.dis.contains x = true then (if behindInMarks .NotIn (.Name x p) = false then gBin (oInD true) (f a) (f (.Name x p)) else gBad) else cmpG f a [.NotIn] [.Name x p])
 | os,bs => cmpG f a os bs
theorem cmpD_ok {c:Ct} {k:Nat} (G:Good c k X) {f:Expr → GE} (h:∀ e,JE X e (f e)) (a:Expr) (os:List CmpOp) (bs:List Expr) (pos:Pos):JE X (.Compare a os bs pos) (cmpD c f a os bs):=by
 unfold cmpD
 split
 ·rename_i x p
  cases e:dcOf c x with
  | none =>
   dsimp only
   by_cases gd:c.dis.contains x = true
   ·rw [if_pos gd]
    by_cases gm:behindInMarks .In (.Name x p) = false
    ·rw [if_pos gm]; exact je_cmp (ow_inD G.un) (h a) (h _) gm
    ·rw [if_neg gm]; exact je_bad
   ·rw [if_neg gd]; exact cmp_ok G.un h a _ _ pos
  | some kvs => obtain ⟨g1,g2,g3⟩:=dcOf_ok G e; exact je_dcIn (h a) g1 g2 g3
 ·rename_i x p
  cases e:dcOf c x with
  | none =>
   dsimp only
   by_cases gd:c.dis.contains x = true
   ·rw [if_pos gd]
    by_cases gm:behindInMarks .NotIn (.Name x p) = false
    ·rw [if_pos gm]; exact je_cmp (ow_notInD G.un) (h a) (h _) gm
    ·rw [if_neg gm]; exact je_bad
   ·rw [if_neg gd]; exact cmp_ok G.un h a _ _ pos
  | some kvs => obtain ⟨g1,g2,g3⟩:=dcOf_ok G e; exact je_dcNotIn (h a) g1 g2 g3
 ·exact cmp_ok G.un h a _ _ pos
def cmpTD (c:Ct) (f:Expr → GE) (a:Expr):List CmpOp → List Expr → GT
 | [.In],[.Name x p] => (match dcOf c x with | some kvs => gTst (gDcIn false kvs (f a)) | none => if c.dis.contains x = true then (if behindInMarks .In (.Name x p) = false then gTst (gBin (oInD false) (f a) (f (.Name x p))) else gBadT) else cmpT f a [.In] [.Name x p])
 | [.NotIn],[.Name x p] => (match dcOf c x with | some kvs => gTst (gDcIn true kvs (f a)) | none => if c.dis.contains x = true then (if behindInMarks .NotIn (.Name x p) = false then gTst (gBin (oInD true) (f a) (f (.Name x p))) else gBadT) else cmpT f a [.NotIn] [.Name x p])
 | os,bs => cmpT f a os bs
theorem cmpTD_ok {c:Ct} {k:Nat} (G:Good c k X) {f:Expr → GE} (h:∀ e,JE X e (f e)) (a:Expr) (os:List CmpOp) (bs:List Expr) (pos:Pos):JT X (.Compare a os bs pos) (cmpTD c f a os bs):=by
 unfold cmpTD
 split
 ·rename_i x p
  cases e:dcOf c x with
  | none =>
   dsimp only
   by_cases gd:c.dis.contains x = true
   ·rw [if_pos gd]
    by_cases gm:behindInMarks .In (.Name x p) = false
    ·rw [if_pos gm]; exact jt_cmp (ow_inD G.un) (h a) (h _) gm
    ·rw [if_neg gm]; exact jt_bad
   ·rw [if_neg gd]; exact cmpT_ok G.un h a _ _ pos
  | some kvs => obtain ⟨g1,g2,g3⟩:=dcOf_ok G e; exact jt_dcIn (h a) g1 g2 g3
 ·rename_i x p
  cases e:dcOf c x with
  | none =>
   dsimp only
   by_cases gd:c.dis.contains x = true
   ·rw [if_pos gd]
    by_cases gm:behindInMarks .NotIn (.Name x p) = false
    ·rw [if_pos gm]; exact jt_cmp (ow_notInD G.un) (h a) (h _) gm
    ·rw [if_neg gm]; exact jt_bad
   ·rw [if_neg gd]; exact cmpT_ok G.un h a _ _ pos
  | some kvs => obtain ⟨g1,g2,g3⟩:=dcOf_ok G e; exact jt_dcNotIn (h a) g1 g2 g3
 ·exact cmpT_ok G.un h a _ _ pos
def subD (c:Ct) (f:Expr → GE):Expr → Expr → GE
 | .Name x p,b => (match dcOf c x with | some kvs => if isSl b = false then gDcIx kvs (f b) else gBad | none => subG f (.Name x p) b)
 | a,b => subG f a b
theorem subD_ok {c:Ct} {k:Nat} (G:Good c k X) {f:Expr → GE} (h:∀ e,JE X e (f e)) (a b:Expr) (pos:Pos):JE X (.Subscript a b pos) (subD c f a b):=by
 unfold subD
 split
 ·rename_i x p
  cases e:dcOf c x with
  | none => exact sub_ok h _ b pos
  | some kvs =>
   dsimp only
   by_cases g:isSl b = false
   ·rw [if_pos g]
    obtain ⟨g1,g2,g3⟩:=dcOf_ok G e
    refine je_dcIx (h b) ?_ g1 g2 g3
    intro o i
    cases b <;> first | rfl | cases g
   ·rw [if_neg g]; exact je_bad
 ·exact sub_ok h _ b pos
def andV (f:Expr → GE):List Expr → GE
 | [] => gBad
 | [a] => f a
 | a :: b :: r => gAndV (f a) (andV f (b :: r))
def orV (f:Expr → GE):List Expr → GE
 | [] => gBad
 | [a] => f a
 | a :: b :: r => gOrV (f a) (orV f (b :: r))
theorem andV_ok {f:Expr → GE} (h:∀ e,JE X e (f e)) (pos:Pos):∀ es,JE X (.BoolOp .And es pos) (andV f es)
 | [] => je_bad
 | [a] => je_one (h a)
 | a :: b :: r => je_and (h a) (andV_ok h pos (b :: r))
theorem orV_ok {f:Expr → GE} (h:∀ e,JE X e (f e)) (pos:Pos):∀ es,JE X (.BoolOp .Or es pos) (orV f es)
 | [] => je_bad
 | [a] => je_one (h a)
 | a :: b :: r => je_or (h a) (orV_ok h pos (b :: r))
def andT (f:Expr → GT):List Expr → GT
 | [] => gBadT
 | [a] => f a
 | a :: b :: r => gAnd (f a) (andT f (b :: r))
def orT (f:Expr → GT):List Expr → GT
 | [] => gBadT
 | [a] => f a
 | a :: b :: r => gOr (f a) (orT f (b :: r))
theorem jw_bad {e:Expr}:JW X e gBadT:=fun ρ st σ H m Q S R p => False.elim p
theorem andT_ok {f:Expr → GT} (h:∀ e,JT X e (f e)) (pos:Pos):∀ es,JW X (.BoolOp .And es pos) (andT f es)
 | [] => jw_bad
 | [a] => jw_and1 (h a)
 | a :: b :: r => jw_and (h a) (andT_ok h pos (b :: r))
theorem orT_ok {f:Expr → GT} (h:∀ e,JT X e (f e)) (pos:Pos):∀ es,JW X (.BoolOp .Or es pos) (orT f es)
 | [] => jw_bad
 | [a] => jw_or1 (h a)
 | a :: b :: r => jw_or (h a) (orT_ok h pos (b :: r))
def unG (f:Expr → GE):UnaryOp → Expr → GE
 | .USub,a => gUn opNeg (f a)
 | .Not,a => gNotV (f a)
 | _,_ => gBad
def seqG (f:Expr → GE) (g:GA → GE) (es:List Expr):GE:=if es.all plain = true then g (argsG f es) else gBad
def isSet:Expr → Bool
 | .Set .. => true
 | _ => false
theorem fold_no {e:Expr} {env:Env} (h:isSet e = false) (x:Value):foldedSetIterable e env x = pure x:=by
 cases e <;> first | rfl | cases h
def isRange (c:Ct) (x:Str):Bool:=decide (x = "range") && decide (c.names.lookup x = some .globalImplicit) && c.bl.contains x && (match c.fns.lookup x with | some _ => false | none => true)
theorem range_ok {c:Ct} {k:Nat} (G:Good c k X) (y:Str) (hy:isRange c y = true):y = "range" ∧ Gl X y ∧ X.mg y = none:=by
 unfold isRange at hy
 simp only [Bool.and_eq_true,decide_eq_true_eq] at hy
 refine ⟨hy.1.1.1,?_,G.bl y hy.1.2⟩
 show X.env.scope.names.lookup y = _
 rw [G.sc]; exact hy.1.1.2
noncomputable def iterG (c:Ct) (f:Expr → GE):Expr → GI
 | .Call (.Name x p) [a] [] q => if isRange c x = true then (if plain a = true then giR1 (argsG f [a]) else gBadI) else giSeq2 (f (.Call (.Name x p) [a] [] q))
 | .Call (.Name x p) [a,b] [] q => if isRange c x = true then (if plain a = true ∧ plain b = true then giR2 (argsG f [a,b]) else gBadI) else giSeq2 (f (.Call (.Name x p) [a,b] [] q))
 | e => if isSet e = false then giSeq2 (f e) else gBadI
theorem iter_ok {c:Ct} {k:Nat} (G:Good c k X) {f:Expr → GE} (h:∀ e,JE X e (f e)) (tg e:Expr):JI X tg e (iterG c f e):=by
 unfold iterG
 split
 ·rename_i y p a q
  by_cases g:isRange c y = true
  ·rw [if_pos g]
   obtain ⟨rfl,g2,g3⟩:=range_ok G y g
   by_cases ga:plain a = true
   ·rw [if_pos ga]
    exact ji_r1 g2 g3 (args_ok h [a] (by simp [ga])) (star_plain ga)
   ·rw [if_neg ga]; exact ji_bad
  ·rw [if_neg g]; exact ji_seq2 (h _)
 ·rename_i y p a b q
  by_cases g:isRange c y = true
  ·rw [if_pos g]
   obtain ⟨rfl,g2,g3⟩:=range_ok G y g
   by_cases ga:plain a = true ∧ plain b = true
   ·rw [if_pos ga]
    exact ji_r2 g2 g3 (args_ok h [a,b] (by simp [ga])) (by rw [star_plain ga.1,star_plain ga.2]; rfl) (by rw [star_plain ga.2]; rfl)
   ·rw [if_neg ga]; exact ji_bad
  ·rw [if_neg g]; exact ji_seq2 (h _)
 ·by_cases g:isSet e = false
  ·rw [if_pos g]; exact ji_seq2 (h _)
  ·rw [if_neg g]; exact ji_bad
def capsL (c:Ct):List (Str × NameKind) → Option Caps
 | [] => some []
 | (n,.free) :: r => if c.names.lookup n = some .cell ∨ c.names.lookup n = some .free then (match ixOf n c.N,capsL c r with | some i,some l => some ((n,i) :: l) | _,_ => none) else none
 | _ :: r => capsL c r
theorem capsL_ok {c:Ct}:∀ {ns:List (Str × NameKind)} {cs:Caps},capsL c ns = some cs → (∀ y ∈ ns,y.2 = .free → c.names.lookup y.1 = some .cell ∨ c.names.lookup y.1 = some .free) ∧ ∀ p ∈ cs,(p.1,NameKind.free) ∈ ns ∧ c.N[p.2]? = some p.1
 | [],cs,h => by cases h; exact ⟨(fun _ z => by cases z),(fun _ z => by cases z)⟩
 | (n,k) :: r,cs,h => by
  unfold capsL at h
  split at h
  ·cases ‹_ :: _ = []›
  ·rename_i n' r' he
   cases he
   by_cases g:c.names.lookup n = some .cell ∨ c.names.lookup n = some .free
   ·rw [if_pos g] at h
    cases e1:ixOf n c.N with
    | none => rw [e1] at h; cases h
    | some i =>
     cases e2:capsL c r with
     | none => rw [e1,e2] at h; cases h
     | some l =>
      rw [e1,e2] at h
      cases h
      obtain ⟨q1,q2⟩:=capsL_ok e2
      refine ⟨fun y hy e => ?_,fun p hp => ?_⟩
      ·rcases List.mem_cons.mp hy with z | z
       ·subst z; exact g
       ·exact q1 y z e
      ·rcases List.mem_cons.mp hp with z | z
       ·subst z; exact ⟨List.mem_cons_self,ixOf_get e1⟩
       ·exact ⟨List.mem_cons_of_mem _ (q2 p z).1,(q2 p z).2⟩
   ·rw [if_neg g] at h; cases h
  ·rename_i kk r' hk he
   cases he
   obtain ⟨q1,q2⟩:=capsL_ok h
   refine ⟨fun y hy e => ?_,fun p hp => ⟨List.mem_cons_of_mem _ (q2 p hp).1,(q2 p hp).2⟩⟩
   rcases List.mem_cons.mp hy with z | z
   ·subst z
    have e':k = .free:=e
    subst e'
    exact (hk n rfl).elim
   ·exact q1 y z e
def relabN (c:Ct) (ns:List (Str × NameKind)):List (Str × NameKind):=ns.map fun (n,k) => if (k == .free && c.names.lookup n == some .cell) then (n,.cell) else (n,k)
def isFnK:ScopeKind → Bool
 | .function => true
 | _ => false
def scopeOk (scope:Scope) (x:Str):Bool:=isFnK scope.kind && scope.names.all (fun y => decide (scope.names.lookup y.1 = some y.2)) && scope.names.all (fun y => decide (y.2 ≠ .cell)) && decide (scope.names.lookup x = some .local)
def Ct.block (c:Ct) (scope:Scope) (x:Str) (cs:Caps):Ct:={ c with N:=x :: cs.map (·.1),names:=relabN c scope.names,loop:=false,top:=false }
noncomputable def compC (c:Ct) (sub:Ct → (Expr → GE) × (Expr → GT)) (f:Expr → GE) (elt:Expr) (x:Str) (iter:Expr) (gts:Ct → GT) (scope:Scope):GE :=
 if scopeOk scope x = true ∧ c.free = true ∧ isSet iter = false then (match capsL c scope.names with
  | some cs => if (x :: cs.map (·.1)).Nodup then gComp cs (iterG c f iter) (gts (c.block scope x cs)) ((sub (c.block scope x cs)).1 elt) else gBad
  | none => gBad) else gBad
noncomputable def coG (c:Ct) (sub:Ct → (Expr → GE) × (Expr → GT)) (f:Expr → GE) (elt:Expr) (scope:Scope):List Comprehension → GE
 | [⟨.Name x _,iter,[],0⟩] => compC c sub f elt x iter (fun _ => fun _ st => .ok true st) scope
 | [⟨.Name x _,iter,[q],0⟩] => compC c sub f elt x iter (fun c' => (sub c').2 q) scope
 | _ => gBad
theorem block_good {c:Ct} {k:Nat} (G:Good c k X) {scope:Scope} {x:Str} {cs:Caps} (hs:scopeOk scope x = true) (hf:c.free = true) (nd:(x :: cs.map (·.1)).Nodup) (C:Addr) (s0:Shared) (H0:Hp) (fp:List Addr) (pn:List (Addr × Obj)) :
  Good (c.block scope x cs) k (compX X scope x cs C s0 H0 fp pn):=by
 unfold scopeOk at hs
 simp only [Bool.and_eq_true,decide_eq_true_eq] at hs
 have hk:scope.kind = .function:=by
  have:=hs.1.1.1
  revert this
  cases scope.kind <;> intro z <;> first | rfl | cases z
 refine ⟨rfl,?_,nd,G.un,fun _ => ⟨(G.free hf).1,rfl⟩,(fun z => by cases z),G.cst,G.bl,G.fns,(fun z => by cases z),(fun z => by cases z),hk,G.tab,G.cls,G.cln,G.dcs,⟨G.rm.d,G.rm.u⟩,G.fnu,⟨G.x.lam,G.x.fnL,G.x.fnJ,(fun z => by cases z)⟩⟩
 show (relabel scope X.env).names = relabN c scope.names
 unfold relabel relabN Env.kindOf
 rw [G.kind,G.sc]
 simp
theorem scope_cs {c:Ct} {k:Nat} (G:Good c k X) {scope:Scope} {x:Str} {cs:Caps} (hs:scopeOk scope x = true) (hcs:capsL c scope.names = some cs) (nd:(x :: cs.map (·.1)).Nodup):CScope X scope x cs:=by
 unfold scopeOk at hs
 simp only [Bool.and_eq_true,decide_eq_true_eq,List.all_eq_true] at hs
 obtain ⟨⟨⟨h1,h2⟩,h3⟩,h4⟩:=hs
 have hk:scope.kind = .function:=by
  revert h1
  cases scope.kind <;> intro z <;> first | rfl | cases z
 obtain ⟨q1,q2⟩:=capsL_ok hcs
 refine ⟨hk,h2,h3,h4,fun y hy e => ?_,fun p hp => ⟨by rw [G.N]; exact (q2 p hp).2,h2 _ (q2 p hp).1⟩,nd⟩
 show X.env.scope.names.lookup y.1 = _ ∨ X.env.scope.names.lookup y.1 = _
 rw [G.sc]; exact q1 y hy e
def JAs (X:Cx) (e:Expr) (g:GE):Prop:=∀ (i:Nat) (y:Str) (py spos:Pos),X.N.Nodup → X.N[i]? = some y → Loc X.env.scope y → (X.fn y = true ∨ X.env.scope.names.lookup y = some .local) → JS X (.Assign [.Name y py] e spos) (gSet i g)
theorem js_setBad {i:Nat} {s:Stmt}:JS X s (gSet i gBad):=fun ρ st σ H m D S R p => False.elim p
theorem jas_bad {e:Expr}:JAs X e gBad:=fun i y py spos _ _ _ _ => js_setBad
theorem co_both {c:Ct} {k:Nat} (G:Good c k X) {sub:Ct → (Expr → GE) × (Expr → GT)} (hb:∀ c X,Good c k X → (∀ e,JE X e ((sub c).1 e)) ∧ ∀ e,JT X e ((sub c).2 e)) {f:Expr → GE} (h:∀ e,JE X e (f e)) (elt:Expr) (scope:Scope) (gens:List Comprehension) (pos:Pos) :
  JE X (.ListComp elt gens scope pos) (coG c sub f elt scope gens) ∧ JAs X (.ListComp elt gens scope pos) (coG c sub f elt scope gens):=by
 have core:∀ (x:Str) (px:Pos) (iter:Expr) (ifs:List Expr) (gts:Ct → GT),(∀ c X,Good c k X → JTs X ifs (gts c)) →
   JE X (.ListComp elt [⟨.Name x px,iter,ifs,0⟩] scope pos) (compC c sub f elt x iter gts scope) ∧ JAs X (.ListComp elt [⟨.Name x px,iter,ifs,0⟩] scope pos) (compC c sub f elt x iter gts scope):=by
  intro x px iter ifs gts hg
  unfold compC
  by_cases g:scopeOk scope x = true ∧ c.free = true ∧ isSet iter = false
  ·rw [if_pos g]
   obtain ⟨g1,g2,g3⟩:=g
   cases ec:capsL c scope.names with
   | none => exact ⟨je_bad,jas_bad⟩
   | some cs =>
    dsimp only
    by_cases nd:(x :: cs.map (·.1)).Nodup
    ·rw [if_pos nd]
     have CS:=scope_cs G g1 ec nd
     have hE:∀ C s0 H0 fp pn,JE (compX X scope x cs C s0 H0 fp pn) elt ((sub (c.block scope x cs)).1 elt):=fun C s0 H0 fp pn => (hb _ _ (block_good G g1 g2 nd C s0 H0 fp pn)).1 elt
     have hT:∀ C s0 H0 fp pn,JTs (compX X scope x cs C s0 H0 fp pn) ifs (gts (c.block scope x cs)):=fun C s0 H0 fp pn => hg _ _ (block_good G g1 g2 nd C s0 H0 fp pn)
     exact ⟨je_comp CS (G.free g2).2 (iter_ok G h _ iter) hE hT (fold_no g3),fun i y py spos hN hi hl hf => js_setC i hN CS (G.free g2).2 (iter_ok G h _ iter) hE hT (fold_no g3) hi hl hf⟩
    ·rw [if_neg nd]; exact ⟨je_bad,jas_bad⟩
  ·rw [if_neg g]; exact ⟨je_bad,jas_bad⟩
 unfold coG
 split
 ·exact core _ _ _ _ _ fun _ _ _ => jts_nil
 ·exact core _ _ _ _ _ fun c X G' => jts_one ((hb c X G').2 _)
 ·exact ⟨je_bad,jas_bad⟩
noncomputable def stepE (c:Ct) (sub:Ct → (Expr → GE) × (Expr → GT)) (f:Expr → GE) (t:Expr → GT):Expr → GE
 | .Name x _ => cName c x
 | .Constant k _ _ => cConst k
 | .BinOp a o b _ => gBin (binO o) (f a) (f b)
 | .UnaryOp o a _ => unG f o a
 | .BoolOp .And es _ => andV f es
 | .BoolOp .Or es _ => orV f es
 | .Compare a os bs _ => cmpD c f a os bs
 | .IfExp q a b _ => gIfE (t q) (f a) (f b)
 | .Tuple es _ _ => seqG f gTup es
 | .List es _ => seqG f gLst es
 | .Subscript a b _ => subD c f a b
 | .Call g as ks p => cCall c f p g as ks
 | .ListComp elt gens scope _ => coG c sub f elt scope gens
 | _ => gBad
def stepT (c:Ct) (f:Expr → GE) (t:Expr → GT):Expr → GT
 | .UnaryOp .Not a _ => gNot (t a)
 | .BoolOp .And es _ => andT t es
 | .BoolOp .Or es _ => orT t es
 | .Compare a os bs _ => cmpTD c f a os bs
 | .Name x p => gTru (f (.Name x p))
 | .Call g as ks p => gTru (f (.Call g as ks p))
 | .Subscript a b p => gTru (f (.Subscript a b p))
 | .Constant k j p => gTru (f (.Constant k j p))
 | .BinOp a o b p => gTru (f (.BinOp a o b p))
 | _ => gBadT
theorem stepE_ok {c:Ct} {k:Nat} (G:Good c k X) {sub:Ct → (Expr → GE) × (Expr → GT)} (hb:∀ k c X,Good c k X → (∀ e,JE X e ((sub c).1 e)) ∧ ∀ e,JT X e ((sub c).2 e)) {f:Expr → GE} {t:Expr → GT} (h:∀ e,JE X e (f e)) (ht:∀ e,JT X e (t e)) (e:Expr):JE X e (stepE c sub f t e):=by
 have hu:X.A.units + 64 < cLine:=G.un
 cases e with
 | Name x p => exact cName_ok G x p
 | Constant v j p => exact cConst_ok v j p
 | BinOp a o b p => exact je_bin (binO_ok o) (h a) (h b)
 | UnaryOp o a p =>
  cases o with
  | USub => exact je_neg (h a)
  | Not => exact je_not (h a)
  | _ => exact je_bad
 | BoolOp o es p =>
  cases o with
  | And => exact andV_ok h p es
  | Or => exact orV_ok h p es
 | Compare a os bs p => exact cmpD_ok G h a os bs p
 | IfExp q a b p => exact je_if (ht q) (h a) (h b)
 | Tuple es j p =>
  show JE X _ (seqG f gTup es)
  unfold seqG
  by_cases g:es.all plain = true
  ·rw [if_pos g]; exact je_tup (args_ok h es g)
  ·rw [if_neg g]; exact je_bad
 | List es p =>
  show JE X _ (seqG f gLst es)
  unfold seqG
  by_cases g:es.all plain = true
  ·rw [if_pos g]; exact je_lst (args_ok h es g)
  ·rw [if_neg g]; exact je_bad
 | Subscript a b p => exact subD_ok G h a b p
 | Call g as ks p => exact cCall_ok G h g as ks p
 | ListComp elt gens scope p => exact (co_both G (hb k) h elt scope gens p).1
 | _ => exact je_bad
def isCo:Expr → Bool
 | .ListComp .. => true
 | .SetComp .. => true
 | .DictComp .. => true
 | .Set .. => true
 | _ => false
theorem swap_no {e:Expr} {t:Option Expr} {n:Nat} {env:Env} (h:isCo e = false):swapsWith e t n env = pure false:=by
 cases e <;> first | rfl | cases h
theorem stepE_as {c:Ct} {k:Nat} (G:Good c k X) {sub:Ct → (Expr → GE) × (Expr → GT)} (hb:∀ k c X,Good c k X → (∀ e,JE X e ((sub c).1 e)) ∧ ∀ e,JT X e ((sub c).2 e)) {f:Expr → GE} {t:Expr → GT} (h:∀ e,JE X e (f e)) (ht:∀ e,JT X e (t e)) (e:Expr):JAs X e (stepE c sub f t e):=by
 by_cases g:isCo e = false
 ·exact fun i y py spos hN hi hl hf => js_set i hN (stepE_ok G hb h ht e) hi hl (swap_no g) hf
 ·cases e with
  | ListComp elt gens scope p => exact (co_both G (hb k) h elt scope gens p).2
  | SetComp => exact jas_bad
  | DictComp => exact jas_bad
  | Set => exact jas_bad
  | _ => exact absurd rfl g
theorem stepT_ok {c:Ct} {k:Nat} (G:Good c k X) {f:Expr → GE} {t:Expr → GT} (h:∀ e,JE X e (f e)) (ht:∀ e,JT X e (t e)) (e:Expr):JT X e (stepT c f t e):=by
 have hu:X.A.units + 64 < cLine:=G.un
 cases e with
 | UnaryOp o a p =>
  cases o with
  | Not => exact jt_not (ht a)
  | _ => exact jt_bad
 | BoolOp o es p =>
  cases o with
  | And => exact (andT_ok ht p es).jt
  | Or => exact (orT_ok ht p es).jt
 | Compare a os bs p => exact cmpTD_ok G h a os bs p
 | Name x p => exact jt_tru (h _) (fun _ => rfl)
 | Call g as ks p => exact jt_tru (h _) (fun _ => rfl)
 | Subscript a b p => exact jt_tru (h _) (fun _ => rfl)
 | Constant v j p => exact jt_tru (h _) (fun _ => rfl)
 | BinOp a o b p => exact jt_tru (h _) (fun _ => rfl)
 | _ => exact jt_bad
end
noncomputable def compE:Nat → Ct → (Expr → GE) × (Expr → GT)
 | 0,_ => (fun _ => gBad,fun _ => gBadT)
 | n + 1,c => (stepE c (compE n) (compE n c).1 (compE n c).2,stepT c (compE n c).1 (compE n c).2)
section
variable {X:Cx}
theorem compE_ok:∀ (n:Nat) (k:Nat) (c:Ct) (X:Cx),Good c k X → (∀ e,JE X e ((compE n c).1 e)) ∧ ∀ e,JT X e ((compE n c).2 e)
 | 0,_,_,_,_ => ⟨fun _ => je_bad,fun _ => jt_bad⟩
 | n + 1,k,c,X,G => ⟨fun e => stepE_ok G (fun k c X G => compE_ok n k c X G) (compE_ok n k c X G).1 (compE_ok n k c X G).2 e,fun e => stepT_ok G (compE_ok n k c X G).1 (compE_ok n k c X G).2 e⟩
theorem compE_as {k:Nat}:∀ (n:Nat) (c:Ct) (X:Cx),Good c k X → ∀ e,JAs X e ((compE n c).1 e)
 | 0,_,_,_,_ => jas_bad
 | n + 1,c,X,G,e => stepE_as G (fun k c X G => compE_ok n k c X G) (compE_ok n k c X G).1 (compE_ok n k c X G).2 e
def slot (c:Ct) (x:Str):Option Nat:=if c.names.lookup x = some .local ∨ (c.names.lookup x = some .cell ∧ c.top = true) then ixOf x c.N else none
def slotL (c:Ct) (x:Str):Option Nat:=if c.names.lookup x = some .local then ixOf x c.N else none
theorem slotL_ok {c:Ct} {k:Nat} (G:Good c k X) {x:Str} {i:Nat} (h:slotL c x = some i):X.N[i]? = some x ∧ X.env.scope.names.lookup x = some .local:=by
 unfold slotL at h
 by_cases e:c.names.lookup x = some .local
 ·rw [if_pos e] at h
  exact ⟨by rw [G.N]; exact ixOf_get h,by rw [G.sc]; exact e⟩
 ·rw [if_neg e] at h; cases h
theorem slot_ok {c:Ct} {k:Nat} (G:Good c k X) {x:Str} {i:Nat} (h:slot c x = some i):X.N[i]? = some x ∧ (Loc X.env.scope x ∧ (X.fn x = true ∨ X.env.scope.names.lookup x = some .local)):=by
 unfold slot at h
 by_cases e:c.names.lookup x = some .local ∨ (c.names.lookup x = some .cell ∧ c.top = true)
 ·rw [if_pos e] at h
  refine ⟨by rw [G.N]; exact ixOf_get h,?_⟩
  rcases e with e | ⟨e,e2⟩
  ·have q:X.env.scope.names.lookup x = some .local:=by rw [G.sc]; exact e
   exact ⟨.inl q,.inr q⟩
  ·have q:X.env.scope.names.lookup x = some .cell:=by rw [G.sc]; exact e
   exact ⟨.inr q,.inl (G.fn e2 x)⟩
 ·rw [if_neg e] at h; cases h
def slots (c:Ct):List Expr → Option (List Nat)
 | [] => some []
 | .Name x _ :: es => (match slot c x,slots c es with | some i,some is => some (i :: is) | _,_ => none)
 | _ => none
def asgG (c:Ct) (f:Expr → GE) (v:Expr):List Expr → GS
 | [.Name x _] => (match slot c x with | some i => gSet i (f v) | none => gNever)
 | [.Subscript o i _] => if isCo v = false ∧ isSl i = false then gSetI (f v) (f o) (f i) else gNever
 | _ => gNever
theorem asg_ok {c:Ct} {k:Nat} (G:Good c k X) {f:Expr → GE} (h:∀ e,JE X e (f e)) (ha:∀ e,JAs X e (f e)) (v:Expr) (ts:List Expr) (pos:Pos):JS X (.Assign ts v pos) (asgG c f v ts):=by
 unfold asgG
 split
 ·rename_i x p
  cases e:slot c x with
  | none => exact js_never
  | some i =>
   obtain ⟨e1,e2⟩:=slot_ok G e
   dsimp only
   exact ha v i x _ _ (by rw [G.N]; exact G.nd) e1 e2.1 e2.2
 ·rename_i o i p
  by_cases g:isCo v = false ∧ isSl i = false
  ·rw [if_pos g]
   have g2:=g.2
   refine js_setI (h v) (h o) (h i) (by unfold swapsWithSole; exact swap_no g.1) ?_ rfl ?_
   ·cases v <;> rfl
   ·intro _
    cases i <;> first | rfl | cases g2
  ·rw [if_neg g]; exact js_never
 ·exact js_never
noncomputable def forG (c:Ct) (f:Expr → GE) (i:Nat) (gb:GS):Expr → GS
 | .Call (.Name x p) [a] [] q => if isRange c x = true then (if plain a = true then gForR1 i (argsG f [a]) gb else gNever) else gFor i (f (.Call (.Name x p) [a] [] q)) gb
 | .Call (.Name x p) [a,b] [] q => if isRange c x = true then (if plain a = true ∧ plain b = true then gForR2 i (argsG f [a,b]) gb else gNever) else gFor i (f (.Call (.Name x p) [a,b] [] q)) gb
 | e => if isSet e = false then gFor i (f e) gb else gNever
theorem for_ok {c:Ct} {k:Nat} (G:Good c k X) (hl:c.loop = true) {f:Expr → GE} (h:∀ e,JE X e (f e)) {x:Str} {i:Nat} (hx:slot c x = some i) {body:List Stmt} {gb:GS} (hb:JSs X body gb) (e:Expr) (pos pos':Pos):JS X (.For (.Name x pos') e body [] pos) (forG c f i gb e):=by
 have nd:X.N.Nodup:=by rw [G.N]; exact G.nd
 obtain ⟨e1,e2⟩:=slot_ok G hx
 have rg:=range_ok G
 unfold forG
 split
 ·rename_i y p a q
  by_cases g:isRange c y = true
  ·rw [if_pos g]
   obtain ⟨rfl,g2,g3⟩:=rg y g
   by_cases ga:plain a = true
   ·rw [if_pos ga]
    exact js_forR1 i nd (G.loop hl).2 (G.loop hl).1 g2 g3 (args_ok h [a] (by simp [ga])) hb e1 e2.1 e2.2 (star_plain ga)
   ·rw [if_neg ga]; exact js_never
  ·rw [if_neg g]; exact js_for i nd (G.loop hl).2 (G.loop hl).1 (h _) hb e1 e2.1 e2.2 (fold_no rfl)
 ·rename_i y p a b q
  by_cases g:isRange c y = true
  ·rw [if_pos g]
   obtain ⟨rfl,g2,g3⟩:=rg y g
   by_cases ga:plain a = true ∧ plain b = true
   ·rw [if_pos ga]
    exact js_forR2 i nd (G.loop hl).2 (G.loop hl).1 g2 g3 (args_ok h [a,b] (by simp [ga])) hb e1 e2.1 e2.2 (by rw [star_plain ga.1,star_plain ga.2]; rfl) (by rw [star_plain ga.2]; rfl)
   ·rw [if_neg ga]; exact js_never
  ·rw [if_neg g]; exact js_for i nd (G.loop hl).2 (G.loop hl).1 (h _) hb e1 e2.1 e2.2 (fold_no rfl)
 ·by_cases g:isSet e = false
  ·rw [if_pos g]; exact js_for i nd (G.loop hl).2 (G.loop hl).1 (h _) hb e1 e2.1 e2.2 (fold_no g)
  ·rw [if_neg g]; exact js_never
def raiseG (c:Ct) (f:Expr → GE):Expr → GS
 | .Call (.Name x _) (e :: es) [] _ => if okN x = true ∧ (e :: es).all plain = true ∧ c.names.lookup x = some .globalImplicit ∧ c.clss.contains x = true ∧ c.free = true then gRaise x (argsG f (e :: es)) else gNever
 | _ => gNever
theorem raise_ok {c:Ct} {k:Nat} (G:Good c k X) {f:Expr → GE} (h:∀ e,JE X e (f e)) (e:Expr) (pos:Pos):JS X (.Raise (some e) none pos) (raiseG c f e):=by
 unfold raiseG
 split
 ·rename_i x p e es q
  by_cases g:okN x = true ∧ (e :: es).all plain = true ∧ c.names.lookup x = some .globalImplicit ∧ c.clss.contains x = true ∧ c.free = true
  ·rw [if_pos g]
   obtain ⟨g1,g2,g3,g4,g5⟩:=g
   have hg:Gl X x:=by
    show X.env.scope.names.lookup x = _
    rw [G.sc]; exact g3
   have gp:plain e = true ∧ es.all plain = true:=by rw [List.all_cons,Bool.and_eq_true] at g2; exact g2
   obtain ⟨C,q1,q2⟩:=G.cls x g4
   exact js_raise (G.free g5).2 q2 hg q1 (args_ok h (e :: es) g2) (okN_d g1) (star_plain gp.1) (any_plain gp.2)
  ·rw [if_neg g]; exact js_never
 ·exact js_never
def tryG (c:Ct) (b:Ct → List Stmt → GS) (body:List Stmt):List ExceptHandler → GS
 | [.ExceptHandler (some (.Name x _)) (some n) (b0 :: suite) _] => if okN x = true ∧ c.names.lookup x = some .globalImplicit ∧ c.clss.contains x = true ∧ c.free = true ∧ c.top = true then
   (match slotL c n with
   | some i => gTry (fun y => c.tc.lookup (y,x)) i (b c.inTry body) (b c.inSuite (b0 :: suite))
   | none => gNever) else gNever
 | [.ExceptHandler (some (.Name x _)) none (b0 :: suite) _] => if okN x = true ∧ c.names.lookup x = some .globalImplicit ∧ c.clss.contains x = true ∧ c.free = true ∧ c.top = true then
   gTryN (fun y => c.tc.lookup (y,x)) (b c.inTry body) (b c.inSuite (b0 :: suite)) else gNever
 | _ => gNever
theorem try_ok {c:Ct} {k:Nat} (G:Good c k X) {b:Ct → List Stmt → GS} (hb:∀ c X,Good c k X → ∀ s,JSs X s (b c s)) (body:List Stmt) (hs:List ExceptHandler) (pos:Pos):JS X (.Try body hs [] [] pos) (tryG c b body hs):=by
 unfold tryG
 split
 ·rename_i x p n b0 suite q
  by_cases g:okN x = true ∧ c.names.lookup x = some .globalImplicit ∧ c.clss.contains x = true ∧ c.free = true ∧ c.top = true
  ·rw [if_pos g]
   obtain ⟨g1,g3,g4,g5,g6⟩:=g
   have hg:Gl X x:=by
    show X.env.scope.names.lookup x = _
    rw [G.sc]; exact g3
   obtain ⟨D,q1,q2⟩:=G.cls x g4
   cases e1:slotL c n with
   | none => exact js_never
   | some i =>
    obtain ⟨e2,e3⟩:=slotL_ok G e1
    exact js_try (G.stk g6) (by rw [G.N]; exact G.nd) e2 e3 (G.free g5).2 G.tab hg q1 q2.cls (okN_d g1) (fun pn E => hb _ _ (G.body g5 pn E) _) fun e pn E => hb _ _ (G.suite e pn E) _
  ·rw [if_neg g]; exact js_never
 ·rename_i x p b0 suite q
  by_cases g:okN x = true ∧ c.names.lookup x = some .globalImplicit ∧ c.clss.contains x = true ∧ c.free = true ∧ c.top = true
  ·rw [if_pos g]
   obtain ⟨g1,g3,g4,g5,g6⟩:=g
   have hg:Gl X x:=by
    show X.env.scope.names.lookup x = _
    rw [G.sc]; exact g3
   obtain ⟨D,q1,q2⟩:=G.cls x g4
   exact js_tryN (G.stk g6) (G.free g5).2 G.tab hg q1 q2.cls (okN_d g1) (fun pn E => hb _ _ (G.body g5 pn E) _) fun e pn E => hb _ _ (G.suite e pn E) _
  ·rw [if_neg g]; exact js_never
 ·exact js_never
def augG (c:Ct) (f:Expr → GE) (x:Str) (op:Operator) (e:Expr):GS:=match slot c x,augO op with
 | some i,some o => gAug o i (f e)
 | _,_ => gNever
theorem aug_ok {c:Ct} {k:Nat} (G:Good c k X) {f:Expr → GE} (h:∀ e,JE X e (f e)) (x:Str) (op:Operator) (e:Expr) (p pos:Pos):JS X (.AugAssign (.Name x p) op e pos) (augG c f x op e):=by
 unfold augG
 cases e1:slot c x with
 | none => exact js_never
 | some i =>
  cases e2:augO op with
  | none => exact js_never
  | some o =>
   obtain ⟨q1,q2⟩:=slot_ok G e1
   exact js_aug i e2 (by rw [G.N]; exact G.nd) (h e) q1 q2.1 q2.2
def wTurns:Nat:=100000
noncomputable def stepS (c:Ct) (f:Expr → GE) (t:Expr → GT) (b:Ct → List Stmt → GS):Stmt → GS
 | .Return (some e) _ => gRet (f e)
 | .Return none _ => gRet (gC .non)
 | .Expr e _ => if isCo e = false then gExpr (f e) else gNever
 | .If q x y _ => gIf (t q) (b c x) (b c y)
 | .Assign ts v _ => asgG c f v ts
 | .For (.Name x _) e body [] _ => if c.loop = true then (match slot c x with | some i => forG c f i (b c body) e | none => gNever) else gNever
 | .While q body [] _ => if c.loop = true then gWhile wTurns (t q) (b c body) else gNever
 | .AugAssign (.Name x _) op e _ => augG c f x op e
 | .Raise (some e) none _ => raiseG c f e
 | .Try body hs [] [] _ => tryG c b body hs
 | .Pass _ => gNext
 | _ => gNever
theorem stepS_ok {c:Ct} {k:Nat} (G:Good c k X) {f:Expr → GE} {t:Expr → GT} {b:Ct → List Stmt → GS} (h:∀ e,JE X e (f e)) (ha:∀ e,JAs X e (f e)) (ht:∀ e,JT X e (t e)) (hb:∀ c X,Good c k X → ∀ s,JSs X s (b c s)) (s:Stmt):JS X s (stepS c f t b s):=by
 unfold stepS
 split
 ·exact js_ret (h _)
 ·exact js_retN
 ·rename_i e p
  by_cases g:isCo e = false
  ·rw [if_pos g]; exact js_expr (h _) (swap_no g)
  ·rw [if_neg g]; exact js_never
 ·exact js_if (ht _) (hb c X G _) (hb c X G _)
 ·exact asg_ok G h ha _ _ _
 ·rename_i x p e body q
  by_cases g:c.loop = true
  ·rw [if_pos g]
   cases e1:slot c x with
   | none => exact js_never
   | some i => exact for_ok G g h e1 (hb c X G body) e _ _
  ·rw [if_neg g]; exact js_never
 ·rename_i q body p
  by_cases g:c.loop = true
  ·rw [if_pos g]; exact js_while wTurns (G.loop g).2 (ht _) (hb c X G body)
  ·rw [if_neg g]; exact js_never
 ·exact aug_ok G h _ _ _ _ _
 ·exact raise_ok G h _ _
 ·exact try_ok G hb _ _ _
 ·exact js_pass
 ·exact js_never
end
def stmtsG (f:Stmt → GS):List Stmt → GS
 | [] => gNext
 | [s] => f s
 | s :: s' :: r => gSeq (f s) (stmtsG f (s' :: r))
theorem stmts_ok {X:Cx} {f:Stmt → GS} (h:∀ s,JS X s (f s)):∀ ss,JSs X ss (stmtsG f ss)
 | [] => jss_nil
 | [s] => jss_one (h s)
 | s :: s' :: r => jss_cons (h s) (stmts_ok h (s' :: r))
noncomputable def compS:Nat → Ct → List Stmt → GS
 | 0,_ => fun _ => gNever
 | n + 1,c => stmtsG (stepS c (compE 40 c).1 (compE 40 c).2 (compS n))
theorem compS_ok {k:Nat}:∀ (n:Nat) (c:Ct) (X:Cx),Good c k X → ∀ ss:List Stmt,JSs X ss (compS n c ss)
 | 0,_,_,_,_ => jss_never
 | n + 1,c,X,G,ss => stmts_ok (fun s => stepS_ok G (compE_ok 40 k c X G).1 (compE_as 40 c X G) (compE_ok 40 k c X G).2 (compS_ok n) s) ss
structure LamK (K:PySem.W.Frag) (mg:Str → Option Value) (q:Str) (P:Addr):Prop where
 tab:tabFree K q = some P
 code:∃ c o vs file tf flags tg inF text tt,PySem.W.tabIn K q = some (c,P) ∧ K.lookup c = some o ∧ o.cls = .type "code" ∧ o.data = .fields vs ∧ vs[11]? = some (.ref P) ∧ vs.getD 11 .none = .ref P ∧ vs.getD 18 .none = .str file tf ∧
  vs.getD 7 .none = .int flags tg ∧ vs.getD 9 .none = .bool inF ∧ vs.getD 10 .none = .int text tt ∧ c ≠ P
 mem:q ∈ lamDefs
 uniq:∀ q',q' ∈ lamDefs → tabFree K q' = some P → q' = q
theorem LamK.at' {X:Cx} {q:Str} {P f:Addr} {cdv:Value} (h:LamK X.K X.mg q P) (M:ModB X.K X.mg X.base) (hn:PySem.W.nsIn X.K mainGlobals q = some (some (.ref f))) (hc:CodeOf X.K f cdv) (e1:X.env.code = cdv) (e2:X.env.qual = q ++ ".<locals>."):LamAt X q P:=by
 obtain ⟨c,o,vs,file,tf,flags,tg,inF,text,tt,t,l,r⟩:=h.code
 refine ⟨⟨c,?_,o,vs,file,tf,flags,tg,inF,text,tt,M.1.kin _ _ l,r⟩,e2,h.tab,h.mem,h.uniq,M.2⟩
 ·obtain ⟨of,lf,fd,d,cd⟩:=hc
  rw [e1,← cd]
  unfold PySem.W.tabIn at t
  rw [hn] at t
  dsimp only at t
  rw [lf] at t
  obtain ⟨oc,od,da,sl⟩:=of
  dsimp only at d
  subst d
  dsimp only at t
  cases q1:fd.code with
  | ref c2 =>
   rw [q1] at t
   dsimp only at t
   split at t
   ·split at t
    ·cases t; rfl
    ·cases t
   ·cases t
  | _ => rw [q1] at t; cases t
structure TopX (c:Ct) (k:Nat) (P:Program) (w:World) (K:PySem.W.Frag) (mg:Str → Option Value) (base:Heap):Prop where
 lam:∀ p L,c.lam = some (p,L) → HasL P w K mg base k p 3 L
 fnL:∀ x F,c.fnL.lookup x = some F → FnL P w K mg k c.lj x F
 fnJ:∀ x n F,c.fns.lookup x = some (n,F) → c.lfn.contains x = true → ∀ base,ModB K mg base → Has P w K mg base c.lj x n F
 at':c.self ∈ lamDefs → ∃ P,LamK K mg c.self P
theorem TopX.no {c:Ct} {k:Nat} {P:Program} {w:World} {K:PySem.W.Frag} {mg:Str → Option Value} {base:Heap} (h1:c.lam = none) (h2:c.fnL = []) (h3:c.lfn = []) (h4:c.self = ""):TopX c k P w K mg base :=
 ⟨(fun p L e => by rw [h1] at e; cases e),(fun x F e => by rw [h2] at e; cases e),(fun x n F _ e => by rw [h3] at e; cases e),(fun e => by rw [h4] at e; exact absurd e (by decide))⟩
structure TopOk (c:Ct) (k:Nat) (P:Program) (w:World) (K:PySem.W.Frag) (mg:Str → Option Value) (base:Heap):Prop where
 cst:∀ x w,c.consts.lookup x = some w → CstOk K mg x w
 bl:∀ x,c.bl.contains x = true → mg x = none
 fns:∀ x n F,c.fns.lookup x = some (n,F) → Has P w K mg base k x n F
 tab:TabOk K c.tb c.tt c.tc
 cls:∀ x,c.clss.contains x = true → ∃ C,mg x = some (.ref C) ∧ ExcC K x C
 cln:∀ x,c.cln.contains x = true → ∃ C,mg x = some (.ref C) ∧ ClsAt K x C
 dcs:∀ x kvs,c.dcs.lookup x = some kvs → DcAt K w mg x kvs
 fnu:∀ x n F,c.fnu.contains x = true → c.fns.lookup x = some (n,F) → HasU P w K mg base k x n F
 x:TopX c k P w K mg base
theorem has_def {P:Program} {w:World} {K:PySem.W.Frag} {mg:Str → Option Value} {base:Heap} {h:Heap} {k:Nat} {c:Ct} {x:Str} {st:Stmt} {ps:List Str} {g:GS} (KX:K.In h) (NS:h.Ns mainGlobals mg) (D:DefAt K x st) (T:TopOk c k P w K mg base)
  (S:FnScope c.N ps (defScope st)) (hn:(defScope st).names = c.names) (hg:compS 30 c (defBody st) = g)
  (hb:∀ (kV doc pm:Value) (an:Option Addr) (cdv ct:Value) (us:List Value),us.length = ps.length → bindArgs (PySem.W.fnOf x x (defArgs st) (defBody st) (defScope st) .none kV doc pm an cdv ct) ⟨us,[]⟩ = pure (ps.zip us)) (hM:c.self ∈ lamDefs → ModB K mg base ∧ c.self = x:=by exact fun z => absurd (show ("":Str) ∈ lamDefs from z) (by decide)) :
  Has P w K mg base (k + 1) x ps.length (fnF c.N.length g):=by
 obtain ⟨f,fd,a,F⟩:=D
 refine ⟨f,fd,ps,?_,PySem.W.mg_of KX NS a,F.kp,F.binds hb⟩
 subst hg
 refine fn_ok F S fun cdv hcdv A outer s H E hr => ?_
 refine compS_ok (k:=k) 30 c _ ⟨rfl,hn,S.nd,room_un hr,fun _ => ⟨hr,rfl⟩,fun _ => ⟨rfl,PassesOwn.leaving⟩,T.cst,T.bl,T.fns,fun _ => ⟨rfl,rfl,rfl⟩,fun _ _ => rfl,S.kind,T.tab,T.cls,T.cln,T.dcs,RoomU.of hr,T.fnu,⟨T.x.lam,T.x.fnL,T.x.fnJ,fun _ z => ?_⟩⟩ _
 obtain ⟨P',L⟩:=T.x.at' z
 obtain ⟨M,e⟩:=hM z
 exact ⟨P',LamK.at' L M (by rw [e]; exact a) hcdv rfl (by rw [e]; rfl)⟩
theorem has_defU {P:Program} {w:World} {K:PySem.W.Frag} {mg:Str → Option Value} {base:Heap} {h:Heap} {k:Nat} {c:Ct} {x:Str} {st:Stmt} {ps:List Str} {g:GS} (KX:K.In h) (NS:h.Ns mainGlobals mg) (D:DefAt K x st) (T:TopOk c k P w K mg base)
  (S:FnScope c.N ps (defScope st)) (hn:(defScope st).names = c.names) (hg:compS 30 c.un (defBody st) = g)
  (hb:∀ (kV doc pm:Value) (an:Option Addr) (cdv ct:Value) (us:List Value),us.length = ps.length → bindArgs (PySem.W.fnOf x x (defArgs st) (defBody st) (defScope st) .none kV doc pm an cdv ct) ⟨us,[]⟩ = pure (ps.zip us)) (hs:c.self ∉ lamDefs:=by exact (show ("":Str) ∉ lamDefs by decide)) :
  HasU P w K mg base (k + 1) x ps.length (fnF c.N.length g):=by
 obtain ⟨f,fd,a,F⟩:=D
 refine ⟨f,fd,ps,?_,PySem.W.mg_of KX NS a,F.kp,F.binds hb⟩
 subst hg
 refine fn_U F S fun cdv A outer s H E hr => ?_
 exact compS_ok (k:=k) 30 c.un (cxU P w K mg base c.N x (defScope st) f cdv A outer s H E) ⟨rfl,hn,S.nd,hr.u64,(fun z => by cases z),(fun z => by cases z),T.cst,T.bl,T.fns,fun _ => ⟨rfl,rfl,rfl⟩,fun _ _ => rfl,S.kind,T.tab,T.cls,T.cln,T.dcs,hr,T.fnu,⟨T.x.lam,T.x.fnL,T.x.fnJ,fun _ z => absurd z hs⟩⟩ _
theorem law_has {P:Program} {w:World} {K:PySem.W.Frag} {mg:Str → Option Value} {h:Heap} {k:Nat} {F:List Wv → Hs → Re Wv} {fa:Addr} {st:Stmt} (KX:K.In h) (NS:h.Ns mainGlobals mg) (hmg:mg "law" = some (.ref fa)) (D:DefAt K "law" st)
  (hp:∀ (kV doc pm:Value) (an:Option Addr) (cdv ct:Value) (s:Shared) (u:Value),BindsTo s (PySem.W.fnOf "law" "law" (defArgs st) (defBody st) (defScope st) .none kV doc pm an cdv ct) ⟨[u],[]⟩ [("script",u)])
  (FN:∀ (f:Addr) (fd:FuncData),Fun K "law" "law" st f fd → ∀ base:Heap,K.In base → base.Ns mainGlobals mg → FnOk P w K mg base (CXJ P w) k f fd ["script"] (spW K 1 F)) :
  ∃ fd:FuncData,(∀ (s:Shared) (u:Value),BindsTo s fd ⟨[u],[]⟩ [("script",u)]) ∧ ∀ base:Heap,K.In base → base.Ns mainGlobals mg → FnOk P w K mg base (CXJ P w) k fa fd ["script"] (spW K 1 F):=by
 obtain ⟨f,fd,a,Fu⟩:=D
 have e:=hmg.symm.trans (PySem.W.mg_of KX NS a)
 cases e
 refine ⟨fd,fun s u => ?_,FN fa fd Fu⟩
 obtain ⟨oc,od,kV,doc,pm,an,cdv,ct,osl,rfl,lk,hcd⟩:=Fu.ex
 exact hp kV doc pm an cdv ct s u
theorem fn_def {P:Program} {w:World} {K:PySem.W.Frag} {mg:Str → Option Value} {base:Heap} {k:Nat} {c:Ct} {x:Str} {st:Stmt} {ps:List Str} {g:GS} {f:Addr} {fd:FuncData} (F:Fun K x x st f fd) (T:TopOk c k P w K mg base)
  (S:FnScope c.N ps (defScope st)) (hn:(defScope st).names = c.names) (hg:compS 30 c (defBody st) = g) (hs:c.self ∉ lamDefs:=by exact (show ("":Str) ∉ lamDefs by decide)):FnOk P w K mg base (CXJ P w) (k + 1) f fd ps (spW K ps.length (fnF c.N.length g)):=by
 subst hg
 refine fn_ok F S fun cdv _ A outer s H E hr => ?_
 exact compS_ok (k:=k) 30 c _ ⟨rfl,hn,S.nd,room_un hr,fun _ => ⟨hr,rfl⟩,fun _ => ⟨rfl,PassesOwn.leaving⟩,T.cst,T.bl,T.fns,fun _ => ⟨rfl,rfl,rfl⟩,fun _ _ => rfl,S.kind,T.tab,T.cls,T.cln,T.dcs,RoomU.of hr,T.fnu,⟨T.x.lam,T.x.fnL,T.x.fnJ,fun _ z => absurd z hs⟩⟩ _
end J
namespace J
open PySem PySem.Spec PyProof.Rows L2
def AllP {α:Type} (P:α → Prop):List α → Prop
  | [] => True
  | a :: l => P a ∧ AllP P l
theorem AllP.look {κ β:Type} [BEq κ] [LawfulBEq κ] {P:κ × β → Prop}:∀ {l:List (κ × β)} {x:κ} {b:β},AllP P l → l.lookup x = some b → P (x,b)
  | [],_,_,_,h => by cases h
  | (y,c) :: l,x,b,a,h => by
    rw [List.lookup_cons] at h
    cases e:x == y with
    | true =>
      rw [e] at h
      cases h
      have e':=eq_of_beq e
      subst e'
      exact a.1
    | false => rw [e] at h; exact AllP.look a.2 h
theorem AllP.mem {P:Str → Prop}:∀ {l:List Str} {x:Str},AllP P l → l.contains x = true → P x
  | [],_,_,h => by cases h
  | y :: l,x,a,h => by
    rw [List.contains_cons,Bool.or_eq_true] at h
    rcases h with e | h
    · have e':=eq_of_beq e
      subst e'
      exact a.1
    · exact AllP.mem a.2 h
theorem cls_one {K:PySem.W.Frag} {c:PySem.Str} {C D:Addr} (h:ClsAt K c C) (k:ClsAt K c D):C = D:=by
  unfold ClsAt at h k
  rw [h] at k
  cases k
  rfl
theorem tab_mk {K:PySem.W.Frag} {tb:Tab} {tt:TabT} {tc:Tab} (h:AllP (fun p => ∃ C D,ClsAt K p.1.1 C ∧ ClsAt K p.1.2 D ∧ ExcK K C ∧ PySem.W.kitOne K (.ref C) (.ref D) = some p.2) tb)
    (g:AllP (fun p => ∃ C,ClsAt K p.1.1 C ∧ ExcK K C ∧ PySem.W.kitOne K (.ref C) (.type p.1.2) = some p.2) tt)
    (f:AllP (fun p => ∃ C D,ClsAt K p.1.1 C ∧ ClsAt K p.1.2 D ∧ PySem.W.excIn K C bmV nwV = true ∧ PySem.W.excIn K D bmV nwV = true ∧ PySem.W.mroIn K C (.ref D) = some p.2) tc):TabOk K tb tt tc :=
  ⟨fun c d b C D e hC hD => by
    obtain ⟨C',D',q1,q2,r⟩:=AllP.look h e
    cases cls_one hC q1
    cases cls_one hD q2
    exact r,fun c d b C D e hC hD => by
    obtain ⟨C',D',q1,q2,r⟩:=AllP.look f e
    cases cls_one hC q1
    cases cls_one hD q2
    exact r,fun c T b C e hC => by
    obtain ⟨C',q1,r⟩:=AllP.look g e
    cases cls_one hC q1
    exact r⟩
theorem topOk_mk {c:Ct} {k:Nat} {P:Program} {w:World} {K:PySem.W.Frag} {mg:Str → Option Value} {base:Heap} (hc:AllP (fun p => CstOk K mg p.1 p.2) c.consts) (hb:AllP (fun x => mg x = none) c.bl) (hf:AllP (fun p => Has P w K mg base k p.1 p.2.1 p.2.2) c.fns)
    (ht:TabOk K c.tb c.tt c.tc) (hk:AllP (fun x => ∃ C,mg x = some (.ref C) ∧ ExcC K x C) c.clss) (hn:AllP (fun x => ∃ C,mg x = some (.ref C) ∧ ClsAt K x C) c.cln) (hd:AllP (fun p => DcAt K w mg p.1 p.2) c.dcs)
    (hu:AllP (fun x => ∀ n F,c.fns.lookup x = some (n,F) → HasU P w K mg base k x n F) c.fnu:=by exact trivial) (hx:TopX c k P w K mg base:=by exact TopX.no rfl rfl rfl rfl):TopOk c k P w K mg base :=
  ⟨fun _ _ h => hc.look h,fun _ h => hb.mem h,fun x n F h => hf.look (b:=(n,F)) h,ht,fun _ h => hk.mem h,fun _ h => hn.mem h,fun x kvs h => hd.look (b:=kvs) h,fun x n F h k => hu.mem h n F k,hx⟩
end J
namespace J
open PySem PySem.Spec PyProof.Rows L2
theorem HasL.mono {P:Program} {w:World} {K:PySem.W.Frag} {mg:Str → Option Value} {base:Heap} {j k:Nat} {p:Lm} {n:Nat} {L:LF} (h:HasL P w K mg base j p n L) (l:j ≤ k):HasL P w K mg base k p n L:=by
  obtain ⟨fd,ps,ob,G,r⟩:=h
  exact ⟨fd,ps,ob,G.mono l,r⟩
end J
namespace J
open PySem PySem.Spec PyProof.Rows L2
def Rs.sq (r:Rs) (h:GS):Rs:=match r with
  | .nx ρ st => h ρ st
  | r => r
section
variable {α β:Type} {ρ ρ':Rho} {st:Hs} {h g ga' gb':GS} {ga gb gc:GE} {gt gu:GT} {w:Wv} {c:PySem.Str} {f:α → Hs → Re β} {k:α → Hs → Rs} {a:α} {i:Nat}
@[simp] theorem sq_nx:(Rs.nx ρ st).sq h = h ρ st:=rfl
@[simp] theorem sq_rt:(Rs.rt w st).sq h = .rt w st:=rfl
@[simp] theorem sq_bk:(Rs.bk ρ st).sq h = .bk ρ st:=rfl
@[simp] theorem sq_ct:(Rs.ct ρ st).sq h = .ct ρ st:=rfl
@[simp] theorem sq_err:(Rs.err c ρ st).sq h = .err c ρ st:=rfl
@[simp] theorem sq_bad:Rs.bad.sq h = .bad:=rfl
@[simp] theorem bind_ok:(Re.ok a st).bind f = f a st:=rfl
@[simp] theorem bind_err:(Re.err c st).bind f = .err c st:=rfl
@[simp] theorem bind_bad:(Re.bad:Re α).bind f = .bad:=rfl
@[simp] theorem thn_ok:(Re.ok a st).thn ρ k = k a st:=rfl
@[simp] theorem thn_err:(Re.err c st:Re α).thn ρ k = .err c ρ st:=rfl
@[simp] theorem nox_ok:(Re.ok a st).nox = .ok a st:=rfl
@[simp] theorem nox_bad:(Re.bad:Re α).nox = .bad:=rfl
@[simp] theorem thn_bad:(Re.bad:Re α).thn ρ k = .bad:=rfl
@[simp] theorem e_seq:gSeq g h ρ st = (g ρ st).sq h:=by unfold gSeq Rs.sq; cases g ρ st <;> rfl
@[simp] theorem e_next:gNext ρ st = .nx ρ st:=rfl
@[simp] theorem e_ret:gRet ga ρ st = (ga ρ st).thn ρ fun w st' => .rt w st':=rfl
@[simp] theorem e_expr:gExpr ga ρ st = (ga ρ st).thn ρ fun _ st' => .nx ρ st':=rfl
@[simp] theorem e_set:gSet i ga ρ st = (ga ρ st).thn ρ fun w st' => .nx (ρ.set i (some w)) st':=rfl
def kIf (ga gb:GS) (ρ:Rho):Bool → Hs → Rs:=fun b st' => if b = true then ga ρ st' else gb ρ st'
@[simp] theorem kIf_t:kIf g h ρ true st = g ρ st:=rfl
@[simp] theorem kIf_f:kIf g h ρ false st = h ρ st:=rfl
@[simp] theorem e_if:gIf gt g h ρ st = (gt ρ st).thn ρ (kIf g h ρ):=rfl
def rdV (o:Option (Option Wv)) (st:Hs):Re Wv:=match o with
  | some (some w) => .ok w st
  | _ => .bad
@[simp] theorem rdV_s:rdV (some (some w)) st = .ok w st:=rfl
@[simp] theorem e_var:gVar i ρ st = rdV ρ[i]? st:=rfl
@[simp] theorem e_c:gC w ρ st = .ok w st:=rfl
def kB (op:Op2) (gb:GE) (ρ:Rho):Wv → Hs → Re Wv:=fun x st1 => (gb ρ st1).bind fun y st2 => (op x y st2).nox
@[simp] theorem kB_d {op:Op2} {x:Wv}:kB op gb ρ x st = (gb ρ st).bind fun y st2 => (op x y st2).nox:=rfl
@[simp] theorem e_bin {op:Op2}:gBin op ga gb ρ st = (ga ρ st).bind (kB op gb ρ):=rfl
@[simp] theorem e_tst:gTst ga ρ st = (ga ρ st).bind tst:=rfl
@[simp] theorem tst_b {b:Bool}:tst (.bl b) st = .ok b st:=rfl
@[simp] theorem e_tru:gTru ga ρ st = (ga ρ st).bind truW:=rfl
@[simp] theorem truW_b {b:Bool}:truW (.bl b) st = .ok b st:=rfl
@[simp] theorem e_not:gNot gt ρ st = (gt ρ st).bind fun b st1 => .ok (!b) st1:=rfl
def kAnd (gb:GT) (ρ:Rho):Bool → Hs → Re Bool:=fun b st1 => if b = true then gb ρ st1 else .ok false st1
@[simp] theorem kAnd_t:kAnd gu ρ true st = gu ρ st:=rfl
@[simp] theorem kAnd_f:kAnd gu ρ false st = .ok false st:=rfl
@[simp] theorem e_and:gAnd gt gu ρ st = (gt ρ st).bind (kAnd gu ρ):=rfl
def kOr (gb:GT) (ρ:Rho):Bool → Hs → Re Bool:=fun b st1 => if b = true then .ok true st1 else gb ρ st1
@[simp] theorem kOr_t:kOr gu ρ true st = .ok true st:=rfl
@[simp] theorem kOr_f:kOr gu ρ false st = gu ρ st:=rfl
@[simp] theorem e_or:gOr gt gu ρ st = (gt ρ st).bind (kOr gu ρ):=rfl
def kAndV (gb:GE) (ρ:Rho):Wv → Hs → Re Wv:=fun w st1 => match w with
  | .bl true => gb ρ st1
  | .bl false => .ok (.bl false) st1
  | _ => .bad
@[simp] theorem kAndV_t:kAndV gb ρ (.bl true) st = gb ρ st:=rfl
@[simp] theorem kAndV_f:kAndV gb ρ (.bl false) st = .ok (.bl false) st:=rfl
@[simp] theorem e_andV:gAndV ga gb ρ st = (ga ρ st).bind (kAndV gb ρ):=rfl
def kOrV (gb:GE) (ρ:Rho):Wv → Hs → Re Wv:=fun w st1 => match w with
  | .bl true => .ok (.bl true) st1
  | .bl false => gb ρ st1
  | _ => .bad
@[simp] theorem kOrV_t:kOrV gb ρ (.bl true) st = .ok (.bl true) st:=rfl
@[simp] theorem kOrV_f:kOrV gb ρ (.bl false) st = gb ρ st:=rfl
@[simp] theorem e_orV:gOrV ga gb ρ st = (ga ρ st).bind (kOrV gb ρ):=rfl
def kNotV:Wv → Hs → Re Wv:=fun w st1 => match w with
  | .bl b => .ok (.bl (!b)) st1
  | _ => .bad
@[simp] theorem kNotV_b {b:Bool}:kNotV (.bl b) st = .ok (.bl (!b)) st:=rfl
@[simp] theorem e_notV:gNotV ga ρ st = (ga ρ st).bind kNotV:=rfl
@[simp] theorem e_nil:gNil ρ st = .ok [] st:=rfl
def kCons (gr:GA) (ρ:Rho):Wv → Hs → Re (List Wv):=fun x st1 => (gr ρ st1).bind fun xs st2 => .ok (x :: xs) st2
@[simp] theorem kCons_d {gr:GA} {x:Wv}:kCons gr ρ x st = (gr ρ st).bind fun xs st2 => .ok (x :: xs) st2:=rfl
@[simp] theorem e_cons {gr:GA}:gCons ga gr ρ st = (ga ρ st).bind (kCons gr ρ):=rfl
def kTup:List Wv → Hs → Re Wv:=fun ws st1 => if ws.length ≤ lim then .ok (.tup ws) st1 else .bad
theorem kTup_d {ws:List Wv} (hl:ws.length ≤ lim):kTup ws st = .ok (.tup ws) st:=if_pos hl
@[simp] theorem e_tup {gr:GA}:gTup gr ρ st = (gr ρ st).bind kTup:=rfl
def kLst:List Wv → Hs → Re Wv:=fun ws st1 => if ws.length ≤ lim then .ok (.ref st1.length) (st1 ++ [.lst ws]) else .bad
theorem kLst_d {ws:List Wv} (hl:ws.length ≤ lim):kLst ws st = .ok (.ref st.length) (st ++ [.lst ws]):=if_pos hl
@[simp] theorem e_lst {gr:GA}:gLst gr ρ st = (gr ρ st).bind kLst:=rfl
section
variable {x x0 x1 x2 x3 x4 x5 x6 x7:Wv}
@[simp] theorem kTup_0:kTup [] st = .ok (.tup []) st:=kTup_d (by simp [lim])
@[simp] theorem kTup_1:kTup [x0] st = .ok (.tup [x0]) st:=kTup_d (by simp [lim])
@[simp] theorem kTup_2:kTup [x0,x1] st = .ok (.tup [x0,x1]) st:=kTup_d (by simp [lim])
@[simp] theorem kTup_3:kTup [x0,x1,x2] st = .ok (.tup [x0,x1,x2]) st:=kTup_d (by simp [lim])
@[simp] theorem kTup_4:kTup [x0,x1,x2,x3] st = .ok (.tup [x0,x1,x2,x3]) st:=kTup_d (by simp [lim])
@[simp] theorem kLst_0:kLst [] st = .ok (.ref st.length) (st ++ [.lst []]):=kLst_d (by simp [lim])
@[simp] theorem kLst_1:kLst [x0] st = .ok (.ref st.length) (st ++ [.lst [x0]]):=kLst_d (by simp [lim])
@[simp] theorem kLst_2:kLst [x0,x1] st = .ok (.ref st.length) (st ++ [.lst [x0,x1]]):=kLst_d (by simp [lim])
@[simp] theorem kLst_3:kLst [x0,x1,x2] st = .ok (.ref st.length) (st ++ [.lst [x0,x1,x2]]):=kLst_d (by simp [lim])
@[simp] theorem kLst_4:kLst [x0,x1,x2,x3] st = .ok (.ref st.length) (st ++ [.lst [x0,x1,x2,x3]]):=kLst_d (by simp [lim])
end
def kCall (n:Nat) (F:List Wv → Hs → Re Wv):List Wv → Hs → Re Wv:=fun ws st1 => if ws.length = n then F ws st1 else .bad
section
variable {F:List Wv → Hs → Re Wv} {x0 x1 x2 x3:Wv} {gr:GA}
@[simp] theorem kCall_1:kCall 1 F [x0] st = F [x0] st:=rfl
@[simp] theorem kCall_2:kCall 2 F [x0,x1] st = F [x0,x1] st:=rfl
@[simp] theorem kCall_3:kCall 3 F [x0,x1,x2] st = F [x0,x1,x2] st:=rfl
@[simp] theorem kCall_4:kCall 4 F [x0,x1,x2,x3] st = F [x0,x1,x2,x3] st:=rfl
@[simp] theorem e_call {n:Nat}:gCall n F gr ρ st = (gr ρ st).bind (kCall n F):=rfl
@[simp] theorem e_callB {op:List Wv → Hs → Re Wv}:gCallB op gr ρ st = (gr ρ st).bind fun ws st1 => (op ws st1).nox:=rfl
end
@[simp] theorem e_un {op:Wv → Hs → Re Wv}:gUn op ga ρ st = (ga ρ st).bind op:=rfl
@[simp] theorem neg_i {i:Int}:opNeg (.int i) st = .ok (.int (-i)) st:=rfl
@[simp] theorem add_i {i j:Int}:oAdd (.int i) (.int j) st = .ok (.int (i + j)) st:=rfl
@[simp] theorem sub_i {i j:Int}:oSub (.int i) (.int j) st = .ok (.int (i - j)) st:=rfl
@[simp] theorem lt_i {i j:Int}:oLt (.int i) (.int j) st = .ok (.bl (decide (i < j))) st:=rfl
@[simp] theorem le_i {i j:Int}:oLe (.int i) (.int j) st = .ok (.bl (decide (i ≤ j))) st:=rfl
@[simp] theorem gt_i {i j:Int}:oGt (.int i) (.int j) st = .ok (.bl (decide (j < i))) st:=rfl
@[simp] theorem ge_i {i j:Int}:oGe (.int i) (.int j) st = .ok (.bl (decide (j ≤ i))) st:=rfl
@[simp] theorem eq_i {i j:Int}:oEq (.int i) (.int j) st = .ok (.bl (i == j)) st:=rfl
@[simp] theorem ne_i {i j:Int}:oNe (.int i) (.int j) st = .ok (.bl (!(i == j))) st:=rfl
@[simp] theorem eq_s {i j:PySem.Str}:oEq (.str i) (.str j) st = .ok (.bl (i == j)) st:=rfl
@[simp] theorem ne_s {i j:PySem.Str}:oNe (.str i) (.str j) st = .ok (.bl (!(i == j))) st:=rfl
@[simp] theorem eq_b {i j:Bool}:oEq (.bl i) (.bl j) st = .ok (.bl (i == j)) st:=by cases i <;> cases j <;> rfl
@[simp] theorem ne_b {i j:Bool}:oNe (.bl i) (.bl j) st = .ok (.bl (!(i == j))) st:=by cases i <;> cases j <;> rfl
theorem fdiv_i {i j:Int} (h:j ≠ 0 ∧ j.natAbs.log2 < 9000):oFdiv (.int i) (.int j) st = .ok (.int (i.fdiv j)) st:=by show (if _ then _ else _) = _; rw [if_pos h]
theorem mod_i {i j:Int} (h:j ≠ 0):oMod (.int i) (.int j) st = .ok (.int (i.fmod j)) st:=by show (if _ then _ else _) = _; rw [if_pos h]
theorem mul_i {i j:Int} (h:IntMulOk i j):oMulL (.int i) (.int j) st = .ok (.int (i * j)) st:=by show (if _ then _ else _) = _; rw [if_pos h]
theorem mul_l {i j:Int} (h1:-(2 ^ 64) < i) (h2:i < 2 ^ 64):oMulL (.int i) (.int j) st = .ok (.int (i * j)) st:=mul_i (IntMulOk.of_left (intBits_le_64 h1 h2))
theorem mul_r {i j:Int} (h1:-(2 ^ 64) < j) (h2:j < 2 ^ 64):oMulL (.int i) (.int j) st = .ok (.int (i * j)) st:=mul_i (IntMulOk.of_right (intBits_le_64 h1 h2))
theorem pow_i {i j:Int} (h:0 ≤ j ∧ j ≤ 1000000 ∧ i.natAbs < 2 ^ 64):oPow (.int i) (.int j) st = .ok (.int (i ^ j.toNat)) st:=by show (if _ then _ else _) = _; rw [if_pos h]
theorem ix_l {l:Nat} {i:Int} {ws:List Wv} {v:Wv} (h:lstOf st l = some ws) (h2:atI ws i = some v):oIx (.ref l) (.int i) st = .ok v st:=by
  show (match lstOf st l with | some ws => (match atI ws i with | some w => Re.ok w st | none => .bad) | none => .bad) = _
  rw [h]
  dsimp only
  rw [h2]
theorem add_l {l k:Nat} {xs ys:List Wv} (h1:lstOf st l = some xs) (h2:lstOf st k = some ys) (hl:xs.length + ys.length ≤ lim):oAdd (.ref l) (.ref k) st = .ok (.ref st.length) (st ++ [.lst (xs ++ ys)]):=by
  show (match lstOf st l,lstOf st k with | some i,some j => if i.length + j.length ≤ lim then Re.ok (Wv.ref st.length) (st ++ [Ob.lst (i ++ j)]) else .bad | _,_ => .bad) = _
  rw [h1,h2]
  exact if_pos hl
theorem ix_t {i:Int} {ws:List Wv} {v:Wv} (h2:atI ws i = some v):oIx (.tup ws) (.int i) st = .ok v st:=by
  show (match atI ws i with | some w => Re.ok w st | none => .bad) = _
  rw [h2]
end
theorem fn_rt {n:Nat} {g:GS} {ws:List Wv} {st st':Hs} {w:Wv} (h:g (ws.map some ++ List.replicate (n - ws.length) none) st = .rt w st'):fnF n g ws st = .ok w st':=by unfold fnF; rw [h]
theorem fn_err {n:Nat} {g:GS} {ws:List Wv} {st st':Hs} {ρ:Rho} {c:PySem.Str} (h:g (ws.map some ++ List.replicate (n - ws.length) none) st = .err c ρ st'):fnF n g ws st = .err c st':=by unfold fnF; rw [h]
section
variable {ρ:Rho} {st:Hs} {ga gb gc:GE} {gl gh:GO}
def kSl (gl gh:GO) (ρ:Rho):Wv → Hs → Re Wv:=fun x st1 => (gl ρ st1).bind fun lo st2 => (gh ρ st2).bind fun hi st3 => oSl2 x lo hi st3
@[simp] theorem e_slice:gSlice2 ga gl gh ρ st = (ga ρ st).bind (kSl gl gh ρ):=rfl
@[simp] theorem kSl_d {x:Wv}:kSl gl gh ρ x st = (gl ρ st).bind fun lo st2 => (gh ρ st2).bind fun hi st3 => oSl2 x lo hi st3:=rfl
@[simp] theorem e_nopart:gNoPart ρ st = .ok none st:=rfl
def kPart:Wv → Hs → Re (Option Int):=fun w st1 => match w with
  | .int i => .ok (some i) st1
  | _ => .bad
@[simp] theorem e_part:gPart ga ρ st = (ga ρ st).bind kPart:=rfl
@[simp] theorem kPart_i {i:Int}:kPart (.int i) st = .ok (some i) st:=rfl
theorem len_l {l:Nat} {ws:List Wv} (h:lstOf st l = some ws):oLen [.ref l] st = .ok (.int ws.length) st:=by
  show (match lstOf st l with | some ws => Re.ok (Wv.int ws.length) st | none => .bad) = _
  rw [h]
def kCh2 (op':Op2) (gc:GE) (y:Wv) (ρ:Rho):Wv → Hs → Re Wv:=fun z st3 => match z with
  | .bl true => (gc ρ st3).bind fun u st4 => (op' y u st4).nox
  | .bl false => .ok (.bl false) st3
  | _ => .bad
@[simp] theorem kCh2_t {op':Op2} {y:Wv}:kCh2 op' gc y ρ (.bl true) st = (gc ρ st).bind fun u st4 => (op' y u st4).nox:=rfl
@[simp] theorem kCh2_f {op':Op2} {y:Wv}:kCh2 op' gc y ρ (.bl false) st = .ok (.bl false) st:=rfl
@[simp] theorem e_chain {op op':Op2}:gChain op op' ga gb gc ρ st = (ga ρ st).bind fun x st1 => (gb ρ st1).bind fun y st2 => (op x y st2).nox.bind (kCh2 op' gc y ρ):=rfl
def kTry (cat:PySem.Str → Option Bool) (i:Nat) (gs:GS) (r:Rs):Rs:=match r with
  | .err c ρ' st' => (match cat c with
    | some true => (match gs (ρ'.set i (some (.exn c))) st' with
      | .nx ρ2 st2 => .nx (ρ2.set i none) st2
      | .rt w st2 => .rt w st2
      | _ => .bad)
    | _ => .bad)
  | r => r
@[simp] theorem e_try {cat:PySem.Str → Option Bool} {i:Nat} {g gs:GS}:gTry cat i g gs ρ st = kTry cat i gs (g ρ st):=by
  unfold gTry kTry
  cases g ρ st <;> rfl
@[simp] theorem kTry_nx {cat:PySem.Str → Option Bool} {i:Nat} {gs:GS}:kTry cat i gs (.nx ρ st) = .nx ρ st:=rfl
@[simp] theorem kTry_rt {cat:PySem.Str → Option Bool} {i:Nat} {gs:GS} {w:Wv}:kTry cat i gs (.rt w st) = .rt w st:=rfl
def kTryN (cat:PySem.Str → Option Bool) (gs:GS) (r:Rs):Rs:=match r with
  | .err c ρ' st' => (match cat c with
    | some true => (match gs ρ' st' with
      | .nx ρ2 st2 => .nx ρ2 st2
      | .rt w st2 => .rt w st2
      | _ => .bad)
    | _ => .bad)
  | r => r
@[simp] theorem kTryN_nx {cat:PySem.Str → Option Bool} {gs:GS}:kTryN cat gs (.nx ρ st) = .nx ρ st:=rfl
@[simp] theorem kTryN_rt {cat:PySem.Str → Option Bool} {gs:GS} {w:Wv}:kTryN cat gs (.rt w st) = .rt w st:=rfl
theorem kTry_err {cat:PySem.Str → Option Bool} {i:Nat} {gs:GS} {c:PySem.Str} {ρ2:Rho} {st2:Hs} (h:cat c = some true) (k:gs (ρ.set i (some (.exn c))) st = .nx ρ2 st2):kTry cat i gs (.err c ρ st) = .nx (ρ2.set i none) st2:=by
  unfold kTry
  simp only [h,k]
end
theorem lstOf_new {st:Hs} {ws:List Wv}:lstOf (st ++ [.lst ws]) st.length = some ws:=by unfold lstOf; simp
theorem lstOf_lt {st:Hs} {l:Nat} {ws:List Wv} (h:lstOf st l = some ws):l < st.length:=by
  unfold lstOf at h
  cases e:st[l]? with
  | none => rw [e] at h; cases h
  | some o => exact (List.getElem?_eq_some_iff.mp e).1
def Keep (l:Nat) (st st':Hs):Prop:=st.length ≤ st'.length ∧ ∀ k,k < st.length → k ≠ l → st'[k]? = st[k]?
theorem Keep.refl {l:Nat} {st:Hs}:Keep l st st:=⟨Nat.le_refl _,fun _ _ _ => rfl⟩
theorem Keep.trans {l:Nat} {a b c:Hs} (h:Keep l a b) (k:Keep l b c):Keep l a c:=⟨Nat.le_trans h.1 k.1,fun j h1 h2 => (k.2 j (Nat.lt_of_lt_of_le h1 h.1) h2).trans (h.2 j h1 h2)⟩
theorem Keep.push {l:Nat} {st:Hs} {o:Ob}:Keep l st (st ++ [o]):=⟨by simp,fun k h _ => List.getElem?_append_left h⟩
theorem Keep.set {l:Nat} {st:Hs} {o:Ob}:Keep l st (st.set l o):=⟨by simp,fun k _ h => List.getElem?_set_ne (fun z => h z.symm)⟩
theorem Keep.lst {l:Nat} {st st':Hs} (k:Keep l st st') {j:Nat} {ws:List Wv} (h:lstOf st j = some ws) (hj:j ≠ l):lstOf st' j = some ws:=by
  unfold lstOf at h ⊢
  rw [k.2 j (lstOf_lt (st:=st) (ws:=ws) (by unfold lstOf; exact h)) hj]
  exact h
@[simp] theorem e_forR1 {i:Nat} {ga:GA} {gb:GS} {ρ:Rho} {st:Hs}:gForR1 i ga gb ρ st = (ga ρ st).thn ρ fun ws st1 => match ws with
  | [.int j] => if CRng j then forT i gb (rngW 0 j.toNat) ρ st1 else .bad
  | _ => .bad:=rfl
@[simp] theorem e_raise {c:PySem.Str} {ga:GA} {ρ:Rho} {st:Hs}:gRaise c ga ρ st = (ga ρ st).thn ρ fun ws st1 => if ws.length ≤ lim then .err c ρ st1 else .bad:=rfl
def kMeth (mt:Wv → Wv → Hs → Re Wv) (ga:GE) (ρ:Rho):Wv → Hs → Re Wv:=fun o st1 => match o with
  | .ref l => (match lstOf st1 l with
    | some _ => (ga ρ st1).bind fun v st2 => (mt o v st2).nox
    | none => .bad)
  | _ => .bad
@[simp] theorem e_meth {mt:Wv → Wv → Hs → Re Wv} {go ga:GE} {ρ:Rho} {st:Hs}:gMeth mt go ga ρ st = (go ρ st).bind (kMeth mt ga ρ):=rfl
theorem kMeth_l {mt:Wv → Wv → Hs → Re Wv} {ga:GE} {ρ:Rho} {st:Hs} {l:Nat} {ws:List Wv} (h:lstOf st l = some ws):kMeth mt ga ρ (.ref l) st = (ga ρ st).bind fun v st2 => (mt (.ref l) v st2).nox:=by
  show (match lstOf st l with | some _ => (ga ρ st).bind fun v st2 => (mt (.ref l) v st2).nox | none => .bad) = _
  rw [h]
theorem app_l {st:Hs} {l:Nat} {v:Wv} {ws:List Wv} (h:st[l]? = some (.lst ws)) (hl:ws.length < lim):mApp (.ref l) v st = .ok .non (st.set l (.lst (ws ++ [v]))):=by
  show (match st[l]? with | some (.lst ws) => if ws.length < lim then Re.ok Wv.non (st.set l (.lst (ws ++ [v]))) else .bad | _ => .bad) = _
  rw [h]
  exact if_pos hl
noncomputable def kFor (i:Nat) (gb:GS) (ρ:Rho):Wv → Hs → Rs:=fun w st1 => match w with
  | .ref l => (match lstOf st1 l with | some ws => forL i gb l ws ws ρ st1 | none => .bad)
  | .tup ws => forT i gb ws ρ st1
  | .ktp ws => forT i gb ws ρ st1
  | _ => .bad
@[simp] theorem e_for {i:Nat} {ga:GE} {gb:GS} {ρ:Rho} {st:Hs}:gFor i ga gb ρ st = (ga ρ st).thn ρ (kFor i gb ρ):=rfl
theorem kFor_l {i:Nat} {gb:GS} {ρ:Rho} {st:Hs} {l:Nat} {ws:List Wv} (h:lstOf st l = some ws):kFor i gb ρ (.ref l) st = forL i gb l ws ws ρ st:=by
  show (match lstOf st l with | some ws => forL i gb l ws ws ρ st | none => .bad) = _
  rw [h]
@[simp] theorem kFor_t {i:Nat} {gb:GS} {ρ:Rho} {st:Hs} {ws:List Wv}:kFor i gb ρ (.tup ws) st = forT i gb ws ρ st:=rfl
theorem forL_inv {i:Nat} {gb:GS} {l:Nat} {all:List Wv} (P:Rho → Hs → Prop):∀ (ws:List Wv) (ρ:Rho) (st:Hs),P ρ st → lstOf st l = some all →
    (∀ w ∈ ws,∀ ρ st,P ρ st → lstOf st l = some all → ∃ ρ' st',gb (ρ.set i (some w)) st = .nx ρ' st' ∧ lstOf st' l = some all ∧ P ρ' st') →
    ∃ ρ' st',forL i gb l all ws ρ st = .nx ρ' st' ∧ P ρ' st' ∧ lstOf st' l = some all
  | [],ρ,st,h,hl,_ => ⟨ρ,st,rfl,h,hl⟩
  | w :: r,ρ,st,h,hl,step => by
    obtain ⟨ρ1,st1,e1,l1,p1⟩:=step w List.mem_cons_self ρ st h hl
    obtain ⟨ρ2,st2,e2,p2,l2⟩:=forL_inv P r ρ1 st1 p1 l1 fun w hw => step w (List.mem_cons_of_mem _ hw)
    refine ⟨ρ2,st2,?_,p2,l2⟩
    unfold forL
    rw [e1]
    simp only [if_pos l1]
    exact e2
theorem forT_inv {i:Nat} {gb:GS} (P:Rho → Hs → Prop):∀ (ws:List Wv) (ρ:Rho) (st:Hs),P ρ st →
    (∀ w ∈ ws,∀ ρ st,P ρ st → ∃ ρ' st',gb (ρ.set i (some w)) st = .nx ρ' st' ∧ P ρ' st') → ∃ ρ' st',forT i gb ws ρ st = .nx ρ' st' ∧ P ρ' st'
  | [],ρ,st,h,_ => ⟨ρ,st,rfl,h⟩
  | w :: r,ρ,st,h,step => by
    obtain ⟨ρ1,st1,e1,p1⟩:=step w List.mem_cons_self ρ st h
    obtain ⟨ρ2,st2,e2,p2⟩:=forT_inv P r ρ1 st1 p1 fun w hw => step w (List.mem_cons_of_mem _ hw)
    refine ⟨ρ2,st2,?_,p2⟩
    unfold forT
    rw [e1]
    exact e2
@[simp] theorem str2_i {i:Int} {st:Hs}:oStr2 [.int i] st = oStr [.int i] st:=rfl
@[simp] theorem e_comp {cs:Caps} {gi:GI} {gt:GT} {ge:GE} {ρ:Rho} {st:Hs}:gComp cs gi gt ge ρ st = (gi ρ st).bind (compRun cs gt ge ρ):=rfl
@[simp] theorem e_giSeq {g:GE} {ρ:Rho} {st:Hs}:giSeq2 g ρ st = (g ρ st).bind seqW2:=rfl
@[simp] theorem e_giR1 {g:GA} {ρ:Rho} {st:Hs}:giR1 g ρ st = (g ρ st).bind rng1W:=rfl
@[simp] theorem e_giR2 {g:GA} {ρ:Rho} {st:Hs}:giR2 g ρ st = (g ρ st).bind rng2W:=rfl
theorem rng1_i {j:Int} {st:Hs} (h:CRng j):rng1W [.int j] st = .ok (none,rngW 0 j.toNat) st:=if_pos h
theorem rng2_i {i j:Int} {st:Hs} (h:CRng i) (k:CRng j):rng2W [.int i,.int j] st = .ok (none,rngW i (j - i).toNat) st:=if_pos ⟨h,k⟩
theorem seqW_l {l:Nat} {st:Hs} {ws:List Wv} (h:lstOf st l = some ws):seqW2 (.ref l) st = .ok (some l,ws) st:=by
  show (match lstOf st l with | some ws => Re.ok (some l,ws) st | none => .bad) = _
  rw [h]
@[simp] theorem seqW_s {st:Hs} {z:PySem.Str}:seqW2 (.str z) st = .ok (none,signsW z) st:=rfl
@[simp] theorem seqW_t {st:Hs} {ws:List Wv}:seqW2 (.tup ws) st = .ok (none,ws) st:=rfl
theorem app_new {st:Hs} {acc:List Wv} {v:Wv} (h:acc.length < lim):mApp (.ref st.length) v (st ++ [.lst acc]) = .ok .non (st ++ [.lst (acc ++ [v])]):=by
  rw [app_l (ws:=acc) (by simp) h]
  congr 1
  simp
theorem compG_pure {w:Wk} {gt:Wv → Hs → Re Bool} {ge:Wv → Hs → Re Wv} {st:Hs} {t:Wv → Bool} {f:Wv → Wv} (ck:ckOf w st):∀ (ws acc:List Wv),(∀ v ∈ ws,∀ acc,gt v (st ++ [.lst acc]) = .ok (t v) (st ++ [.lst acc])) →
    (∀ v ∈ ws,t v = true → ∀ acc,ge v (st ++ [.lst acc]) = .ok (f v) (st ++ [.lst acc])) → acc.length + ws.length < lim → compG (ckOf w) gt ge st.length ws (st ++ [.lst acc]) = some (st ++ [.lst (acc ++ (ws.filter t).map f)])
  | [],acc,_,_,_ => by simp [compG]
  | v :: r,acc,h1,h2,hl => by
    have hl':acc.length + (r.length + 1) < lim:=hl
    unfold compG
    rw [h1 v List.mem_cons_self acc]
    cases e:t v with
    | false =>
      dsimp only
      rw [if_pos (ckOf_app ck),compG_pure ck r acc (fun v hv => h1 v (List.mem_cons_of_mem _ hv)) (fun v hv => h2 v (List.mem_cons_of_mem _ hv)) (by omega),List.filter_cons_of_neg (by simp [e])]
    | true =>
      dsimp only
      rw [h2 v List.mem_cons_self e acc]
      dsimp only
      rw [app_new (by omega)]
      dsimp only
      rw [if_pos (ckOf_app ck),compG_pure ck r (acc ++ [f v]) (fun v hv => h1 v (List.mem_cons_of_mem _ hv)) (fun v hv => h2 v (List.mem_cons_of_mem _ hv)) (by simp; omega),List.filter_cons_of_pos e]
      simp
theorem comp_pure {cs:Caps} {gt:GT} {ge:GE} {ρ:Rho} {w:Wk} {st:Hs} {t:Wv → Bool} {f:Wv → Wv} (ck:ckOf w st) (h1:∀ v ∈ w.2,∀ acc,gt (some v :: capR cs ρ) (st ++ [.lst acc]) = .ok (t v) (st ++ [.lst acc]))
    (h2:∀ v ∈ w.2,t v = true → ∀ acc,ge (some v :: capR cs ρ) (st ++ [.lst acc]) = .ok (f v) (st ++ [.lst acc])) (hl:w.2.length < lim):compRun cs gt ge ρ w st = .ok (.ref st.length) (st ++ [.lst ((w.2.filter t).map f)]):=by
  unfold compRun
  rw [compG_pure ck w.2 [] h1 h2 (by simpa using hl)]
  simp
end J
namespace J
open PySem PySem.Spec PyProof.Rows L2
theorem atI_some {α:Type} {ws:List α} {d:Int} (h0:0 ≤ d) (h1:d < ws.length):∃ v,L2.atI ws d = some v ∧ v ∈ ws:=by
  have hk:d.toNat < ws.length:=by omega
  have ek:d = ((d.toNat:Nat):Int):=by omega
  refine ⟨ws[d.toNat],?_,List.getElem_mem hk⟩
  have q:=L2.atI_nat (List.getElem?_eq_getElem hk)
  rw [← ek] at q
  exact q
theorem set_get {st:Hs} {l:Nat} {o o':Ob} (h:st[l]? = some o):(st.set l o')[l]? = some o':=List.getElem?_set_self (List.getElem?_eq_some_iff.mp h).1
theorem push_get {st:Hs} {l:Nat} {o o':Ob} (h:st[l]? = some o):(st ++ [o'])[l]? = some o:=by rw [List.getElem?_append_left (List.getElem?_eq_some_iff.mp h).1]; exact h
theorem lst_get {st:Hs} {l:Nat} {ws:List Wv} (h:st[l]? = some (.lst ws)):lstOf st l = some ws:=by unfold lstOf; rw [h]
theorem get_lt {st:Hs} {l:Nat} {o:Ob} (h:st[l]? = some o):l < st.length:=(List.getElem?_eq_some_iff.mp h).1
theorem new_get {st:Hs} {o:Ob}:(st ++ [o])[st.length]? = some o:=by simp
theorem log_lt {i b:Int} {k:Nat} (h1:-b ≤ i) (h2:i ≤ b) (hb:b.natAbs < 2 ^ k) (hk:0 < k):i.natAbs.log2 < k:=by
  by_cases e:i.natAbs = 0
  · rw [e]
    exact hk
  · exact (Nat.log2_lt e).mpr (by omega)
theorem len_s {z:PySem.Str} {st:Hs} (h:z.length ≤ lim):oLen [.str z] st = .ok (.int z.length) st:=by
  show (if z.length ≤ lim then Re.ok (Wv.int z.length) st else .bad) = _
  rw [if_pos h]
def kMethS (mt:PySem.Str → List Wv → Hs → Re Wv) (ga:GA) (ρ:Rho):Wv → Hs → Re Wv:=fun o st1 => match o with
  | .str z => (ga ρ st1).bind fun ws st2 => (mt z ws st2).nox
  | _ => .bad
@[simp] theorem e_methS {mt:PySem.Str → List Wv → Hs → Re Wv} {go:GE} {ga:GA} {ρ:Rho} {st:Hs}:gMethS mt go ga ρ st = (go ρ st).bind (kMethS mt ga ρ):=rfl
@[simp] theorem kMethS_s {mt:PySem.Str → List Wv → Hs → Re Wv} {ga:GA} {ρ:Rho} {st:Hs} {z:PySem.Str}:kMethS mt ga ρ (.str z) st = (ga ρ st).bind fun ws st2 => (mt z ws st2).nox:=rfl
@[simp] theorem abs_i {i:Int} {st:Hs}:oAbs [.int i] st = .ok (.int (if i < 0 then -i else i)) st:=rfl
theorem join_l {l:Nat} {st:Hs} {z:PySem.Str} {ys:List PySem.Str} (h:lstOf st l = some (ys.map Wv.str)) (hz:(ys.map (·.length)).sum + ys.length * z.length ≤ 16777216):mJoin z [.ref l] st = .ok (.str (Txt.join z ys)) st:=by
  unfold mJoin
  simp only [h,strsOf_map]
  rw [if_pos hz]
theorem rng_mem {lo:Int} {n:Nat} {w:Wv} (h:w ∈ rngW lo n):∃ k:Int,w = .int k ∧ lo ≤ k ∧ k < lo + n:=by
  unfold rngW at h
  obtain ⟨k,hk,rfl⟩:=List.mem_map.mp h
  have:=List.mem_range.mp hk
  exact ⟨lo + k,rfl,by omega,by omega⟩
theorem crng {i:Int} (h1:-1000000 ≤ i) (h2:i ≤ 1000000):CRng i:=⟨by omega,by omega⟩
@[simp] theorem kCall_0 {F:List Wv → Hs → Re Wv} {st:Hs}:kCall 0 F [] st = F [] st:=rfl
theorem e_alt2 {ga gb:GE} {ρ:Rho} {st:Hs} (h:ga ρ st = .bad):gAlt ga gb ρ st = gb ρ st:=by unfold gAlt; rw [h]
theorem compG_inv {w:Wk} {gt:Wv → Hs → Re Bool} {ge:Wv → Hs → Re Wv} {rr:Nat} (P:Hs → Prop) (E:Wv → Prop) (hP:∀ st acc,P st → P (st.set rr (.lst acc))) (hck:∀ st,P st → ckOf w st) :
    ∀ (ws:List Wv),(∀ v ∈ ws,∀ st acc,P st → st[rr]? = some (.lst acc) → ∃ st1,gt v st = .ok true st1 ∧ P st1 ∧ st1[rr]? = some (.lst acc) ∧ ∃ u st2,ge v st1 = .ok u st2 ∧ E u ∧ P st2 ∧ st2[rr]? = some (.lst acc)) →
      ∀ (acc:List Wv) (st:Hs),P st → st[rr]? = some (.lst acc) → acc.length + ws.length < lim → (∀ a ∈ acc,E a) → ∃ st' acc',compG (ckOf w) gt ge rr ws st = some st' ∧ P st' ∧ st'[rr]? = some (.lst acc') ∧ (∀ a ∈ acc',E a) ∧ acc'.length = acc.length + ws.length
  | [],_,acc,st,hp,hg,_,ha => ⟨st,acc,rfl,hp,hg,ha,rfl⟩
  | v :: r,step,acc,st,hp,hg,hl,ha => by
    obtain ⟨st1,e1,p1,g1,u,st2,e2,hu,p2,g2⟩:=step v List.mem_cons_self st acc hp hg
    have hl':acc.length + (r.length + 1) < lim:=hl
    obtain ⟨st3,acc3,f1,f2,f3,f4,f5⟩:=compG_inv P E hP hck r (fun v hv => step v (List.mem_cons_of_mem _ hv)) (acc ++ [u]) (st2.set rr (.lst (acc ++ [u]))) (hP _ _ p2) (set_get g2) (by simp; omega) (by
      intro a h
      rcases List.mem_append.mp h with z | z
      · exact ha a z
      · simp at z; rw [z]; exact hu)
    refine ⟨st3,acc3,?_,f2,f3,f4,?_⟩
    · unfold compG
      rw [e1]
      dsimp only
      rw [e2]
      dsimp only
      rw [app_l g2 (by omega)]
      dsimp only
      rw [if_pos (hck _ (hP _ _ p2)),f1]
    · rw [f5]; simp; omega
def Gr (st st':Hs):Prop:=st.length ≤ st'.length ∧ ∀ k,k < st.length → st'[k]? = st[k]?
theorem Gr.refl {st:Hs}:Gr st st:=⟨Nat.le_refl _,fun _ _ => rfl⟩
theorem Gr.trans {a b c:Hs} (h:Gr a b) (k:Gr b c):Gr a c:=⟨Nat.le_trans h.1 k.1,fun j h1 => (k.2 j (Nat.lt_of_lt_of_le h1 h.1)).trans (h.2 j h1)⟩
theorem Gr.push {st:Hs} {o:Ob}:Gr st (st ++ [o]):=⟨by simp,fun k h => List.getElem?_append_left h⟩
theorem Gr.lst {st st':Hs} (k:Gr st st') {j:Nat} {ws:List Wv} (h:lstOf st j = some ws):lstOf st' j = some ws:=by
  unfold lstOf at h ⊢
  rw [k.2 j (lstOf_lt (st:=st) (ws:=ws) (by unfold lstOf; exact h))]
  exact h
theorem Gr.get {st st':Hs} (k:Gr st st') {j:Nat} {o:Ob} (h:st[j]? = some o):st'[j]? = some o:=by rw [k.2 j (get_lt h)]; exact h
theorem Gr.keep {st st':Hs} {l:Nat} (k:Gr st st'):Keep l st st':=⟨k.1,fun j h _ => k.2 j h⟩
theorem Keep.gr {st st':Hs} {l:Nat} (h:st.length ≤ l) (k:Keep l st st'):Gr st st':=⟨k.1,fun j h1 => k.2 j h1 (by omega)⟩
theorem Gr.keepAt {st s1 s2:Hs} {l:Nat} (h:st.length ≤ l) (g:Gr st s1) (k:Keep l s1 s2):Gr st s2:=⟨Nat.le_trans g.1 k.1,fun j h1 => (k.2 j (Nat.lt_of_lt_of_le h1 g.1) (by omega)).trans (g.2 j h1)⟩
theorem compG_map {α:Type} {w:Wk} {gt:Wv → Hs → Re Bool} {ge:Wv → Hs → Re Wv} {rr:Nat} (f:α → Wv) (P:Hs → Prop) (E:α → Wv → Prop) (hP:∀ st acc,P st → P (st.set rr (.lst acc))) (hck:∀ st,P st → ckOf w st) :
    ∀ (ws:List α),(∀ v ∈ ws,∀ st acc,P st → st[rr]? = some (.lst acc) → ∃ st1,gt (f v) st = .ok true st1 ∧ P st1 ∧ st1[rr]? = some (.lst acc) ∧ ∃ u st2,ge (f v) st1 = .ok u st2 ∧ E v u ∧ P st2 ∧ st2[rr]? = some (.lst acc)) →
      ∀ (acc:List Wv) (st:Hs),P st → st[rr]? = some (.lst acc) → acc.length + ws.length < lim → ∃ st' us,compG (ckOf w) gt ge rr (ws.map f) st = some st' ∧ P st' ∧ st'[rr]? = some (.lst (acc ++ us)) ∧ us.length = ws.length ∧ ∀ k (h:k < ws.length) (h':k < us.length),E ws[k] us[k]
  | [],_,acc,st,hp,hg,_ => ⟨st,[],rfl,hp,by simpa using hg,rfl,fun k h => by cases h⟩
  | v :: r,step,acc,st,hp,hg,hl => by
    obtain ⟨st1,e1,p1,g1,u,st2,e2,hu,p2,g2⟩:=step v List.mem_cons_self st acc hp hg
    have hl':acc.length + (r.length + 1) < lim:=hl
    obtain ⟨st3,us,f1,f2,f3,f4,f5⟩:=compG_map f P E hP hck r (fun v hv => step v (List.mem_cons_of_mem _ hv)) (acc ++ [u]) (st2.set rr (.lst (acc ++ [u]))) (hP _ _ p2) (set_get g2) (by simp; omega)
    refine ⟨st3,u :: us,?_,f2,by simpa using f3,by simp [f4],fun k h h' => ?_⟩
    · rw [List.map_cons]
      unfold compG
      rw [e1]
      dsimp only
      rw [e2]
      dsimp only
      rw [app_l g2 (by omega)]
      dsimp only
      rw [if_pos (hck _ (hP _ _ p2)),f1]
    · cases k with
      | zero => exact hu
      | succ k => exact f5 k (by simpa using h) (by simpa using h')
theorem eqv_s {x:PySem.Str}:PyData.eqv (.str x) (.str x) = true:=by simp [PyData.eqv]
theorem ne_dat {st:Hs} {x y:Wv} {d:PyData} (h1:datum st 20 x = some d) (h2:datum st 20 y = some d) (h:PyData.eqv d d = true):oNe x y st = .ok (.bl false) st:=by
  unfold oNe
  rw [h1,h2]
  show Re.ok (Wv.bl (!PyData.eqv d d)) st = _
  rw [h]
  rfl
theorem dat_l {st:Hs} {n l:Nat} {ws:List Wv} (h:lstOf st l = some ws):datum st (n + 1) (.ref l) = (mapO (datum st n) ws).map PyData.list:=by
  show (match lstOf st l with | some ws => (mapO (datum st n) ws).map PyData.list | none => none) = _
  rw [h]
@[simp] theorem max_2 {i j:Int} {st:Hs}:oMax2 [.int i,.int j] st = .ok (.int (if j > i then j else i)) st:=rfl
@[simp] theorem min_2 {i j:Int} {st:Hs}:oMin2 [.int i,.int j] st = .ok (.int (if j < i then j else i)) st:=rfl
def kDcIn (neg:Bool) (kvs:Dc):Wv → Hs → Re Wv:=fun a st1 => match a with
  | .str k => .ok (.bl ((kvs.lookup k).isSome != neg)) st1
  | _ => .bad
@[simp] theorem e_dcIn {neg:Bool} {kvs:Dc} {ga:GE} {ρ:Rho} {st:Hs}:gDcIn neg kvs ga ρ st = (ga ρ st).bind (kDcIn neg kvs):=rfl
@[simp] theorem kDcIn_s {neg:Bool} {kvs:Dc} {k:PySem.Str} {st:Hs}:kDcIn neg kvs (.str k) st = .ok (.bl ((kvs.lookup k).isSome != neg)) st:=rfl
def kDcIx (kvs:Dc):Wv → Hs → Re Wv:=fun a st1 => match a with
  | .str k => (match kvs.lookup k with | some w => .ok w st1 | none => .bad)
  | _ => .bad
@[simp] theorem e_dcIx {kvs:Dc} {ga:GE} {ρ:Rho} {st:Hs}:gDcIx kvs ga ρ st = (ga ρ st).bind (kDcIx kvs):=rfl
theorem kDcIx_s {kvs:Dc} {k:PySem.Str} {w:Wv} {st:Hs} (h:kvs.lookup k = some w):kDcIx kvs (.str k) st = .ok w st:=by
  show (match kvs.lookup k with | some w => Re.ok w st | none => .bad) = _
  rw [h]
end J
namespace J
open PySem L2
theorem tb_none {K:PySem.W.Frag} {H:Hp} (h1:PySem.W.nsIn K mainGlobals "form_of" = some none) (h2:PySem.W.nsIn K mainGlobals "formula_by" = some none) (h3:PySem.W.nsIn K mainGlobals "turned" = some none):TbOk K H:=fun q P hq e => by
  have no:∀ q,PySem.W.nsIn K mainGlobals q = some none → tabFree K q = none:=fun q h => by
    unfold tabFree PySem.W.tabIn
    rw [h]
  simp only [lamDefs,List.mem_cons,List.not_mem_nil,or_false] at hq
  rcases hq with rfl | rfl | rfl
  · rw [no _ h1] at e; cases e
  · rw [no _ h2] at e; cases e
  · rw [no _ h3] at e; cases e
theorem ln1 {fd:FuncData} {ps:List Str} (us:List Value) (hl:us.length = 1) (h:∀ a0:Value,bindArgs fd { pos:=[a0] } = pure (ps.zip [a0])):bindArgs fd { pos:=us } = pure (ps.zip us):=match us,hl with | [a0],_ => h a0
theorem ln2 {fd:FuncData} {ps:List Str} (us:List Value) (hl:us.length = 2) (h:∀ a0 a1:Value,bindArgs fd { pos:=[a0,a1] } = pure (ps.zip [a0,a1])):bindArgs fd { pos:=us } = pure (ps.zip us):=match us,hl with | [a0,a1],_ => h a0 a1
theorem ln3 {fd:FuncData} {ps:List Str} (us:List Value) (hl:us.length = 3) (h:∀ a0 a1 a2:Value,bindArgs fd { pos:=[a0,a1,a2] } = pure (ps.zip [a0,a1,a2])):bindArgs fd { pos:=us } = pure (ps.zip us):=match us,hl with | [a0,a1,a2],_ => h a0 a1 a2
end J
namespace K09
open PySem J
open L2 (defScope defBody defArgs FnScope CX0 FnOk XK Hp)
def top (i:Nat):Stmt:=PySem.Challenge.pw_onelook_k09_no_formulas.main.body.getD i (.Pass ⟨0,0,0,0⟩)
def tbl:Tab:=[(("BadFormula","BadFormula"),true),(("BadFormula","BadArea"),false),(("BadFormula","BadContent"),false),(("BadFormula","BadCount"),false),(("BadFormula","BadPlace"),false),(("BadFormula","BadTable"),false),(("BadFormula","Clash"),false),(("BadFormula","Full"),false),(("BadFormula","NoCell"),false),(("BadFormula","NoColumn"),false),(("BadFormula","BadText"),false),(("BadFormula","NoDeed"),false),(("BadFormula","NoRoom"),false),(("BadFormula","NoTable"),false),(("BadFormula","NotWaiting"),false),(("BadFormula","SheetError"),true)]
def tblT:TabT:=[(("BadFormula","ValueError"),true)]
def d_PART_COUNTS:Dc:=[("num",.int 0),("text",.int 0),("lost",.int 0),("at",.int 0),("minus",.int 1),("not",.int 1),("+",.int 2),("-",.int 2),("*",.int 2),("/",.int 2),("&",.int 2),("<",.int 2),("=",.int 2),("rest",.int 2),("if",.int 3),("else",.int 2),("sum",.int 0),("count",.int 0),("least",.int 0),("greatest",.int 0),("find",.int 1)]
def tblC:Tab:=[(("BadFormula","SheetError"),true)]
abbrev s__law_digit:Stmt:=top 48
noncomputable def g__law_digit:GS:=(gSeq (gSet 2 (gBin oMod (gBin oIx (gVar 0) (gC (.int 0))) (gVar 1)))
  (gSeq (gSetI (gBin oFdiv (gBin oIx (gVar 0) (gC (.int 0))) (gVar 1)) (gVar 0) (gC (.int 0)))
  (gRet (gVar 2))))
noncomputable def F__law_digit:List Wv → Hs → Re Wv:=fnF 3 g__law_digit
noncomputable def c__law_digit:Ct where
  N:=["own","many","digit"]
  names:=(defScope s__law_digit).names
  consts:=[]
  bl:=[]
  fns:=[]
  tb:=tbl
  tt:=tblT
  tc:=tblC
  clss:=[]
  cln:=[]
  dcs:=[]
  dts:=[]
  dks:=[]
theorem r__law_digit:compS 30 (c__law_digit) (defBody s__law_digit) = g__law_digit:=by kernel_rfl
theorem sc__law_digit:FnScope (c__law_digit).N ["own","many"] (defScope s__law_digit):=⟨rfl,rfl,rfl,by decide +kernel,rfl,by decide +kernel,by decide +kernel⟩
abbrev s__law_area:Stmt:=top 50
noncomputable def g__law_area:GS:=(gSeq (gSet 1 (gCall 2 F__law_digit (gCons (gVar 0) (gCons (gC (.int 99)) gNil))))
  (gSeq (gSet 2 (gCall 2 F__law_digit (gCons (gVar 0) (gCons (gC (.int 26)) gNil))))
  (gSeq (gSet 3 (gBin oAdd (gC (.int 1)) (gCall 2 F__law_digit (gCons (gVar 0) (gCons (gBin oSub (gC (.int 99)) (gVar 1)) gNil)))))
  (gSeq (gSet 4 (gBin oAdd (gC (.int 1)) (gCall 2 F__law_digit (gCons (gVar 0) (gCons (gCallB oMin2 (gCons (gBin oSub (gC (.int 26)) (gVar 2)) (gCons (gBin oFdiv (gC (.int 300)) (gVar 3)) gNil))) gNil)))))
  (gRet (gTup (gCons (gVar 1) (gCons (gVar 2) (gCons (gBin oSub (gBin oAdd (gVar 1) (gVar 3)) (gC (.int 1))) (gCons (gBin oSub (gBin oAdd (gVar 2) (gVar 4)) (gC (.int 1))) gNil))))))))))
noncomputable def F__law_area:List Wv → Hs → Re Wv:=fnF 5 g__law_area
noncomputable def c__law_area:Ct where
  N:=["own","top","left","high","wide"]
  names:=(defScope s__law_area).names
  consts:=[]
  bl:=["min"]
  fns:=[("_law_digit",2,F__law_digit)]
  tb:=tbl
  tt:=tblT
  tc:=tblC
  clss:=[]
  cln:=[]
  dcs:=[]
  dts:=[]
  dks:=[]
theorem r__law_area:compS 30 (c__law_area) (defBody s__law_area) = g__law_area:=by kernel_rfl
theorem sc__law_area:FnScope (c__law_area).N ["own"] (defScope s__law_area):=⟨rfl,rfl,rfl,by decide +kernel,rfl,by decide +kernel,by decide +kernel⟩
abbrev s__law_pins:Stmt:=top 51
noncomputable def g__law_pins_C1t:GT:=(fun _ st => .ok true st)
noncomputable def g__law_pins_C1e:GE:=(gCall 2 F__law_digit (gCons (gVar 1) (gCons (gC (.int 2)) gNil)))
noncomputable def g__law_pins:GS:=(gRet (gCallB oTupC (gCons (gComp [("own",0)] (giR1 (gCons (gVar 1) gNil)) g__law_pins_C1t g__law_pins_C1e) gNil)))
noncomputable def F__law_pins:List Wv → Hs → Re Wv:=fnF 2 g__law_pins
noncomputable def c__law_pins:Ct where
  N:=["own","many"]
  names:=(defScope s__law_pins).names
  consts:=[]
  bl:=["tuple","range"]
  fns:=[("_law_digit",2,F__law_digit)]
  tb:=tbl
  tt:=tblT
  tc:=tblC
  clss:=[]
  cln:=[]
  dcs:=[]
  dts:=[]
  dks:=[]
theorem r__law_pins:compS 30 (c__law_pins) (defBody s__law_pins) = g__law_pins:=by kernel_rfl
theorem sc__law_pins:FnScope (c__law_pins).N ["own","many"] (defScope s__law_pins):=⟨rfl,rfl,rfl,by decide +kernel,rfl,by decide +kernel,by decide +kernel⟩
abbrev s__law_leaf:Stmt:=top 52
noncomputable def g__law_leaf_C1t:GT:=(fun _ st => .ok true st)
noncomputable def g__law_leaf_C1e:GE:=(gBin oIx (gVar 1) (gCall 2 F__law_digit (gCons (gVar 2) (gCons (gCallB oLen (gCons (gVar 1) gNil)) gNil))))
noncomputable def g__law_leaf:GS:=(gSeq (gIf (gTst (gBin oEq (gVar 1) (gC (.int 0)))) (gRet (gTup (gCons (gC (.str "num")) (gCons (gCall 2 F__law_digit (gCons (gVar 0) (gCons (gBin oIx (gLst (gCons (gC (.int 10)) (gCons (gC (.int 1000)) (gCons (gBin oAdd (gBin oPow (gC (.int 10)) (gC (.int 60))) (gC (.int 1))) gNil)))) (gCall 2 F__law_digit (gCons (gVar 0) (gCons (gC (.int 3)) gNil)))) gNil))) gNil)))) gNext)
  (gSeq (gIf (gTst (gBin oEq (gVar 1) (gC (.int 1)))) (gSeq (gSet 2 (gC (.str "ab zCZ019(),+-*/&<=:$'!~_{}@#")))
    (gSeq (gSet 3 (gCall 2 F__law_digit (gCons (gVar 0) (gCons (gBin oIx (gLst (gCons (gC (.int 4)) (gCons (gC (.int 41)) gNil))) (gCall 2 F__law_digit (gCons (gVar 0) (gCons (gC (.int 2)) gNil)))) gNil))))
    (gRet (gTup (gCons (gC (.str "text")) (gCons (gMethS mJoin (gC (.str "")) (gCons (gComp [("signs",2),("own",0)] (giR1 (gCons (gVar 3) gNil)) g__law_leaf_C1t g__law_leaf_C1e) gNil)) gNil)))))) gNext)
  (gSeq (gIf (gTst (gBin oEq (gVar 1) (gC (.int 2)))) (gSeq (gSet 4 (gTup (gCons (gCall 2 F__law_digit (gCons (gVar 0) (gCons (gC (.int 99)) gNil))) (gCons (gCall 2 F__law_digit (gCons (gVar 0) (gCons (gC (.int 26)) gNil))) gNil))))
    (gRet (gTup (gCons (gC (.str "at")) (gCons (gVar 4) (gCons (gCall 2 F__law_pins (gCons (gVar 0) (gCons (gC (.int 2)) gNil))) gNil)))))) gNext)
  (gSeq (gIf (gTst (gBin oEq (gVar 1) (gC (.int 3)))) (gRet (gTup (gCons (gC (.str "lost")) gNil))) gNext)
  (gSeq (gSet 5 (gBin oIx (gLst (gCons (gC (.str "sum")) (gCons (gC (.str "count")) (gCons (gC (.str "least")) (gCons (gC (.str "greatest")) gNil))))) (gCall 2 F__law_digit (gCons (gVar 0) (gCons (gC (.int 4)) gNil)))))
  (gSeq (gSet 6 (gCall 1 F__law_area (gCons (gVar 0) gNil)))
  (gRet (gTup (gCons (gVar 5) (gCons (gVar 6) (gCons (gCall 2 F__law_pins (gCons (gVar 0) (gCons (gC (.int 4)) gNil))) gNil)))))))))))
noncomputable def F__law_leaf:List Wv → Hs → Re Wv:=fnF 7 g__law_leaf
noncomputable def c__law_leaf:Ct where
  N:=["own","kind","signs","many","place","word","area"]
  names:=(defScope s__law_leaf).names
  consts:=[]
  bl:=["range","len"]
  fns:=[("_law_area",1,F__law_area),("_law_digit",2,F__law_digit),("_law_pins",2,F__law_pins)]
  tb:=tbl
  tt:=tblT
  tc:=tblC
  clss:=[]
  cln:=[]
  dcs:=[]
  dts:=[]
  dks:=[]
theorem r__law_leaf:compS 30 (c__law_leaf) (defBody s__law_leaf) = g__law_leaf:=by kernel_rfl
theorem sc__law_leaf:FnScope (c__law_leaf).N ["own","kind"] (defScope s__law_leaf):=⟨rfl,rfl,rfl,by decide +kernel,rfl,by decide +kernel,by decide +kernel⟩
abbrev s__law_formula:Stmt:=top 53
noncomputable def g__law_formula_C1t (F__law_formula:List Wv → Hs → Re Wv):GT:=(fun _ st => .ok true st)
noncomputable def g__law_formula_C1e (F__law_formula:List Wv → Hs → Re Wv):GE:=(gCall 3 F__law_formula (gCons (gVar 1) (gCons (gBin oSub (gVar 2) (gC (.int 1))) (gCons (gVar 3) gNil))))
noncomputable def g__law_formula (F__law_formula:List Wv → Hs → Re Wv):GS:=(gSeq (gSet 3 (gCall 2 F__law_digit (gCons (gVar 0) (gCons (gC (.int 18)) gNil))))
  (gSeq (gSet 4 (gBin oIx (gLst (gCons (gC (.int 0)) (gCons (gC (.int 0)) (gCons (gC (.int 0)) (gCons (gC (.int 0)) (gCons (gC (.int 0)) (gCons (gC (.int 1)) (gCons (gC (.int 1)) (gCons (gC (.int 1)) (gCons (gC (.int 2)) (gCons (gC (.int 2)) (gCons (gC (.int 2)) (gCons (gC (.int 2)) (gCons (gC (.int 2)) (gCons (gC (.int 2)) (gCons (gC (.int 2)) (gCons (gC (.int 2)) (gCons (gC (.int 2)) (gCons (gC (.int 3)) gNil))))))))))))))))))) (gVar 3)))
  (gSeq (gIf (gOr (gTst (gBin oEq (gVar 1) (gC (.int 1)))) (gTst (gBin oLt (gBin oIx (gVar 2) (gC (.int 0))) (gVar 4)))) (gSeq (gSet 3 (gBin oMod (gVar 3) (gC (.int 5))))
    (gSet 4 (gC (.int 0)))) gNext)
  (gSeq (gSetI (gBin oSub (gBin oIx (gVar 2) (gC (.int 0))) (gVar 4)) (gVar 2) (gC (.int 0)))
  (gSeq (gSet 5 (gComp [("own",0),("deep",1),("room",2)] (giR1 (gCons (gVar 4) gNil)) (g__law_formula_C1t F__law_formula) (g__law_formula_C1e F__law_formula)))
  (gSeq (gIf (gTst (gBin oLt (gVar 3) (gC (.int 5)))) (gRet (gCall 2 F__law_leaf (gCons (gVar 0) (gCons (gVar 3) gNil)))) gNext)
  (gSeq (gIf (gTst (gBin oEq (gVar 3) (gC (.int 7)))) (gSeq (gSet 6 (gCall 1 F__law_area (gCons (gVar 0) gNil)))
    (gRet (gTup (gCons (gC (.str "find")) (gCons (gBin oIx (gVar 5) (gC (.int 0))) (gCons (gVar 6) (gCons (gCall 2 F__law_pins (gCons (gVar 0) (gCons (gC (.int 4)) gNil))) gNil))))))) gNext)
  (gSeq (gSet 7 (gLst (gCons (gC (.str "minus")) (gCons (gC (.str "not")) (gCons (gC (.str "find")) (gCons (gC (.str "+")) (gCons (gC (.str "-")) (gCons (gC (.str "*")) (gCons (gC (.str "/")) (gCons (gC (.str "&")) (gCons (gC (.str "<")) (gCons (gC (.str "=")) (gCons (gC (.str "rest")) (gCons (gC (.str "else")) (gCons (gC (.str "if")) gNil)))))))))))))))
  (gRet (gBin oAdd (gTup (gCons (gBin oIx (gVar 7) (gBin oSub (gVar 3) (gC (.int 5)))) gNil)) (gCallB oTupC (gCons (gVar 5) gNil))))))))))))
noncomputable def c__law_formula (F__law_formula:List Wv → Hs → Re Wv):Ct where
  N:=["own","deep","room","kind","need","parts","area","words"]
  names:=(defScope s__law_formula).names
  consts:=[]
  bl:=["tuple","range"]
  fns:=[("_law_digit",2,F__law_digit),("_law_formula",3,F__law_formula),("_law_leaf",2,F__law_leaf),("_law_area",1,F__law_area),("_law_pins",2,F__law_pins)]
  tb:=tbl
  tt:=tblT
  tc:=tblC
  clss:=[]
  cln:=[]
  dcs:=[]
  dts:=[]
  dks:=[]
theorem r__law_formula (F__law_formula:List Wv → Hs → Re Wv):compS 30 (c__law_formula F__law_formula) (defBody s__law_formula) = g__law_formula F__law_formula:=by kernel_rfl
theorem sc__law_formula (F__law_formula:List Wv → Hs → Re Wv):FnScope ["own","deep","room","kind","need","parts","area","words"] ["own","deep","room"] (defScope s__law_formula):=⟨rfl,rfl,rfl,by decide +kernel,rfl,by decide +kernel,by decide +kernel⟩
noncomputable def RR__law_formula:Nat → (List Wv → Hs → Re Wv)
  | 0 => fBad
  | n + 1 => fnF 8 (g__law_formula ((RR__law_formula n)))
noncomputable def R__law_formula (n:Nat):List Wv → Hs → Re Wv:=(RR__law_formula n)
theorem R__law_formula_succ (n:Nat):R__law_formula (n + 1) = fnF 8 (g__law_formula (R__law_formula n)):=rfl
noncomputable def F__law_formula:List Wv → Hs → Re Wv:=R__law_formula 14
abbrev s__law_odd:Stmt:=top 55
noncomputable def g__law_odd:GS:=(gSeq (gSet 1 (gTup (gCons (gC (.int 0)) (gCons (gC (.int 1)) (gCons (gC (.int 0)) (gCons (gC (.int 1)) gNil))))))
  (gSeq (gSet 2 (gTup (gCons (gC (.str "lost")) gNil)))
  (gSeq (gSet 3 (gCall 2 F__law_digit (gCons (gVar 0) (gCons (gBin oPow (gC (.int 10)) (gC (.int 30))) gNil))))
  (gSeq (gSet 4 (gLst (gCons (gTup (gCons (gC (.str "num")) gNil)) (gCons (gTup (gCons (gC (.str "num")) (gCons (gBin oSub (gUn opNeg (gC (.int 1))) (gVar 3)) gNil))) (gCons (gTup (gCons (gC (.str "num")) (gCons (gBin oAdd (gBin oAdd (gBin oPow (gC (.int 10)) (gC (.int 60))) (gC (.int 1))) (gVar 3)) gNil))) (gCons (gTup (gCons (gC (.str "num")) (gCons (gC (.str "1")) gNil))) (gCons (gTup (gCons (gC (.str "num")) (gCons (gC (.int 1)) (gCons (gC (.int 1)) gNil)))) (gCons (gTup (gCons (gC (.str "num")) (gCons (gTup (gCons (gC (.int 1)) gNil)) gNil))) gNil))))))))
  (gSeq (gSet 4 (gBin oAdd (gVar 4) (gLst (gCons (gTup (gCons (gC (.str "text")) (gCons (gBin oMulL (gC (.str "a")) (gC (.int 41))) gNil))) (gCons (gTup (gCons (gC (.str "text")) (gCons (gC (.str "a\"b")) gNil))) (gCons (gTup (gCons (gC (.str "text")) (gCons (gC (.int 1)) gNil))) (gCons (gTup (gCons (gC (.str "text")) gNil)) (gCons (gTup (gCons (gC (.str "lost")) (gCons (gC (.int 1)) gNil))) (gCons (gTup (gCons (gC (.str "at")) (gCons (gTup (gCons (gC (.int 99)) (gCons (gC (.int 0)) gNil))) (gCons (gTup (gCons (gC (.int 0)) (gCons (gC (.int 0)) gNil))) gNil)))) gNil)))))))))
  (gSeq (gSet 4 (gBin oAdd (gVar 4) (gLst (gCons (gTup (gCons (gC (.str "at")) (gCons (gTup (gCons (gC (.int 0)) (gCons (gC (.int 26)) gNil))) (gCons (gTup (gCons (gC (.int 0)) (gCons (gC (.int 0)) gNil))) gNil)))) (gCons (gTup (gCons (gC (.str "at")) (gCons (gTup (gCons (gUn opNeg (gC (.int 1))) (gCons (gC (.int 0)) gNil))) (gCons (gTup (gCons (gC (.int 0)) (gCons (gC (.int 0)) gNil))) gNil)))) (gCons (gTup (gCons (gC (.str "at")) (gCons (gTup (gCons (gC (.int 0)) (gCons (gC (.int 0)) gNil))) (gCons (gTup (gCons (gC (.int 2)) (gCons (gC (.int 0)) gNil))) gNil)))) (gCons (gTup (gCons (gC (.str "at")) (gCons (gTup (gCons (gC (.int 0)) (gCons (gC (.int 0)) gNil))) (gCons (gTup (gCons (gC (.int 0)) gNil)) gNil)))) gNil)))))))
  (gSeq (gSet 4 (gBin oAdd (gVar 4) (gLst (gCons (gTup (gCons (gC (.str "at")) (gCons (gTup (gCons (gC (.int 0)) (gCons (gC (.int 0)) gNil))) gNil))) (gCons (gTup (gCons (gC (.str "at")) (gCons (gTup (gCons (gC (.int 0)) (gCons (gC (.int 0)) (gCons (gC (.int 0)) gNil)))) (gCons (gTup (gCons (gC (.int 0)) (gCons (gC (.int 0)) gNil))) gNil)))) (gCons (gTup (gCons (gC (.str "at")) (gCons (gTup (gCons (gC (.int 0)) (gCons (gUn opNeg (gC (.int 1))) gNil))) (gCons (gTup (gCons (gC (.int 0)) (gCons (gC (.int 0)) gNil))) gNil)))) (gCons (gTup (gCons (gC (.str "at")) (gCons (gTup (gCons (gC (.int 0)) (gCons (gC (.int 0)) gNil))) (gCons (gTup (gCons (gC (.int 0)) (gCons (gUn opNeg (gC (.int 1))) gNil))) gNil)))) gNil)))))))
  (gSeq (gSet 4 (gBin oAdd (gVar 4) (gLst (gCons (gTup (gCons (gC (.str "sum")) (gCons (gTup (gCons (gC (.int 0)) (gCons (gC (.int 0)) (gCons (gC (.int 0)) gNil)))) (gCons (gVar 1) gNil)))) (gCons (gTup (gCons (gC (.str "sum")) (gCons (gTup (gCons (gC (.int 1)) (gCons (gC (.int 0)) (gCons (gC (.int 0)) (gCons (gC (.int 0)) gNil))))) (gCons (gVar 1) gNil)))) (gCons (gTup (gCons (gC (.str "sum")) (gCons (gTup (gCons (gC (.int 0)) (gCons (gC (.int 1)) (gCons (gC (.int 0)) (gCons (gC (.int 0)) gNil))))) (gCons (gVar 1) gNil)))) gNil))))))
  (gSeq (gSet 4 (gBin oAdd (gVar 4) (gLst (gCons (gTup (gCons (gC (.str "count")) (gCons (gTup (gCons (gC (.int 0)) (gCons (gC (.int 0)) (gCons (gC (.int 98)) (gCons (gC (.int 3)) gNil))))) (gCons (gVar 1) gNil)))) (gCons (gTup (gCons (gC (.str "count")) (gCons (gTup (gCons (gC (.int 0)) (gCons (gC (.int 0)) (gCons (gC (.int 99)) (gCons (gC (.int 0)) gNil))))) (gCons (gVar 1) gNil)))) (gCons (gTup (gCons (gC (.str "count")) (gCons (gTup (gCons (gC (.int 0)) (gCons (gC (.int 0)) (gCons (gC (.int 0)) (gCons (gC (.int 26)) gNil))))) (gCons (gVar 1) gNil)))) gNil))))))
  (gSeq (gSet 4 (gBin oAdd (gVar 4) (gLst (gCons (gTup (gCons (gC (.str "least")) (gCons (gTup (gCons (gC (.int 0)) (gCons (gC (.int 0)) (gCons (gC (.int 11)) (gCons (gC (.int 25)) gNil))))) (gCons (gVar 1) gNil)))) (gCons (gTup (gCons (gC (.str "least")) (gCons (gTup (gCons (gC (.int 0)) (gCons (gC (.int 0)) (gCons (gC (.int 0)) (gCons (gC (.int 0)) gNil))))) (gCons (gTup (gCons (gC (.int 0)) (gCons (gC (.int 0)) (gCons (gC (.int 0)) gNil)))) gNil)))) (gCons (gTup (gCons (gC (.str "least")) (gCons (gTup (gCons (gC (.int 0)) (gCons (gC (.int 0)) (gCons (gC (.int 0)) (gCons (gC (.int 0)) gNil))))) gNil))) gNil))))))
  (gSeq (gSet 4 (gBin oAdd (gVar 4) (gLst (gCons (gTup (gCons (gC (.str "greatest")) (gCons (gTup (gCons (gC (.int 0)) (gCons (gC (.int 0)) (gCons (gC (.int 0)) (gCons (gC (.int 0)) gNil))))) (gCons (gTup (gCons (gC (.int 0)) (gCons (gC (.int 0)) (gCons (gC (.int 0)) (gCons (gUn opNeg (gC (.int 1))) gNil))))) gNil)))) (gCons (gTup (gCons (gC (.str "greatest")) (gCons (gVar 2) (gCons (gVar 1) gNil)))) (gCons (gTup (gCons (gC (.str "find")) (gCons (gTup (gCons (gC (.int 0)) (gCons (gC (.int 0)) (gCons (gC (.int 0)) (gCons (gC (.int 0)) gNil))))) (gCons (gVar 1) gNil)))) gNil))))))
  (gSeq (gSet 4 (gBin oAdd (gVar 4) (gLst (gCons (gTup (gCons (gC (.str "find")) (gCons (gVar 2) (gCons (gTup (gCons (gC (.int 0)) (gCons (gC (.int 0)) (gCons (gC (.int 0)) (gCons (gC (.int 0)) gNil))))) gNil)))) (gCons (gTup (gCons (gC (.str "find")) (gCons (gVar 2) (gCons (gTup (gCons (gC (.int 0)) (gCons (gC (.int 0)) gNil))) (gCons (gVar 1) gNil))))) (gCons (gTup (gCons (gC (.str "find")) (gCons (gVar 2) (gCons (gVar 2) (gCons (gVar 1) gNil))))) gNil))))))
  (gSeq (gSet 4 (gBin oAdd (gVar 4) (gLst (gCons (gTup (gCons (gC (.str "plus")) (gCons (gVar 2) (gCons (gVar 2) gNil)))) (gCons (gTup (gCons (gC (.str "+")) (gCons (gVar 2) gNil))) (gCons (gTup (gCons (gC (.str "-")) (gCons (gVar 2) gNil))) (gCons (gTup (gCons (gC (.str "minus")) (gCons (gVar 2) (gCons (gVar 2) gNil)))) (gCons (gTup (gCons (gC (.str "minus")) gNil)) (gCons (gTup (gCons (gC (.str "not")) (gCons (gVar 2) (gCons (gVar 2) gNil)))) gNil)))))))))
  (gSeq (gSet 4 (gBin oAdd (gVar 4) (gLst (gCons (gTup (gCons (gC (.str "if")) (gCons (gVar 2) (gCons (gVar 2) gNil)))) (gCons (gTup (gCons (gC (.str "if")) (gCons (gVar 2) (gCons (gVar 2) (gCons (gVar 2) (gCons (gVar 2) gNil)))))) (gCons (gTup (gCons (gC (.str "else")) (gCons (gVar 2) gNil))) (gCons (gTup (gCons (gC (.str "rest")) (gCons (gVar 2) gNil))) gNil)))))))
  (gSeq (gExpr (gMeth mApp (gVar 4) (gTup (gCons (gC (.str "<")) (gCons (gVar 2) (gCons (gVar 2) (gCons (gVar 2) gNil)))))))
  (gSeq (gSet 4 (gBin oAdd (gVar 4) (gLst (gCons (gTup gNil) (gCons (gTup (gCons (gC (.int 1)) (gCons (gC (.int 2)) gNil))) (gCons (gTup (gCons (gVar 2) (gCons (gVar 2) gNil))) (gCons (gTup (gCons (gC (.str "")) gNil)) (gCons (gTup (gCons (gC (.str "SUM")) (gCons (gTup (gCons (gC (.int 0)) (gCons (gC (.int 0)) (gCons (gC (.int 0)) (gCons (gC (.int 0)) gNil))))) (gCons (gVar 1) gNil)))) (gCons (gTup (gCons (gC (.str "average")) (gCons (gTup (gCons (gC (.int 0)) (gCons (gC (.int 0)) (gCons (gC (.int 0)) (gCons (gC (.int 0)) gNil))))) (gCons (gVar 1) gNil)))) (gCons (gTup (gCons (gVar 3) gNil)) gNil))))))))))
  (gSeq (gSet 4 (gBin oAdd (gVar 4) (gLst (gCons (gTup (gCons (gC (.str "minus")) (gCons (gC (.str "lost")) gNil))) (gCons (gTup (gCons (gC (.str "+")) (gCons (gC (.int 1)) (gCons (gVar 2) gNil)))) (gCons (gTup (gCons (gC (.str "=")) (gCons (gVar 2) (gCons (gC (.str "a")) gNil)))) (gCons (gTup (gCons (gC (.str "lost")) (gCons (gVar 2) gNil))) (gCons (gTup (gCons (gC (.str "text")) (gCons (gC (.str "\t")) gNil))) (gCons (gTup (gCons (gC (.str "text")) (gCons (gC (.str "a\nb")) gNil))) gNil)))))))))
  (gRet (gBin oIx (gVar 4) (gCall 2 F__law_digit (gCons (gVar 0) (gCons (gCallB oLen (gCons (gVar 4) gNil)) gNil))))))))))))))))))))))
noncomputable def F__law_odd:List Wv → Hs → Re Wv:=fnF 5 g__law_odd
noncomputable def c__law_odd:Ct where
  N:=["own","pins","lost","far","odd"]
  names:=(defScope s__law_odd).names
  consts:=[]
  bl:=["len"]
  fns:=[("_law_digit",2,F__law_digit)]
  tb:=tbl
  tt:=tblT
  tc:=tblC
  clss:=[]
  cln:=[]
  dcs:=[]
  dts:=[]
  dks:=[]
theorem r__law_odd:compS 30 (c__law_odd) (defBody s__law_odd) = g__law_odd:=by kernel_rfl
theorem sc__law_odd:FnScope (c__law_odd).N ["own"] (defScope s__law_odd):=⟨rfl,rfl,rfl,by decide +kernel,rfl,by decide +kernel,by decide +kernel⟩
abbrev s__law_spoiled:Stmt:=top 56
noncomputable def g__law_spoiled_C1t (F__law_spoiled:List Wv → Hs → Re Wv):GT:=(gTru (gCallB (oIsA tbl tblT) (gCons (gBin oIx (gBin oIx (gVar 1) (gVar 0)) (gC (.int 0))) (gCons (gC (.ty "str")) gNil))))
noncomputable def g__law_spoiled_C1e (F__law_spoiled:List Wv → Hs → Re Wv):GE:=(gVar 0)
noncomputable def g__law_spoiled_C2t (F__law_spoiled:List Wv → Hs → Re Wv):GT:=(gAnd (gTru (gCallB (oIsA tbl tblT) (gCons (gBin oIx (gVar 1) (gVar 0)) (gCons (gC (.ty "tuple")) gNil)))) (gTst (gBin oGt (gCallB oLen (gCons (gBin oIx (gVar 1) (gVar 0)) gNil)) (gC (.int 0)))))
noncomputable def g__law_spoiled_C2e (F__law_spoiled:List Wv → Hs → Re Wv):GE:=(gVar 0)
noncomputable def g__law_spoiled (F__law_spoiled:List Wv → Hs → Re Wv):GS:=(gSeq (gSet 2 (gComp [("formula",0)] (giR2 (gCons (gC (.int 1)) (gCons (gCallB oLen (gCons (gVar 0) gNil)) gNil))) (g__law_spoiled_C2t F__law_spoiled) (g__law_spoiled_C2e F__law_spoiled)))
  (gSeq (gSet 2 (gComp [("formula",0)] (giSeq2 (gVar 2)) (g__law_spoiled_C1t F__law_spoiled) (g__law_spoiled_C1e F__law_spoiled)))
  (gSeq (gSet 3 (gCall 2 F__law_digit (gCons (gVar 1) (gCons (gC (.int 4)) gNil))))
  (gSeq (gIf (gOr (gTst (gBin oEq (gVar 2) (gLst gNil))) (gTst (gBin oEq (gVar 3) (gC (.int 0))))) (gRet (gCall 1 F__law_odd (gCons (gVar 1) gNil))) gNext)
  (gSeq (gSet 4 (gBin oIx (gVar 2) (gCall 2 F__law_digit (gCons (gVar 1) (gCons (gCallB oLen (gCons (gVar 2) gNil)) gNil)))))
  (gSeq (gSet 5 (gCall 2 F__law_spoiled (gCons (gBin oIx (gVar 0) (gVar 4)) (gCons (gVar 1) gNil))))
  (gSeq (gIf (gTst (gBin oEq (gVar 3) (gC (.int 1)))) (gSet 5 (gBin oIx (gLst (gCons (gC (.int 7)) (gCons (gC (.str "a1")) (gCons (gTup gNil) (gCons (gTup (gCons (gC (.int 0)) (gCons (gC (.int 0)) gNil))) gNil))))) (gCall 2 F__law_digit (gCons (gVar 1) (gCons (gC (.int 4)) gNil))))) gNext)
  (gRet (gBin oAdd (gBin oAdd (gSlice2 (gVar 0) gNoPart (gPart (gVar 4))) (gTup (gCons (gVar 5) gNil))) (gSlice2 (gVar 0) (gPart (gBin oAdd (gVar 4) (gC (.int 1)))) gNoPart))))))))))
noncomputable def c__law_spoiled (F__law_spoiled:List Wv → Hs → Re Wv):Ct where
  N:=["formula","own","inner","way","at","part"]
  names:=(defScope s__law_spoiled).names
  consts:=[]
  bl:=["range","isinstance","str","len","tuple"]
  fns:=[("_law_digit",2,F__law_digit),("_law_spoiled",2,F__law_spoiled),("_law_odd",1,F__law_odd)]
  tb:=tbl
  tt:=tblT
  tc:=tblC
  clss:=[]
  cln:=[]
  dcs:=[]
  dts:=[]
  dks:=[]
theorem r__law_spoiled (F__law_spoiled:List Wv → Hs → Re Wv):compS 30 (c__law_spoiled F__law_spoiled) (defBody s__law_spoiled) = g__law_spoiled F__law_spoiled:=by kernel_rfl
theorem sc__law_spoiled (F__law_spoiled:List Wv → Hs → Re Wv):FnScope ["formula","own","inner","way","at","part"] ["formula","own"] (defScope s__law_spoiled):=⟨rfl,rfl,rfl,by decide +kernel,rfl,by decide +kernel,by decide +kernel⟩
noncomputable def RR__law_spoiled:Nat → (List Wv → Hs → Re Wv)
  | 0 => fBad
  | n + 1 => fnF 6 (g__law_spoiled ((RR__law_spoiled n)))
noncomputable def R__law_spoiled (n:Nat):List Wv → Hs → Re Wv:=(RR__law_spoiled n)
theorem R__law_spoiled_succ (n:Nat):R__law_spoiled (n + 1) = fnF 6 (g__law_spoiled (R__law_spoiled n)):=rfl
noncomputable def F__law_spoiled:List Wv → Hs → Re Wv:=R__law_spoiled 14
abbrev s__law_own:Stmt:=top 49
noncomputable def g__law_own_L1:GS:=(gSeq (gSet 2 (gBin oMod (gBin oAdd (gBin oAdd (gBin oMulL (gVar 2) (gVar 2)) (gBin oMulL (gC (.int 977)) (gVar 3))) (gC (.int 1))) (gC (.int 2147483647))))
  (gSet 1 (gBin oAdd (gBin oMulL (gVar 1) (gC (.int 268435399))) (gBin oFdiv (gBin oMod (gBin oMulL (gVar 2) (gC (.int 69621))) (gC (.int 2147483647))) (gC (.int 8))))))
noncomputable def g__law_own:GS:=(gSeq (gSet 0 (gCallB oAbs (gCons (gVar 0) gNil)))
  (gSeq (gIf (gTst (gBin oEq (gBin oMod (gVar 0) (gC (.int 2))) (gC (.int 1)))) (gRet (gLst (gCons (gBin oFdiv (gVar 0) (gC (.int 2))) gNil))) gNext)
  (gSeq (gSet 1 (gC (.int 0)))
  (gSeq (gSet 2 (gBin oAdd (gBin oMod (gBin oFdiv (gVar 0) (gC (.int 2))) (gC (.int 2147483629))) (gC (.int 1))))
  (gSeq (gForR1 3 (gCons (gC (.int 60)) gNil) g__law_own_L1)
  (gRet (gLst (gCons (gVar 1) gNil))))))))
noncomputable def F__law_own:List Wv → Hs → Re Wv:=fnF 4 g__law_own
noncomputable def c__law_own:Ct where
  N:=["cell","great","stir","k"]
  names:=(defScope s__law_own).names
  consts:=[]
  bl:=["abs","range"]
  fns:=[]
  tb:=tbl
  tt:=tblT
  tc:=tblC
  clss:=[]
  cln:=[]
  dcs:=[]
  dts:=[]
  dks:=[]
theorem r__law_own:compS 30 (c__law_own) (defBody s__law_own) = g__law_own:=by kernel_rfl
theorem sc__law_own:FnScope (c__law_own).N ["cell"] (defScope s__law_own):=⟨rfl,rfl,rfl,by decide +kernel,rfl,by decide +kernel,by decide +kernel⟩
abbrev s_part_many:Stmt:=top 33
noncomputable def g_part_many:GS:=(gRet (gDcIx d_PART_COUNTS (gVar 0)))
noncomputable def F_part_many:List Wv → Hs → Re Wv:=fnF 1 g_part_many
noncomputable def c_part_many:Ct where
  N:=["word"]
  names:=(defScope s_part_many).names
  consts:=[]
  bl:=[]
  fns:=[]
  tb:=tbl
  tt:=tblT
  tc:=tblC
  clss:=[]
  cln:=[]
  dcs:=[("PART_COUNTS",d_PART_COUNTS)]
  dts:=[]
  dks:=[]
theorem r_part_many:compS 30 (c_part_many) (defBody s_part_many) = g_part_many:=by kernel_rfl
theorem sc_part_many:FnScope (c_part_many).N ["word"] (defScope s_part_many):=⟨rfl,rfl,rfl,by decide +kernel,rfl,by decide +kernel,by decide +kernel⟩
abbrev s_parts_of:Stmt:=top 35
noncomputable def g_parts_of:GS:=(gRet (gSlice2 (gVar 0) (gPart (gC (.int 1))) (gPart (gBin oAdd (gC (.int 1)) (gCall 1 F_part_many (gCons (gBin oIx (gVar 0) (gC (.int 0))) gNil))))))
noncomputable def F_parts_of:List Wv → Hs → Re Wv:=fnF 1 g_parts_of
noncomputable def c_parts_of:Ct where
  N:=["formula"]
  names:=(defScope s_parts_of).names
  consts:=[]
  bl:=[]
  fns:=[("part_many",1,F_part_many)]
  tb:=tbl
  tt:=tblT
  tc:=tblC
  clss:=[]
  cln:=[]
  dcs:=[]
  dts:=[]
  dks:=[]
theorem r_parts_of:compS 30 (c_parts_of) (defBody s_parts_of) = g_parts_of:=by kernel_rfl
theorem sc_parts_of:FnScope (c_parts_of).N ["formula"] (defScope s_parts_of):=⟨rfl,rfl,rfl,by decide +kernel,rfl,by decide +kernel,by decide +kernel⟩
abbrev s_level_below:Stmt:=top 46
noncomputable def g_level_below_L1:GS:=(gExpr (gMeth mExtT (gVar 1) (gCall 1 F_parts_of (gCons (gVar 2) gNil))))
noncomputable def g_level_below:GS:=(gSeq (gSet 1 (gLst gNil))
  (gSeq (gFor 2 (gVar 0) g_level_below_L1)
  (gRet (gVar 1))))
noncomputable def F_level_below:List Wv → Hs → Re Wv:=fnF 3 g_level_below
noncomputable def c_level_below:Ct where
  N:=["level","parts","piece"]
  names:=(defScope s_level_below).names
  consts:=[]
  bl:=[]
  fns:=[("parts_of",1,F_parts_of)]
  tb:=tbl
  tt:=tblT
  tc:=tblC
  clss:=[]
  cln:=[]
  dcs:=[]
  dts:=[]
  dks:=[]
theorem r_level_below:compS 30 (c_level_below) (defBody s_level_below) = g_level_below:=by kernel_rfl
theorem sc_level_below:FnScope (c_level_below).N ["level"] (defScope s_level_below):=⟨rfl,rfl,rfl,by decide +kernel,rfl,by decide +kernel,by decide +kernel⟩
abbrev s_has_area:Stmt:=top 34
noncomputable def g_has_area:GS:=(gRet (gBin oIn2 (gVar 0) (gC (.ktp [.str "sum",.str "count",.str "least",.str "greatest",.str "find"]))))
noncomputable def F_has_area:List Wv → Hs → Re Wv:=fnF 1 g_has_area
noncomputable def c_has_area:Ct where
  N:=["word"]
  names:=(defScope s_has_area).names
  consts:=[("AREA_WORDS",(.ktp [.str "sum",.str "count",.str "least",.str "greatest",.str "find"]))]
  bl:=[]
  fns:=[]
  tb:=tbl
  tt:=tblT
  tc:=tblC
  clss:=[]
  cln:=[]
  dcs:=[]
  dts:=[]
  dks:=[]
theorem r_has_area:compS 30 (c_has_area) (defBody s_has_area) = g_has_area:=by kernel_rfl
theorem sc_has_area:FnScope (c_has_area).N ["word"] (defScope s_has_area):=⟨rfl,rfl,rfl,by decide +kernel,rfl,by decide +kernel,by decide +kernel⟩
abbrev s_is_whole:Stmt:=top 37
noncomputable def g_is_whole:GS:=(gRet (gAndV (gCallB (oIsA tbl tblT) (gCons (gVar 0) (gCons (gC (.ty "int")) gNil))) (gNotV (gCallB (oIsA tbl tblT) (gCons (gVar 0) (gCons (gC (.ty "bool")) gNil))))))
noncomputable def F_is_whole:List Wv → Hs → Re Wv:=fnF 1 g_is_whole
noncomputable def c_is_whole:Ct where
  N:=["thing"]
  names:=(defScope s_is_whole).names
  consts:=[]
  bl:=["isinstance","int","bool"]
  fns:=[]
  tb:=tbl
  tt:=tblT
  tc:=tblC
  clss:=[]
  cln:=[]
  dcs:=[]
  dts:=[]
  dks:=[]
theorem r_is_whole:compS 30 (c_is_whole) (defBody s_is_whole) = g_is_whole:=by kernel_rfl
theorem sc_is_whole:FnScope (c_is_whole).N ["thing"] (defScope s_is_whole):=⟨rfl,rfl,rfl,by decide +kernel,rfl,by decide +kernel,by decide +kernel⟩
abbrev s_is_text_sign:Stmt:=top 40
noncomputable def g_is_text_sign:GS:=(gRet (gAndV (gChain oLe oLe (gC (.int 32)) (gVar 0) (gC (.int 126))) (gAndV (gBin oNe (gVar 0) (gC (.int 34))) (gBin oNe (gVar 0) (gC (.int 37))))))
noncomputable def F_is_text_sign:List Wv → Hs → Re Wv:=fnF 1 g_is_text_sign
noncomputable def c_is_text_sign:Ct where
  N:=["number"]
  names:=(defScope s_is_text_sign).names
  consts:=[]
  bl:=[]
  fns:=[]
  tb:=tbl
  tt:=tblT
  tc:=tblC
  clss:=[]
  cln:=[]
  dcs:=[]
  dts:=[]
  dks:=[]
theorem r_is_text_sign:compS 30 (c_is_text_sign) (defBody s_is_text_sign) = g_is_text_sign:=by kernel_rfl
theorem sc_is_text_sign:FnScope (c_is_text_sign).N ["number"] (defScope s_is_text_sign):=⟨rfl,rfl,rfl,by decide +kernel,rfl,by decide +kernel,by decide +kernel⟩
abbrev s_has_text_signs:Stmt:=top 39
noncomputable def g_has_text_signs_C1t:GT:=(fun _ st => .ok true st)
noncomputable def g_has_text_signs_C1e:GE:=(gCall 1 F_is_text_sign (gCons (gCallB oOrd (gCons (gVar 0) gNil)) gNil))
noncomputable def g_has_text_signs:GS:=(gRet (gCallB oAll (gCons (gComp [] (giSeq2 (gVar 0)) g_has_text_signs_C1t g_has_text_signs_C1e) gNil)))
noncomputable def F_has_text_signs:List Wv → Hs → Re Wv:=fnF 1 g_has_text_signs
noncomputable def c_has_text_signs:Ct where
  N:=["text"]
  names:=(defScope s_has_text_signs).names
  consts:=[]
  bl:=["all","ord"]
  fns:=[("is_text_sign",1,F_is_text_sign)]
  tb:=tbl
  tt:=tblT
  tc:=tblC
  clss:=[]
  cln:=[]
  dcs:=[]
  dts:=[]
  dks:=[]
theorem r_has_text_signs:compS 30 (c_has_text_signs) (defBody s_has_text_signs) = g_has_text_signs:=by kernel_rfl
theorem sc_has_text_signs:FnScope (c_has_text_signs).N ["text"] (defScope s_has_text_signs):=⟨rfl,rfl,rfl,by decide +kernel,rfl,by decide +kernel,by decide +kernel⟩
abbrev s_is_text:Stmt:=top 38
noncomputable def g_is_text:GS:=(gRet (gAndV (gCallB (oIsA tbl tblT) (gCons (gVar 0) (gCons (gC (.ty "str")) gNil))) (gAndV (gBin oLe (gCallB oLen (gCons (gVar 0) gNil)) (gC (.int 40))) (gCall 1 F_has_text_signs (gCons (gVar 0) gNil)))))
noncomputable def F_is_text:List Wv → Hs → Re Wv:=fnF 1 g_is_text
noncomputable def c_is_text:Ct where
  N:=["thing"]
  names:=(defScope s_is_text).names
  consts:=[("MOST_SIGNS",(.int 40))]
  bl:=["isinstance","str","len"]
  fns:=[("has_text_signs",1,F_has_text_signs)]
  tb:=tbl
  tt:=tblT
  tc:=tblC
  clss:=[]
  cln:=[]
  dcs:=[]
  dts:=[]
  dks:=[]
theorem r_is_text:compS 30 (c_is_text) (defBody s_is_text) = g_is_text:=by kernel_rfl
theorem sc_is_text:FnScope (c_is_text).N ["thing"] (defScope s_is_text):=⟨rfl,rfl,rfl,by decide +kernel,rfl,by decide +kernel,by decide +kernel⟩
abbrev s_is_number_row:Stmt:=top 41
noncomputable def g_is_number_row_C1t:GT:=(fun _ st => .ok true st)
noncomputable def g_is_number_row_C1e:GE:=(gCall 1 F_is_whole (gCons (gVar 0) gNil))
noncomputable def g_is_number_row:GS:=(gRet (gAndV (gCallB (oIsA tbl tblT) (gCons (gVar 0) (gCons (gC (.ty "tuple")) gNil))) (gAndV (gBin oEq (gCallB oLen (gCons (gVar 0) gNil)) (gVar 1)) (gCallB oAll (gCons (gComp [] (giSeq2 (gVar 0)) g_is_number_row_C1t g_is_number_row_C1e) gNil)))))
noncomputable def F_is_number_row:List Wv → Hs → Re Wv:=fnF 2 g_is_number_row
noncomputable def c_is_number_row:Ct where
  N:=["thing","many"]
  names:=(defScope s_is_number_row).names
  consts:=[]
  bl:=["isinstance","tuple","all","len"]
  fns:=[("is_whole",1,F_is_whole)]
  tb:=tbl
  tt:=tblT
  tc:=tblC
  clss:=[]
  cln:=[]
  dcs:=[]
  dts:=[]
  dks:=[]
theorem r_is_number_row:compS 30 (c_is_number_row) (defBody s_is_number_row) = g_is_number_row:=by kernel_rfl
theorem sc_is_number_row:FnScope (c_is_number_row).N ["thing","many"] (defScope s_is_number_row):=⟨rfl,rfl,rfl,by decide +kernel,rfl,by decide +kernel,by decide +kernel⟩
abbrev s_is_place:Stmt:=top 21
noncomputable def g_is_place:GS:=(gRet (gAndV (gChain oLe oLt (gC (.int 0)) (gBin oIx (gVar 0) (gC (.int 0))) (gC (.int 99))) (gChain oLe oLt (gC (.int 0)) (gBin oIx (gVar 0) (gC (.int 1))) (gC (.int 26)))))
noncomputable def F_is_place:List Wv → Hs → Re Wv:=fnF 1 g_is_place
noncomputable def c_is_place:Ct where
  N:=["place"]
  names:=(defScope s_is_place).names
  consts:=[("ROWS",(.int 99)),("COLUMNS",(.int 26))]
  bl:=[]
  fns:=[]
  tb:=tbl
  tt:=tblT
  tc:=tblC
  clss:=[]
  cln:=[]
  dcs:=[]
  dts:=[]
  dks:=[]
theorem r_is_place:compS 30 (c_is_place) (defBody s_is_place) = g_is_place:=by kernel_rfl
theorem sc_is_place:FnScope (c_is_place).N ["place"] (defScope s_is_place):=⟨rfl,rfl,rfl,by decide +kernel,rfl,by decide +kernel,by decide +kernel⟩
abbrev s_are_pins:Stmt:=top 42
noncomputable def g_are_pins_C1t:GT:=(fun _ st => .ok true st)
noncomputable def g_are_pins_C1e:GE:=(gBin oIn2 (gVar 0) (gTup (gCons (gC (.int 0)) (gCons (gC (.int 1)) gNil))))
noncomputable def g_are_pins:GS:=(gRet (gAndV (gCall 2 F_is_number_row (gCons (gVar 0) (gCons (gVar 1) gNil))) (gCallB oAll (gCons (gComp [] (giSeq2 (gVar 0)) g_are_pins_C1t g_are_pins_C1e) gNil))))
noncomputable def F_are_pins:List Wv → Hs → Re Wv:=fnF 2 g_are_pins
noncomputable def c_are_pins:Ct where
  N:=["thing","many"]
  names:=(defScope s_are_pins).names
  consts:=[]
  bl:=["all"]
  fns:=[("is_number_row",2,F_is_number_row)]
  tb:=tbl
  tt:=tblT
  tc:=tblC
  clss:=[]
  cln:=[]
  dcs:=[]
  dts:=[]
  dks:=[]
theorem r_are_pins:compS 30 (c_are_pins) (defBody s_are_pins) = g_are_pins:=by kernel_rfl
theorem sc_are_pins:FnScope (c_are_pins).N ["thing","many"] (defScope s_are_pins):=⟨rfl,rfl,rfl,by decide +kernel,rfl,by decide +kernel,by decide +kernel⟩
abbrev s_has_corners:Stmt:=top 25
noncomputable def g_has_corners:GS:=(gSeq (gSet 1 (gAndV (gBin oLe (gBin oIx (gVar 0) (gC (.int 0))) (gBin oIx (gVar 0) (gC (.int 2)))) (gBin oLe (gBin oIx (gVar 0) (gC (.int 1))) (gBin oIx (gVar 0) (gC (.int 3))))))
  (gRet (gAndV (gVar 1) (gAndV (gCall 1 F_is_place (gCons (gSlice2 (gVar 0) gNoPart (gPart (gC (.int 2)))) gNil)) (gCall 1 F_is_place (gCons (gSlice2 (gVar 0) (gPart (gC (.int 2))) gNoPart) gNil))))))
noncomputable def F_has_corners:List Wv → Hs → Re Wv:=fnF 2 g_has_corners
noncomputable def c_has_corners:Ct where
  N:=["area","in_order"]
  names:=(defScope s_has_corners).names
  consts:=[]
  bl:=[]
  fns:=[("is_place",1,F_is_place)]
  tb:=tbl
  tt:=tblT
  tc:=tblC
  clss:=[]
  cln:=[]
  dcs:=[]
  dts:=[]
  dks:=[]
theorem r_has_corners:compS 30 (c_has_corners) (defBody s_has_corners) = g_has_corners:=by kernel_rfl
theorem sc_has_corners:FnScope (c_has_corners).N ["area"] (defScope s_has_corners):=⟨rfl,rfl,rfl,by decide +kernel,rfl,by decide +kernel,by decide +kernel⟩
abbrev s_area_many:Stmt:=top 26
noncomputable def g_area_many:GS:=(gRet (gBin oMulL (gBin oAdd (gBin oSub (gBin oIx (gVar 0) (gC (.int 2))) (gBin oIx (gVar 0) (gC (.int 0)))) (gC (.int 1))) (gBin oAdd (gBin oSub (gBin oIx (gVar 0) (gC (.int 3))) (gBin oIx (gVar 0) (gC (.int 1)))) (gC (.int 1)))))
noncomputable def F_area_many:List Wv → Hs → Re Wv:=fnF 1 g_area_many
noncomputable def c_area_many:Ct where
  N:=["area"]
  names:=(defScope s_area_many).names
  consts:=[]
  bl:=[]
  fns:=[]
  tb:=tbl
  tt:=tblT
  tc:=tblC
  clss:=[]
  cln:=[]
  dcs:=[]
  dts:=[]
  dks:=[]
theorem r_area_many:compS 30 (c_area_many) (defBody s_area_many) = g_area_many:=by kernel_rfl
theorem sc_area_many:FnScope (c_area_many).N ["area"] (defScope s_area_many):=⟨rfl,rfl,rfl,by decide +kernel,rfl,by decide +kernel,by decide +kernel⟩
abbrev s_is_area:Stmt:=top 24
noncomputable def g_is_area:GS:=(gRet (gAndV (gCall 1 F_has_corners (gCons (gVar 0) gNil)) (gBin oLe (gCall 1 F_area_many (gCons (gVar 0) gNil)) (gC (.int 300)))))
noncomputable def F_is_area:List Wv → Hs → Re Wv:=fnF 1 g_is_area
noncomputable def c_is_area:Ct where
  N:=["area"]
  names:=(defScope s_is_area).names
  consts:=[("MOST_PLACES",(.int 300))]
  bl:=[]
  fns:=[("has_corners",1,F_has_corners),("area_many",1,F_area_many)]
  tb:=tbl
  tt:=tblT
  tc:=tblC
  clss:=[]
  cln:=[]
  dcs:=[]
  dts:=[]
  dks:=[]
theorem r_is_area:compS 30 (c_is_area) (defBody s_is_area) = g_is_area:=by kernel_rfl
theorem sc_is_area:FnScope (c_is_area).N ["area"] (defScope s_is_area):=⟨rfl,rfl,rfl,by decide +kernel,rfl,by decide +kernel,by decide +kernel⟩
abbrev s_is_tail:Stmt:=top 43
noncomputable def g_is_tail:GS:=(gSeq (gIf (gTst (gBin oEq (gVar 0) (gC (.str "num")))) (gRet (gAndV (gBin oEq (gCallB oLen (gCons (gVar 1) gNil)) (gC (.int 1))) (gAndV (gCall 1 F_is_whole (gCons (gBin oIx (gVar 1) (gC (.int 0))) gNil)) (gChain oLe oLe (gC (.int 0)) (gBin oIx (gVar 1) (gC (.int 0))) (gBin oPow (gC (.int 10)) (gC (.int 60))))))) gNext)
  (gSeq (gIf (gTst (gBin oEq (gVar 0) (gC (.str "text")))) (gRet (gAndV (gBin oEq (gCallB oLen (gCons (gVar 1) gNil)) (gC (.int 1))) (gCall 1 F_is_text (gCons (gBin oIx (gVar 1) (gC (.int 0))) gNil)))) gNext)
  (gSeq (gIf (gTst (gBin oEq (gVar 0) (gC (.str "at")))) (gRet (gAndV (gBin oEq (gCallB oLen (gCons (gVar 1) gNil)) (gC (.int 2))) (gAndV (gCall 2 F_is_number_row (gCons (gBin oIx (gVar 1) (gC (.int 0))) (gCons (gC (.int 2)) gNil))) (gAndV (gCall 1 F_is_place (gCons (gBin oIx (gVar 1) (gC (.int 0))) gNil)) (gCall 2 F_are_pins (gCons (gBin oIx (gVar 1) (gC (.int 1))) (gCons (gC (.int 2)) gNil))))))) gNext)
  (gSeq (gIf (gTru (gCall 1 F_has_area (gCons (gVar 0) gNil))) (gRet (gAndV (gBin oEq (gCallB oLen (gCons (gVar 1) gNil)) (gC (.int 2))) (gAndV (gCall 2 F_is_number_row (gCons (gBin oIx (gVar 1) (gC (.int 0))) (gCons (gC (.int 4)) gNil))) (gAndV (gCall 1 F_is_area (gCons (gBin oIx (gVar 1) (gC (.int 0))) gNil)) (gCall 2 F_are_pins (gCons (gBin oIx (gVar 1) (gC (.int 1))) (gCons (gC (.int 4)) gNil))))))) gNext)
  (gRet (gBin oEq (gCallB oLen (gCons (gVar 1) gNil)) (gC (.int 0))))))))
noncomputable def F_is_tail:List Wv → Hs → Re Wv:=fnF 2 g_is_tail
noncomputable def c_is_tail:Ct where
  N:=["word","tail"]
  names:=(defScope s_is_tail).names
  consts:=[]
  bl:=["len"]
  fns:=[("has_area",1,F_has_area),("is_whole",1,F_is_whole),("is_text",1,F_is_text),("is_number_row",2,F_is_number_row),("is_place",1,F_is_place),("are_pins",2,F_are_pins),("is_area",1,F_is_area)]
  tb:=tbl
  tt:=tblT
  tc:=tblC
  clss:=[]
  cln:=[]
  dcs:=[]
  dts:=[]
  dks:=[]
theorem r_is_tail:compS 30 (c_is_tail) (defBody s_is_tail) = g_is_tail:=by kernel_rfl
theorem sc_is_tail:FnScope (c_is_tail).N ["word","tail"] (defScope s_is_tail):=⟨rfl,rfl,rfl,by decide +kernel,rfl,by decide +kernel,by decide +kernel⟩
abbrev s_tail_of:Stmt:=top 36
noncomputable def g_tail_of:GS:=(gRet (gSlice2 (gVar 0) (gPart (gBin oAdd (gC (.int 1)) (gCall 1 F_part_many (gCons (gBin oIx (gVar 0) (gC (.int 0))) gNil)))) gNoPart))
noncomputable def F_tail_of:List Wv → Hs → Re Wv:=fnF 1 g_tail_of
noncomputable def c_tail_of:Ct where
  N:=["formula"]
  names:=(defScope s_tail_of).names
  consts:=[]
  bl:=[]
  fns:=[("part_many",1,F_part_many)]
  tb:=tbl
  tt:=tblT
  tc:=tblC
  clss:=[]
  cln:=[]
  dcs:=[]
  dts:=[]
  dks:=[]
theorem r_tail_of:compS 30 (c_tail_of) (defBody s_tail_of) = g_tail_of:=by kernel_rfl
theorem sc_tail_of:FnScope (c_tail_of).N ["formula"] (defScope s_tail_of):=⟨rfl,rfl,rfl,by decide +kernel,rfl,by decide +kernel,by decide +kernel⟩
abbrev s_is_piece:Stmt:=top 44
noncomputable def g_is_piece:GS:=(gSeq (gIf (gOr (gNot (gTru (gCallB (oIsA tbl tblT) (gCons (gVar 0) (gCons (gC (.ty "tuple")) gNil))))) (gTst (gBin oEq (gCallB oLen (gCons (gVar 0) gNil)) (gC (.int 0))))) (gRet (gC (.bl false))) gNext)
  (gSeq (gSet 1 (gBin oIx (gVar 0) (gC (.int 0))))
  (gSeq (gIf (gOr (gNot (gTru (gCallB (oIsA tbl tblT) (gCons (gVar 1) (gCons (gC (.ty "str")) gNil))))) (gTst (gDcIn true d_PART_COUNTS (gVar 1)))) (gRet (gC (.bl false))) gNext)
  (gRet (gAndV (gBin oEq (gCallB oLen (gCons (gCall 1 F_parts_of (gCons (gVar 0) gNil)) gNil)) (gCall 1 F_part_many (gCons (gVar 1) gNil))) (gCall 2 F_is_tail (gCons (gVar 1) (gCons (gCall 1 F_tail_of (gCons (gVar 0) gNil)) gNil))))))))
noncomputable def F_is_piece:List Wv → Hs → Re Wv:=fnF 2 g_is_piece
noncomputable def c_is_piece:Ct where
  N:=["thing","word"]
  names:=(defScope s_is_piece).names
  consts:=[]
  bl:=["isinstance","tuple","len","str"]
  fns:=[("is_tail",2,F_is_tail),("part_many",1,F_part_many),("tail_of",1,F_tail_of),("parts_of",1,F_parts_of)]
  tb:=tbl
  tt:=tblT
  tc:=tblC
  clss:=[]
  cln:=[]
  dcs:=[("PART_COUNTS",d_PART_COUNTS)]
  dts:=[]
  dks:=[]
theorem r_is_piece:compS 30 (c_is_piece) (defBody s_is_piece) = g_is_piece:=by kernel_rfl
theorem sc_is_piece:FnScope (c_is_piece).N ["thing"] (defScope s_is_piece):=⟨rfl,rfl,rfl,by decide +kernel,rfl,by decide +kernel,by decide +kernel⟩
abbrev s_made_formula:Stmt:=top 45
noncomputable def g_made_formula_C1t:GT:=(fun _ st => .ok true st)
noncomputable def g_made_formula_C1e:GE:=(gCall 1 F_is_piece (gCons (gVar 0) gNil))
noncomputable def g_made_formula_L1:GS:=(gSeq (gAug (fun i j => i + j) 2 (gCallB oLen (gCons (gVar 1) gNil)))
  (gSeq (gAug (fun i j => i + j) 3 (gC (.int 1)))
  (gSeq (gIf (gOr (gTst (gBin oGt (gVar 2) (gC (.int 60)))) (gOr (gTst (gBin oGt (gVar 3) (gC (.int 12)))) (gNot (gTru (gCallB oAll (gCons (gComp [] (giSeq2 (gVar 1)) g_made_formula_C1t g_made_formula_C1e) gNil)))))) (gRaise "BadFormula" (gCons (gC (.str "no formula")) gNil)) gNext)
  (gSet 1 (gCall 1 F_level_below (gCons (gVar 1) gNil))))))
noncomputable def g_made_formula:GS:=(gSeq (gSet 1 (gLst (gCons (gVar 0) gNil)))
  (gSeq (gSet 2 (gC (.int 0)))
  (gSeq (gSet 3 (gC (.int 0)))
  (gSeq (gWhile wTurns (gTru (gVar 1)) g_made_formula_L1)
  (gRet (gVar 0))))))
noncomputable def F_made_formula:List Wv → Hs → Re Wv:=fnF 4 g_made_formula
noncomputable def c_made_formula:Ct where
  N:=["formula","level","pieces","deep"]
  names:=(defScope s_made_formula).names
  consts:=[("MOST_PIECES",(.int 60)),("MOST_DEEP",(.int 12))]
  bl:=["len","all"]
  fns:=[("level_below",1,F_level_below),("is_piece",1,F_is_piece)]
  tb:=tbl
  tt:=tblT
  tc:=tblC
  clss:=["BadFormula"]
  cln:=[]
  dcs:=[]
  dts:=[]
  dks:=[]
theorem r_made_formula:compS 30 (c_made_formula) (defBody s_made_formula) = g_made_formula:=by kernel_rfl
theorem sc_made_formula:FnScope (c_made_formula).N ["formula"] (defScope s_made_formula):=⟨rfl,rfl,rfl,by decide +kernel,rfl,by decide +kernel,by decide +kernel⟩
abbrev s__law_kind:Stmt:=top 54
noncomputable def g__law_kind:GS:=(gSeq (gSet 1 (gCallB (oIsA tbl tblT) (gCons (gVar 0) (gCons (gTup (gCons (gC (.cls "BadArea")) (gCons (gC (.cls "BadContent")) (gCons (gC (.cls "BadCount")) (gCons (gC (.cls "BadPlace")) (gCons (gC (.cls "BadTable")) (gCons (gC (.cls "Clash")) (gCons (gC (.cls "Full")) (gCons (gC (.cls "NoCell")) (gCons (gC (.cls "NoColumn")) gNil)))))))))) gNil))))
  (gSeq (gSet 1 (gOrV (gVar 1) (gOrV (gCallB (oIsA tbl tblT) (gCons (gVar 0) (gCons (gTup (gCons (gC (.cls "NoDeed")) (gCons (gC (.cls "NoRoom")) (gCons (gC (.cls "NoTable")) (gCons (gC (.cls "NotWaiting")) gNil))))) gNil))) (gNotV (gCallB (oIsA tbl tblT) (gCons (gVar 0) (gCons (gC (.ty "ValueError")) gNil)))))))
  (gSeq (gSet 2 (gLst (gCons (gCallB (oIsA tbl tblT) (gCons (gVar 0) (gCons (gC (.cls "BadText")) gNil))) (gCons (gCallB (oIsA tbl tblT) (gCons (gVar 0) (gCons (gC (.cls "BadFormula")) gNil))) gNil))))
  (gSeq (gIf (gOr (gTru (gVar 1)) (gTst (gBin oNe (gAlt (gMethS mCount (gVar 2) (gCons (gC (.bl true)) gNil)) (gMeth mLCount (gVar 2) (gC (.bl true)))) (gC (.int 1))))) (gRet (gC (.str "other"))) gNext)
  (gRet (gBin oIx (gLst (gCons (gC (.str "text")) (gCons (gC (.str "formula")) gNil))) (gAlt (gMethS mIndex (gVar 2) (gCons (gC (.bl true)) gNil)) (gMeth mLIndex (gVar 2) (gC (.bl true))))))))))
noncomputable def F__law_kind:List Wv → Hs → Re Wv:=fnF 3 g__law_kind
noncomputable def c__law_kind:Ct where
  N:=["e","other","marks"]
  names:=(defScope s__law_kind).names
  consts:=[]
  bl:=["isinstance","ValueError"]
  fns:=[]
  tb:=tbl
  tt:=tblT
  tc:=tblC
  clss:=[]
  cln:=["BadArea","BadContent","BadCount","BadPlace","BadTable","Clash","Full","NoCell","NoColumn","BadText","BadFormula","NoDeed","NoRoom","NoTable","NotWaiting"]
  dcs:=[]
  dts:=[]
  dks:=[]
theorem r__law_kind:compS 30 (c__law_kind) (defBody s__law_kind) = g__law_kind:=by kernel_rfl
theorem ru__law_kind:compS 30 (c__law_kind).un (defBody s__law_kind) = g__law_kind:=by kernel_rfl
theorem sc__law_kind:FnScope (c__law_kind).N ["e"] (defScope s__law_kind):=⟨rfl,rfl,rfl,by decide +kernel,rfl,by decide +kernel,by decide +kernel⟩
abbrev s__law_refused:Stmt:=top 57
noncomputable def g__law_refused_B1:GS:=(gExpr (gCall 1 F_made_formula (gCons (gVar 0) gNil)))
noncomputable def g__law_refused_U1:GS:=(gSet 1 (gCall 1 F__law_kind (gCons (gVar 2) gNil)))
noncomputable def g__law_refused:GS:=(gSeq (gSet 1 (gC (.str "")))
  (gSeq (gTry (fun y => tblC.lookup (y,("SheetError":PySem.Str))) 2 g__law_refused_B1 g__law_refused_U1)
  (gRet (gVar 1))))
noncomputable def F__law_refused:List Wv → Hs → Re Wv:=fnF 3 g__law_refused
noncomputable def c__law_refused:Ct where
  N:=["formula","word","e"]
  names:=(defScope s__law_refused).names
  consts:=[]
  bl:=[]
  fns:=[("made_formula",1,F_made_formula),("_law_kind",1,F__law_kind)]
  tb:=tbl
  tt:=tblT
  tc:=tblC
  clss:=["SheetError"]
  cln:=[]
  dcs:=[]
  dts:=[]
  dks:=[]
  fnu:=["_law_kind"]
theorem r__law_refused:compS 30 (c__law_refused) (defBody s__law_refused) = g__law_refused:=by kernel_rfl
theorem sc__law_refused:FnScope (c__law_refused).N ["formula"] (defScope s__law_refused):=⟨rfl,rfl,rfl,by decide +kernel,rfl,by decide +kernel,by decide +kernel⟩
abbrev s_law:Stmt:=top 58
noncomputable def g_law_L1:GS:=(gSeq (gSet 2 (gCall 3 F__law_formula (gCons (gCall 1 F__law_own (gCons (gVar 1) gNil)) (gCons (gC (.int 12)) (gCons (gLst (gCons (gC (.int 59)) gNil)) gNil)))))
  (gSeq (gSet 3 (gCall 2 F__law_spoiled (gCons (gVar 2) (gCons (gCall 1 F__law_own (gCons (gBin oAdd (gBin oMulL (gVar 1) (gC (.int 48271))) (gC (.int 11))) gNil)) gNil))))
  (gIf (gOr (gTst (gBin oNe (gCall 1 F__law_refused (gCons (gVar 3) gNil)) (gC (.str "formula")))) (gTst (gBin oNe (gCall 1 F__law_refused (gCons (gVar 2) gNil)) (gC (.str ""))))) (gRet (gC (.bl false))) gNext)))
noncomputable def g_law:GS:=(gSeq (gFor 1 (gBin oAdd (gLst (gCons (gC (.int 0)) gNil)) (gVar 0)) g_law_L1)
  (gRet (gC (.bl true))))
noncomputable def F_law:List Wv → Hs → Re Wv:=fnF 4 g_law
noncomputable def c_law:Ct where
  N:=["script","cell","formula","bad"]
  names:=(defScope s_law).names
  consts:=[]
  bl:=[]
  fns:=[("_law_formula",3,F__law_formula),("_law_spoiled",2,F__law_spoiled),("_law_own",1,F__law_own),("_law_refused",1,F__law_refused)]
  tb:=tbl
  tt:=tblT
  tc:=tblC
  clss:=[]
  cln:=[]
  dcs:=[]
  dts:=[]
  dks:=[]
theorem r_law:compS 30 (c_law) (defBody s_law) = g_law:=by kernel_rfl
theorem sc_law:FnScope (c_law).N ["script"] (defScope s_law):=⟨rfl,rfl,rfl,by decide +kernel,rfl,by decide +kernel,by decide +kernel⟩
end K09
namespace K09
open PySem J
abbrev S:=PySem.Str
def tI (l:List Int):Wv:=.tup (l.map Wv.int)
inductive Fm
 | lit (x:S) (ws:List Wv)
 | pt (x:S) (l p:List Int)
 | fd (a:Fm) (l p:List Int)
 | o1 (x:S) (a:Fm)
 | o2 (x:S) (a b:Fm)
 | o3 (a b c:Fm)
def Fm.v:Fm → S × List Wv
 | .lit x ws => (x,ws)
 | .pt x l p => (x,[tI l,tI p])
 | .fd a l p => ("find",[.tup (.str a.v.1 :: a.v.2),tI l,tI p])
 | .o1 x a => (x,[.tup (.str a.v.1 :: a.v.2)])
 | .o2 x a b => (x,[.tup (.str a.v.1 :: a.v.2),.tup (.str b.v.1 :: b.v.2)])
 | .o3 a b c => ("if",[.tup (.str a.v.1 :: a.v.2),.tup (.str b.v.1 :: b.v.2),.tup (.str c.v.1 :: c.v.2)])
def Fm.w (f:Fm):Wv:=.tup (.str f.v.1 :: f.v.2)
def Fm.dp:Fm → Nat
 | .lit _ _ => 1
 | .pt _ _ _ => 1
 | .fd a _ _ => a.dp + 1
 | .o1 _ a => a.dp + 1
 | .o2 _ a b => max a.dp b.dp + 1
 | .o3 a b c => max a.dp (max b.dp c.dp) + 1
def Fm.sz:Fm → Nat
 | .lit _ _ => 1
 | .pt _ _ _ => 1
 | .fd a _ _ => a.sz + 1
 | .o1 _ a => a.sz + 1
 | .o2 _ a b => a.sz + b.sz + 1
 | .o3 a b c => a.sz + b.sz + c.sz + 1
def P60:Int:=10 ^ (60:Int).toNat
def Sg (c:Nat):Prop:=32 ≤ c ∧ c ≤ 126 ∧ c ≠ 34 ∧ c ≠ 37
def TxOk (s:S):Prop:=s.length ≤ 40 ∧ ∀ c ∈ s.cps.toList,Sg c
def LitOk (x:S) (ws:List Wv):Prop:=(x = "num" ∧ ∃ i,ws = [.int i] ∧ 0 ≤ i ∧ i ≤ P60) ∨ (x = "text" ∧ ∃ s,ws = [.str s] ∧ TxOk s) ∨ (x = "lost" ∧ ws = [])
def P01 (q:Int):Prop:=q = 0 ∨ q = 1
def PlOk (a b:Int):Prop:=0 ≤ a ∧ a < 99 ∧ 0 ≤ b ∧ b < 26
def ArOk (a b c d:Int):Prop:=0 ≤ a ∧ a ≤ c ∧ c < 99 ∧ 0 ≤ b ∧ b ≤ d ∧ d < 26 ∧ (c - a + 1) * (d - b + 1) ≤ 300
def Sh2 (l p:List Int):Prop:=∃ a b q r,l = [a,b] ∧ p = [q,r] ∧ PlOk a b ∧ P01 q ∧ P01 r
def Sh4 (l p:List Int):Prop:=∃ a b c d q r s t,l = [a,b,c,d] ∧ p = [q,r,s,t] ∧ ArOk a b c d ∧ P01 q ∧ P01 r ∧ P01 s ∧ P01 t
def AW:List S:=["sum","count","least","greatest"]
def W1:List S:=["minus","not"]
def W2:List S:=["else","rest","+","-","*","/","&","<","="]
def Fm.ok:Fm → Prop
 | .lit x ws => LitOk x ws
 | .pt x l p => (x = "at" ∧ Sh2 l p) ∨ (x ∈ AW ∧ Sh4 l p)
 | .fd a l p => a.ok ∧ Sh4 l p
 | .o1 x a => x ∈ W1 ∧ a.ok
 | .o2 x a b => x ∈ W2 ∧ a.ok ∧ b.ok
 | .o3 a b c => a.ok ∧ b.ok ∧ c.ok
theorem digit {st:Hs} {l:Nat} {n many:Int} (h:st[l]? = some (.lst [.int n])) (hm:many ≠ 0 ∧ many.natAbs.log2 < 9000) :
  F__law_digit [.ref l,.int many] st = .ok (.int (n.fmod many)) (st.set l (.lst [.int (n.fdiv many)])):=by
 have hl:lstOf st l = some [.int n]:=by unfold lstOf; rw [h]
 have h0:L2.atI [Wv.int n] 0 = some (.int n):=rfl
 unfold F__law_digit fnF g__law_digit
 simp [ix_l hl h0,mod_i hm.1,fdiv_i hm,gSetI,oSet,h,L2.ixN]
theorem draw {st:Hs} {l:Nat} {n:Int} (many:Int) (h:st[l]? = some (.lst [.int n])) (hp:0 < many) (hm:many ≤ 1000):∃ d n' st',F__law_digit [.ref l,.int many] st = .ok (.int d) st' ∧ 0 ≤ d ∧ d < many ∧ Keep l st st' ∧ st'[l]? = some (.lst [.int n']) :=
 ⟨_,_,_,digit h ⟨by omega,Nat.lt_trans (log_lt (k:=20) (b:=1000) (by omega) hm (by decide) (by decide)) (by decide)⟩,Int.fmod_nonneg_of_pos _ hp,Int.fmod_lt_of_pos _ hp,Keep.set,set_get h⟩
theorem pick {st:Hs} {l:Nat} {n many:Int} {ws:List Wv} (h:st[l]? = some (.lst [.int n])) (hm:many ≠ 0 ∧ many.natAbs.log2 < 9000) (hp:0 < many) (hw:(ws.length:Int) = many) :
  ∃ v st',v ∈ ws ∧ F__law_digit [.ref l,.int many] (st ++ [.lst ws]) = .ok (.int (n.fmod many)) st' ∧ oIx (.ref st.length) (.int (n.fmod many)) st' = .ok v st' ∧ Keep l st st' ∧ st'[l]? = some (.lst [.int (n.fdiv many)]):=by
 have hl:l < st.length:=(List.getElem?_eq_some_iff.mp h).1
 obtain ⟨v,e1,e2⟩:=atI_some (ws:=ws) (d:=n.fmod many) (Int.fmod_nonneg_of_pos _ hp) (by rw [hw]; exact Int.fmod_lt_of_pos _ hp)
 refine ⟨v,_,e2,digit (push_get h) hm,ix_l (ws:=ws) ?_ e1,Keep.push.trans Keep.set,set_get (push_get h)⟩
 have k:Keep l (st ++ [Ob.lst ws]) ((st ++ [Ob.lst ws]).set l (.lst [.int (n.fdiv many)])):=Keep.set
 exact k.lst lstOf_new (by omega)
theorem p60 {st:Hs}:oPow (.int 10) (.int 60) st = .ok (.int P60) st:=pow_i (by decide)
theorem area {st:Hs} {l:Nat} {n:Int} (h:st[l]? = some (.lst [.int n])):∃ (a b c d n':Int) (st':Hs),F__law_area [.ref l] st = .ok (.tup [.int a,.int b,.int c,.int d]) st' ∧ Keep l st st' ∧ st'[l]? = some (.lst [.int n']) ∧ ArOk a b c d:=by
 obtain ⟨top,n1,s1,e1,t0,t1,k1,h1⟩:=draw 99 h (by decide) (by decide)
 obtain ⟨left,n2,s2,e2,l0,l1,k2,h2⟩:=draw 26 h1 (by decide) (by decide)
 obtain ⟨hi,n3,s3,e3,i0,i1,k3,h3⟩:=draw (99 - top) h2 (by omega) (by omega)
 have f1:oFdiv (.int 300) (.int (1 + hi)) s3 = .ok (.int ((300:Int).fdiv (1 + hi))) s3:=fdiv_i ⟨by omega,Nat.lt_trans (log_lt (k:=20) (b:=1000) (by omega) (by omega) (by decide) (by decide)) (by decide)⟩
 have f2:1 ≤ (300:Int).fdiv (1 + hi):=by
  rw [Int.fdiv_eq_ediv_of_nonneg _ (by omega)]
  exact (Int.le_ediv_iff_mul_le (by omega)).mpr (by omega)
 have f3:(1 + hi) * (300:Int).fdiv (1 + hi) ≤ 300:=by
  rw [Int.fdiv_eq_ediv_of_nonneg _ (by omega)]
  exact Int.mul_ediv_self_le (by omega)
 generalize (300:Int).fdiv (1 + hi) = q at f1 f2 f3
 generalize hm:(if q < 26 - left then q else 26 - left) = m
 have m1:1 ≤ m ∧ m ≤ 26 - left ∧ m ≤ q:=by rw [← hm]; split <;> omega
 obtain ⟨wi,n4,s4,e4,w0,w1,k4,h4⟩:=draw m h3 (by omega) (by omega)
 refine ⟨top,left,top + (1 + hi) - 1,left + (1 + wi) - 1,n4,s4,?_,k1.trans (k2.trans (k3.trans k4)),h4,⟨t0,by omega,by omega,l0,by omega,by omega,?_⟩⟩
 rotate_left
 ·have e5:top + (1 + hi) - 1 - top + 1 = 1 + hi:=by omega
  have e6:left + (1 + wi) - 1 - left + 1 = 1 + wi:=by omega
  rw [e5,e6]
  exact Int.le_trans (Int.mul_le_mul_of_nonneg_left (by omega) (by omega)) f3
 unfold F__law_area fnF g__law_area
 simp [e1,e2,e3,f1,hm,e4]
theorem pins {st:Hs} {l:Nat} {n:Int} (m:Nat) (hm:m ≤ 200) (h:st[l]? = some (.lst [.int n])):∃ (bs:List Int) (n':Int) (st':Hs),F__law_pins [.ref l,.int (m:Int)] st = .ok (tI bs) st' ∧ bs.length = m ∧ (∀ q ∈ bs,P01 q) ∧ Keep l st st' ∧ st'[l]? = some (.lst [.int n']):=by
 have hl:l < st.length:=get_lt h
 obtain ⟨st',acc,e,⟨p1,n',p2⟩,g,he,hlen⟩:=compG_inv (w:=(none,rngW 0 m)) (gt:=fun v => g__law_pins_C1t (some v :: capR [("own",0)] [some (.ref l),some (.int (m:Int))]))
  (ge:=fun v => g__law_pins_C1e (some v :: capR [("own",0)] [some (.ref l),some (.int (m:Int))])) (rr:=st.length)
  (fun s => (st.length < s.length ∧ ∀ k,k < st.length → k ≠ l → s[k]? = st[k]?) ∧ ∃ n',s[l]? = some (.lst [.int n'])) (fun v => ∃ b:Int,v = .int b ∧ P01 b)
  (by
   rintro s acc ⟨⟨q0,q1⟩,n',q2⟩
   refine ⟨⟨by simpa using q0,fun k h1 h2 => ?_⟩,n',?_⟩
   ·rw [List.getElem?_set_ne (by omega)]; exact q1 k h1 h2
   ·rw [List.getElem?_set_ne (by omega)]; exact q2)
  (fun s _ => trivial) (rngW 0 m)
  (by
   rintro v hv s acc ⟨⟨q0,q1⟩,n',q2⟩ hg
   refine ⟨s,rfl,⟨⟨q0,q1⟩,n',q2⟩,hg,?_⟩
   have d:=digit (many:=2) q2 (by decide)
   refine ⟨.int (n'.fmod 2),s.set l (.lst [.int (n'.fdiv 2)]),?_,⟨_,rfl,by
    have q5:=Int.fmod_nonneg_of_pos n' (b:=2) (by decide)
    have q6:=Int.fmod_lt_of_pos n' (b:=2) (by decide)
    unfold P01
    omega⟩,⟨⟨by simpa using q0,fun k h1 h2 => ?_⟩,_,set_get q2⟩,?_⟩
   ·unfold g__law_pins_C1e capR
    simp [d]
   ·rw [List.getElem?_set_ne (by omega)]; exact q1 k h1 h2
   ·rw [List.getElem?_set_ne (by omega)]; exact hg)
  [] (st ++ [.lst []]) ⟨⟨by simp,fun k h1 _ => List.getElem?_append_left h1⟩,n,push_get h⟩ new_get (by rw [rngW_len]; show 0 + m < lim; unfold lim; omega) (fun _ z => by cases z)
 have:∀ acc:List Wv,(∀ a ∈ acc,∃ b:Int,a = .int b ∧ P01 b) → ∃ bs:List Int,acc = bs.map Wv.int ∧ ∀ q ∈ bs,P01 q:=by
  intro acc
  induction acc with
  | nil => exact fun _ => ⟨[],rfl,fun _ z => by cases z⟩
  | cons a r ih =>
   intro h
   obtain ⟨bs,e1,e2⟩:=ih fun b hb => h b (List.mem_cons_of_mem _ hb)
   obtain ⟨b,rfl,hb⟩:=h a List.mem_cons_self
   exact ⟨b :: bs,by rw [e1]; rfl,List.forall_mem_cons.mpr ⟨hb,e2⟩⟩
 obtain ⟨bs,rfl,hb01⟩:=this acc he
 rw [List.length_map,rngW_len] at hlen
 refine ⟨bs,n',st',?_,by simpa using hlen,hb01,⟨Nat.le_of_lt p1.1,p1.2⟩,p2⟩
 have cr:CRng (m:Int):=crng (by omega) (by omega)
 have ec:compRun [("own",0)] g__law_pins_C1t g__law_pins_C1e [some (.ref l),some (.int (m:Int))] (none,rngW 0 m) st = .ok (.ref st.length) st':=by
  unfold compRun
  dsimp only
  rw [e]
 have tp:oTupC [.ref st.length] st' = .ok (.tup (bs.map Wv.int)) st':=by
  show (match lstOf st' st.length with | some ws => Re.ok (Wv.tup ws) st' | none => .bad) = _
  rw [lst_get g]
 unfold F__law_pins fnF g__law_pins
 simp [rng1_i cr,ec,tp,tI]
theorem pins2 {st:Hs} {l:Nat} {n:Int} (h:st[l]? = some (.lst [.int n])):∃ (p q:Int) (n':Int) (st':Hs),F__law_pins [.ref l,.int 2] st = .ok (tI [p,q]) st' ∧ P01 p ∧ P01 q ∧ Keep l st st' ∧ st'[l]? = some (.lst [.int n']):=by
 obtain ⟨bs,n',st',e,hb,h1,k,g⟩:=pins 2 (by decide) h
 match bs,hb,e,h1 with
 | [p,q],_,e,h1 => exact ⟨p,q,n',st',e,h1 p (by simp),h1 q (by simp),k,g⟩
theorem pins4 {st:Hs} {l:Nat} {n:Int} (h:st[l]? = some (.lst [.int n])):∃ (p q r s:Int) (n':Int) (st':Hs),F__law_pins [.ref l,.int 4] st = .ok (tI [p,q,r,s]) st' ∧ (P01 p ∧ P01 q ∧ P01 r ∧ P01 s) ∧ Keep l st st' ∧ st'[l]? = some (.lst [.int n']):=by
 obtain ⟨bs,n',st',e,hb,h1,k,g⟩:=pins 4 (by decide) h
 match bs,hb,e,h1 with
 | [p,q,r,s],_,e,h1 => exact ⟨p,q,r,s,n',st',e,⟨h1 p (by simp),h1 q (by simp),h1 r (by simp),h1 s (by simp)⟩,k,g⟩
theorem strIxM {z:S} {d:Int} (hz:z.length ≤ lim) (h0:0 ≤ d) (h1:d < z.length):∃ ch:Nat,ch ∈ z.cps.toList ∧ ∀ st:Hs,oIx (.str z) (.int d) st = .ok (.str ⟨#[ch]⟩) st:=by
 obtain ⟨c,e,hm⟩:=atI_some (ws:=z.cps.toList) (d:=d) h0 (by simpa [PySem.Str.length] using h1)
 refine ⟨c,hm,fun st => ?_⟩
 show (if z.length ≤ lim then (match L2.atI z.cps.toList d with | some c => Re.ok (Wv.str ⟨#[c]⟩) st | none => .bad) else .bad) = _
 rw [if_pos hz,e]
instance {c:Nat}:Decidable (Sg c):=by unfold Sg; infer_instance
theorem sg_all:∀ c ∈ ("ab zCZ019(),+-*/&<=:$'!~_{}@#":S).cps.toList,Sg c:=by decide +kernel
theorem join_sg:∀ {ys:List S},(∀ y ∈ ys,∀ c ∈ y.cps.toList,Sg c) → ∀ c ∈ (PySem.Str.join "" ys).cps.toList,Sg c
 | [],_ => fun c z => by
  have:(PySem.Str.empty).cps.toList = []:=rfl
  rw [show PySem.Str.join "" [] = PySem.Str.empty from rfl,this] at z
  cases z
 | [y],h => fun c z => h y List.mem_cons_self c z
 | y :: z :: r,h => fun c m => by
  have e:(PySem.Str.join "" (y :: z :: r)).cps.toList = y.cps.toList ++ (PySem.Str.join "" (z :: r)).cps.toList:=by
   show ((y.cps ++ ("":S).cps) ++ (PySem.Str.join "" (z :: r)).cps).toList = _
   have e0:("":S).cps.toList = []:=by decide +kernel
   rw [Array.toList_append,Array.toList_append,e0,List.append_nil]
  rw [e] at m
  rcases List.mem_append.mp m with q | q
  ·exact h y List.mem_cons_self c q
  ·exact join_sg (fun y hy => h y (List.mem_cons_of_mem _ hy)) c q
theorem chars {st:Hs} {l:Nat} {n:Int} {o3:Option Wv} (m:Nat) (hm:m ≤ 200) (h:st[l]? = some (.lst [.int n])) :
  ∃ (st':Hs) (n':Int) (ys:List S),compRun [("signs",2),("own",0)] g__law_leaf_C1t g__law_leaf_C1e [some (.ref l),some (.int 1),some (.str "ab zCZ019(),+-*/&<=:$'!~_{}@#"),o3,none,none,none] (none,rngW 0 m) st = .ok (.ref st.length) st' ∧ Keep l st st' ∧ st'[l]? = some (.lst [.int n']) ∧ lstOf st' st.length = some (ys.map Wv.str) ∧ ys.length = m ∧ (∀ y ∈ ys,PySem.Str.length y = 1) ∧ ∀ y ∈ ys,∀ c ∈ y.cps.toList,Sg c:=by
 have hl:l < st.length:=get_lt h
 have ls:("ab zCZ019(),+-*/&<=:$'!~_{}@#":PySem.Str).length = 29:=rfl
 obtain ⟨st',acc,e,⟨p1,n',p2⟩,g,he,hlen⟩:=compG_inv (w:=(none,rngW 0 m)) (gt:=fun v => g__law_leaf_C1t (some v :: capR [("signs",2),("own",0)] [some (.ref l),some (.int 1),some (.str "ab zCZ019(),+-*/&<=:$'!~_{}@#"),o3,none,none,none]))
  (ge:=fun v => g__law_leaf_C1e (some v :: capR [("signs",2),("own",0)] [some (.ref l),some (.int 1),some (.str "ab zCZ019(),+-*/&<=:$'!~_{}@#"),o3,none,none,none])) (rr:=st.length)
  (fun s => (st.length < s.length ∧ ∀ k,k < st.length → k ≠ l → s[k]? = st[k]?) ∧ ∃ n',s[l]? = some (.lst [.int n'])) (fun v => ∃ ch:Nat,v = .str ⟨#[ch]⟩ ∧ Sg ch)
  (by
   rintro s acc ⟨⟨q0,q1⟩,n',q2⟩
   refine ⟨⟨by simpa using q0,fun k h1 h2 => ?_⟩,n',?_⟩
   ·rw [List.getElem?_set_ne (by omega)]; exact q1 k h1 h2
   ·rw [List.getElem?_set_ne (by omega)]; exact q2)
  (fun s _ => trivial) (rngW 0 m)
  (by
   rintro v hv s acc ⟨⟨q0,q1⟩,n',q2⟩ hg
   refine ⟨s,rfl,⟨⟨q0,q1⟩,n',q2⟩,hg,?_⟩
   have d:=digit (many:=29) q2 (by decide)
   obtain ⟨ch,hcm,hch⟩:=strIxM (z:="ab zCZ019(),+-*/&<=:$'!~_{}@#") (d:=n'.fmod 29) (by rw [ls]; decide) (Int.fmod_nonneg_of_pos _ (by decide)) (by rw [ls]; exact Int.fmod_lt_of_pos _ (by decide))
   refine ⟨.str ⟨#[ch]⟩,s.set l (.lst [.int (n'.fdiv 29)]),?_,⟨ch,rfl,sg_all ch hcm⟩,⟨⟨by simpa using q0,fun k h1 h2 => ?_⟩,_,set_get q2⟩,?_⟩
   ·have hlen:oLen [.str "ab zCZ019(),+-*/&<=:$'!~_{}@#"] s = .ok (.int 29) s:=rfl
    unfold g__law_leaf_C1e capR
    simp [hlen,d,hch]
   ·rw [List.getElem?_set_ne (by omega)]; exact q1 k h1 h2
   ·rw [List.getElem?_set_ne (by omega)]; exact hg)
  [] (st ++ [.lst []]) ⟨⟨by simp,fun k h1 _ => List.getElem?_append_left h1⟩,n,push_get h⟩ new_get (by rw [rngW_len]; show 0 + m < lim; unfold lim; omega) (fun _ z => by cases z)
 have:∀ acc:List Wv,(∀ a ∈ acc,∃ ch:Nat,a = .str ⟨#[ch]⟩ ∧ Sg ch) → ∃ ys:List PySem.Str,acc = ys.map Wv.str ∧ (∀ y ∈ ys,PySem.Str.length y = 1) ∧ ∀ y ∈ ys,∀ c ∈ y.cps.toList,Sg c:=by
  intro acc
  induction acc with
  | nil => exact fun _ => ⟨[],rfl,(fun _ z => by cases z),fun _ z => by cases z⟩
  | cons a r ih =>
   intro h
   obtain ⟨ys,e1,e2,e3⟩:=ih fun b hb => h b (List.mem_cons_of_mem _ hb)
   obtain ⟨ch,rfl,hs⟩:=h a List.mem_cons_self
   exact ⟨⟨#[ch]⟩ :: ys,by rw [e1]; rfl,List.forall_mem_cons.mpr ⟨rfl,e2⟩,List.forall_mem_cons.mpr ⟨fun c hc => by rw [List.mem_singleton.mp hc]; exact hs,e3⟩⟩
 obtain ⟨ys,rfl,hy,hy2⟩:=this acc he
 refine ⟨st',n',ys,?_,⟨Nat.le_of_lt p1.1,p1.2⟩,p2,lst_get g,?_,hy,hy2⟩
 ·unfold compRun
  dsimp only
  rw [e]
 ·rw [List.length_map,rngW_len] at hlen
  simpa using hlen
theorem sum_ones:∀ {ys:List PySem.Str},(∀ y ∈ ys,PySem.Str.length y = 1) → (ys.map (·.length)).sum = ys.length
 | [],_ => rfl
 | y :: r,h => by
  rw [List.map_cons,List.sum_cons,h y List.mem_cons_self,sum_ones fun z hz => h z (List.mem_cons_of_mem _ hz),List.length_cons]
  omega
theorem leaf {st:Hs} {l:Nat} {n kind:Int} (h:st[l]? = some (.lst [.int n])) (h0:0 ≤ kind) (h5:kind < 5):∃ (f:Fm) (n':Int) (st':Hs),F__law_leaf [.ref l,.int kind] st = .ok f.w st' ∧ Keep l st st' ∧ st'[l]? = some (.lst [.int n']) ∧ f.ok ∧ f.sz = 1 ∧ f.dp = 1:=by
 unfold F__law_leaf fnF g__law_leaf
 by_cases w0:kind = 0
 ·subst w0
  obtain ⟨v,st2,hv,e1,e2,k2,h2⟩:=pick (many:=3) (ws:=[.int 10,.int 1000,.int (P60 + 1)]) h (by decide) (by decide) rfl
  obtain ⟨x,rfl,hx0,hx1,hx⟩:∃ x,v = .int x ∧ 0 < x ∧ x ≤ P60 + 1 ∧ (x ≠ 0 ∧ x.natAbs.log2 < 9000):=by
   simp at hv
   rcases hv with rfl | rfl | rfl
   ·exact ⟨10,rfl,by decide,by decide +kernel,by decide⟩
   ·exact ⟨1000,rfl,by decide,by decide +kernel,by decide⟩
   ·exact ⟨_,rfl,by decide +kernel,by decide +kernel,by decide +kernel⟩
  have d2:=digit (many:=x) h2 hx
  have q1:=Int.fmod_nonneg_of_pos (n.fdiv 3) hx0
  have q2:=Int.fmod_lt_of_pos (n.fdiv 3) hx0
  generalize (n.fdiv 3).fmod x = number at d2 q1 q2
  exact ⟨.lit "num" [.int number],(n.fdiv 3).fdiv x,st2.set l (.lst [.int ((n.fdiv 3).fdiv x)]),by simp [p60,e1,e2,d2]; rfl,k2.trans Keep.set,set_get h2,.inl ⟨rfl,_,rfl,q1,by omega⟩,rfl,rfl⟩
 by_cases w1:kind = 1
 ·subst w1
  obtain ⟨v,st2,hv,e1,e2,k2,h2⟩:=pick (many:=2) (ws:=[.int 4,.int 41]) h (by decide) (by decide) rfl
  obtain ⟨x,rfl,hx0,hx1⟩:∃ x,v = .int x ∧ 0 < x ∧ x ≤ 41:=by
   simp at hv
   rcases hv with rfl | rfl
   ·exact ⟨4,rfl,by decide,by decide⟩
   ·exact ⟨41,rfl,by decide,by decide⟩
  obtain ⟨m,n3,s3,e3,m0,m1,k3,h3⟩:=draw x h2 hx0 (by omega)
  obtain ⟨st4,n4,ys,e4,k4,h4,hl4,hlen,hy,hy2⟩:=chars (o3:=some (.int m)) m.toNat (by omega) h3
  have hs:=sum_ones hy
  have e0:("":PySem.Str).length = 0:=rfl
  have j:=join_l (z:="") hl4 (by rw [hs,e0,hlen]; omega)
  have hj:(Txt.join "" ys).length ≤ 40:=by
   have ej:Txt.join "" ys = PySem.Str.join "" ys:=by simpa using PyProof.Rows.join_plain_closes "" ys
   rw [ej]
   cases ys with
   | nil => decide
   | cons y r =>
    rw [PyProof.Rows.len_join_cons,hs,e0]
    omega
  have hjs:∀ c ∈ (Txt.join "" ys).cps.toList,Sg c:=by
   have ej:Txt.join "" ys = PySem.Str.join "" ys:=by simpa using PyProof.Rows.join_plain_closes "" ys
   rw [ej]
   exact join_sg hy2
  have cm:CRng m:=crng (by omega) (by omega)
  refine ⟨.lit "text" [.str (Txt.join "" ys)],n4,st4,?_,k2.trans (k3.trans k4),h4,.inr (.inl ⟨rfl,_,rfl,hj,hjs⟩),rfl,rfl⟩
  simp [e1,e2,e3,rng1_i cm,e4,j]
  rfl
 by_cases w2:kind = 2
 ·subst w2
  obtain ⟨a,n1,s1,e1,a0,a1,k1,h1⟩:=draw 99 h (by decide) (by decide)
  obtain ⟨b,n2,s2,e2,b0,b1,k2,h2⟩:=draw 26 h1 (by decide) (by decide)
  obtain ⟨p,q,n3,s3,e3,p1,p2,k3,h3⟩:=pins2 h2
  refine ⟨.pt "at" [a,b] [p,q],n3,s3,?_,k1.trans (k2.trans k3),h3,.inl ⟨rfl,a,b,p,q,rfl,rfl,⟨a0,a1,b0,b1⟩,p1,p2⟩,rfl,rfl⟩
  simp [e1,e2,e3]
  rfl
 by_cases w3:kind = 3
 ·subst w3
  exact ⟨.lit "lost" [],n,st,by simp; rfl,Keep.refl,h,.inr (.inr ⟨rfl,rfl⟩),rfl,rfl⟩
 ·have w4:kind = 4:=by omega
  subst w4
  obtain ⟨v,st2,hv,e1,e2,k2,h2⟩:=pick (many:=4) (ws:=[.str "sum",.str "count",.str "least",.str "greatest"]) h (by decide) (by decide) rfl
  obtain ⟨w,rfl,hw⟩:∃ w:S,v = .str w ∧ w ∈ AW:=by
   simp at hv
   rcases hv with rfl | rfl | rfl | rfl <;> exact ⟨_,rfl,by decide +kernel⟩
  obtain ⟨a,b,c,d,n3,s3,e3,k3,h3,i1⟩:=area h2
  obtain ⟨p,q,r,s,n4,s4,e4,⟨p1,p2,p3,p4⟩,k4,h4⟩:=pins4 h3
  refine ⟨.pt w [a,b,c,d] [p,q,r,s],n4,s4,?_,k2.trans (k3.trans k4),h4,.inr ⟨hw,a,b,c,d,p,q,r,s,rfl,rfl,i1,p1,p2,p3,p4⟩,rfl,rfl⟩
  simp [e1,e2,e3,e4]
  rfl
theorem cat {x:Wv} {xs ys:List Wv} {st:Hs} (h:xs.length + ys.length ≤ 100):oAdd (.tup (x :: xs)) (.tup ys) st = .ok (.tup (x :: (xs ++ ys))) st:=by
 show (if (x :: xs).length + ys.length ≤ lim then Re.ok (Wv.tup (x :: xs ++ ys)) st else .bad) = _
 rw [if_pos (by simp [lim]; omega)]
 rfl
noncomputable def fA (F__law_formula:List Wv → Hs → Re Wv):GS:=(gSet 3 (gCall 2 F__law_digit (gCons (gVar 0) (gCons (gC (.int 18)) gNil))))
noncomputable def fB (F__law_formula:List Wv → Hs → Re Wv):GS:=(gSet 4 (gBin oIx (gLst (gCons (gC (.int 0)) (gCons (gC (.int 0)) (gCons (gC (.int 0)) (gCons (gC (.int 0)) (gCons (gC (.int 0)) (gCons (gC (.int 1)) (gCons (gC (.int 1)) (gCons (gC (.int 1)) (gCons (gC (.int 2)) (gCons (gC (.int 2)) (gCons (gC (.int 2)) (gCons (gC (.int 2)) (gCons (gC (.int 2)) (gCons (gC (.int 2)) (gCons (gC (.int 2)) (gCons (gC (.int 2)) (gCons (gC (.int 2)) (gCons (gC (.int 3)) gNil))))))))))))))))))) (gVar 3)))
noncomputable def fC (F__law_formula:List Wv → Hs → Re Wv):GS:=(gIf (gOr (gTst (gBin oEq (gVar 1) (gC (.int 1)))) (gTst (gBin oLt (gBin oIx (gVar 2) (gC (.int 0))) (gVar 4)))) (gSeq (gSet 3 (gBin oMod (gVar 3) (gC (.int 5))))
  (gSet 4 (gC (.int 0)))) gNext)
noncomputable def fD (F__law_formula:List Wv → Hs → Re Wv):GS:=(gSetI (gBin oSub (gBin oIx (gVar 2) (gC (.int 0))) (gVar 4)) (gVar 2) (gC (.int 0)))
noncomputable def fE (F__law_formula:List Wv → Hs → Re Wv):GS:=(gSet 5 (gComp [("own",0),("deep",1),("room",2)] (giR1 (gCons (gVar 4) gNil)) (g__law_formula_C1t F__law_formula) (g__law_formula_C1e F__law_formula)))
noncomputable def fRest:GS:=(gSeq (gIf (gTst (gBin oLt (gVar 3) (gC (.int 5)))) (gRet (gCall 2 F__law_leaf (gCons (gVar 0) (gCons (gVar 3) gNil)))) gNext)
 (gSeq (gIf (gTst (gBin oEq (gVar 3) (gC (.int 7)))) (gSeq (gSet 6 (gCall 1 F__law_area (gCons (gVar 0) gNil)))
  (gRet (gTup (gCons (gC (.str "find")) (gCons (gBin oIx (gVar 5) (gC (.int 0))) (gCons (gVar 6) (gCons (gCall 2 F__law_pins (gCons (gVar 0) (gCons (gC (.int 4)) gNil))) gNil))))))) gNext)
 (gSeq (gSet 7 (gLst (gCons (gC (.str "minus")) (gCons (gC (.str "not")) (gCons (gC (.str "find")) (gCons (gC (.str "+")) (gCons (gC (.str "-")) (gCons (gC (.str "*")) (gCons (gC (.str "/")) (gCons (gC (.str "&")) (gCons (gC (.str "<")) (gCons (gC (.str "=")) (gCons (gC (.str "rest")) (gCons (gC (.str "else")) (gCons (gC (.str "if")) gNil)))))))))))))))
 (gRet (gBin oAdd (gTup (gCons (gBin oIx (gVar 7) (gBin oSub (gVar 3) (gC (.int 5)))) gNil)) (gCallB oTupC (gCons (gVar 5) gNil)))))))
theorem f_parts (F__law_formula:List Wv → Hs → Re Wv):g__law_formula F__law_formula = gSeq (fA F__law_formula) (gSeq (fB F__law_formula) (gSeq (fC F__law_formula) (gSeq (fD F__law_formula) (gSeq (fE F__law_formula) fRest)))):=rfl
def Kp (l r:Nat) (st st':Hs):Prop:=st.length ≤ st'.length ∧ ∀ k,k < st.length → k ≠ l → k ≠ r → st'[k]? = st[k]?
theorem Kp.trans {l r:Nat} {a b c:Hs} (h:Kp l r a b) (k:Kp l r b c):Kp l r a c:=⟨Nat.le_trans h.1 k.1,fun j h1 h2 h3 => (k.2 j (Nat.lt_of_lt_of_le h1 h.1) h2 h3).trans (h.2 j h1 h2 h3)⟩
theorem Kp.own {l r:Nat} {a b:Hs} (h:Keep l a b):Kp l r a b:=⟨h.1,fun j h1 h2 _ => h.2 j h1 h2⟩
theorem Kp.room {l r:Nat} {a b:Hs} (h:Keep r a b):Kp l r a b:=⟨h.1,fun j h1 _ h2 => h.2 j h1 h2⟩
theorem Kp.gr {l r:Nat} {a b:Hs} (h:Gr a b):Kp l r a b:=⟨h.1,fun j h1 _ _ => h.2 j h1⟩
def Fd (n:Nat):Prop:=∀ (deep:Int) (l r:Nat) (a b:Int) (st:Hs),1 ≤ deep → deep ≤ n → l ≠ r → st[l]? = some (.lst [.int a]) → st[r]? = some (.lst [.int b]) → 0 ≤ b → ∃ (f:Fm) (a' b':Int) (st':Hs),R__law_formula n [.ref l,.int deep,.ref r] st = .ok f.w st' ∧ Kp l r st st' ∧ st'[l]? = some (.lst [.int a']) ∧ st'[r]? = some (.lst [.int b']) ∧ 0 ≤ b' ∧ f.ok ∧ (f.dp:Int) ≤ deep ∧ (f.sz:Int) ≤ 1 + (b - b')
def szs (fs:List Fm):Nat:=(fs.map Fm.sz).sum
theorem kidsD {n:Nat} (h:Fd n) {deep:Int} {l r rr:Nat} {ρ:Rho} {ws0:List Wv} (hd:1 ≤ deep - 1) (hn:deep - 1 ≤ n) (hlr:l ≠ r) (h1:rr ≠ l) (h2:rr ≠ r) (hρ:capR [("own",0),("deep",1),("room",2)] ρ = [some (.ref l),some (.int deep),some (.ref r)]) :
  ∀ (ws acc:List Wv) (a b:Int) (st:Hs),st[l]? = some (.lst [.int a]) → st[r]? = some (.lst [.int b]) → 0 ≤ b → st[rr]? = some (.lst acc) → acc.length + ws.length < lim →
   ∃ (fs:List Fm) (a' b':Int) (st':Hs),compG (ckOf (none,ws0)) (fun v => g__law_formula_C1t (R__law_formula n) (some v :: capR [("own",0),("deep",1),("room",2)] ρ)) (fun v => g__law_formula_C1e (R__law_formula n) (some v :: capR [("own",0),("deep",1),("room",2)] ρ)) rr ws st = some st' ∧ st'[rr]? = some (.lst (acc ++ fs.map Fm.w)) ∧ fs.length = ws.length ∧ (∀ f ∈ fs,f.ok ∧ (f.dp:Int) ≤ deep - 1) ∧ (szs fs:Int) ≤ ws.length + (b - b') ∧ 0 ≤ b' ∧ st'[l]? = some (.lst [.int a']) ∧ st'[r]? = some (.lst [.int b']) ∧ st.length ≤ st'.length ∧ ∀ k,k < st.length → k ≠ l → k ≠ r → k ≠ rr → st'[k]? = st[k]?:=by
 rw [hρ]
 intro ws
 induction ws with
 | nil =>
  intro acc a b st ha hb h0 hr hl
  exact ⟨[],a,b,st,rfl,by simpa using hr,rfl,(fun _ z => by cases z),by simp [szs],h0,ha,hb,Nat.le_refl _,fun _ _ _ _ _ => rfl⟩
 | cons w t ih =>
  intro acc a b st ha hb h0 hr hl
  have hl':acc.length + (t.length + 1) < lim:=hl
  obtain ⟨f,a1,b1,s1,e1,k1,q1,q2,q3,fo,fd,fz⟩:=h (deep - 1) l r a b st hd hn hlr ha hb h0
  have hr1:s1[rr]? = some (.lst acc):=by rw [k1.2 rr (get_lt hr) h1 h2]; exact hr
  have qa:(s1.set rr (.lst (acc ++ [f.w])))[l]? = some (.lst [.int a1]):=by rw [List.getElem?_set_ne h1]; exact q1
  have qb:(s1.set rr (.lst (acc ++ [f.w])))[r]? = some (.lst [.int b1]):=by rw [List.getElem?_set_ne h2]; exact q2
  obtain ⟨fs,a',b',s2,e2,r2,l2,o2,z2,b2,p1,p2,p3,p4⟩:=ih (acc ++ [f.w]) a1 b1 (s1.set rr (.lst (acc ++ [f.w]))) qa qb q3 (set_get hr1) (by simp; omega)
  refine ⟨f :: fs,a',b',s2,?_,by rw [r2]; simp,by simp [l2],fun g hg => ?_,?_,b2,p1,p2,?_,fun k c0 c1 c2 c3 => ?_⟩
  ·unfold compG
   have e0:g__law_formula_C1t (R__law_formula n) [some w,some (.ref l),some (.int deep),some (.ref r)] st = .ok true st:=rfl
   have e3:g__law_formula_C1e (R__law_formula n) [some w,some (.ref l),some (.int deep),some (.ref r)] st = .ok f.w s1:=by
    unfold g__law_formula_C1e
    simp [e1]
   rw [e0]
   dsimp only
   rw [e3]
   dsimp only
   rw [app_l hr1 (by omega)]
   dsimp only
   rw [if_pos (show ckOf (none,ws0) (s1.set rr (.lst (acc ++ [f.w]))) from trivial),e2]
  ·rcases List.mem_cons.mp hg with z | z
   ·rw [z]; exact ⟨fo,fd⟩
   ·exact o2 g z
  ·have:szs (f :: fs) = f.sz + szs fs:=by simp [szs]
   rw [this,List.length_cons]
   omega
  ·have:=k1.1
   rw [List.length_set] at p3
   omega
  ·have:=k1.1
   rw [p4 k (by rw [List.length_set]; omega) c1 c2 c3,List.getElem?_set_ne (fun z => c3 z.symm),k1.2 k c0 c1 c2]
def NL:List Int:=[0,0,0,0,0,1,1,1,2,2,2,2,2,2,2,2,2,3]
def nf (d:Int):Nat:=(NL.getD d.toNat 0).toNat
theorem nl_at {d:Int} (h0:0 ≤ d) (h1:d < 18):L2.atI (NL.map Wv.int) d = some (.int (nf d:Nat)):=by
 obtain ⟨n,rfl⟩:=Int.eq_ofNat_of_zero_le h0
 have q:∀ k:Fin 18,L2.atI NL ((k.1:Nat):Int) = some ((nf ((k.1:Nat):Int):Nat):Int):=by decide +kernel
 have e:=q ⟨n,by omega⟩
 unfold L2.atI at e ⊢
 rw [List.length_map]
 cases ei:L2.ixN NL.length ((n:Nat):Int) with
 | none => rw [ei] at e; cases e
 | some j =>
  rw [ei] at e
  have e':NL[j]? = some ((nf ((n:Nat):Int):Nat):Int):=e
  show (NL.map Wv.int)[j]? = _
  rw [List.getElem?_map,e']
  rfl
theorem nf_5 {d:Int} (h0:0 ≤ d) (h1:d < 5):nf d = 0:=by
 obtain ⟨n,rfl⟩:=Int.eq_ofNat_of_zero_le h0
 have q:∀ k:Fin 5,nf ((k.1:Nat):Int) = 0:=by decide +kernel
 exact q ⟨n,by omega⟩
theorem nf_3 {d:Int} (h0:0 ≤ d) (h1:d < 18):nf d ≤ 3:=by
 obtain ⟨n,rfl⟩:=Int.eq_ofNat_of_zero_le h0
 have q:∀ k:Fin 18,nf ((k.1:Nat):Int) ≤ 3:=by decide +kernel
 exact q ⟨n,by omega⟩
theorem fE_run {n:Nat} (h:Fd n) {deep kind:Int} {l r m:Nat} {a b:Int} {st:Hs} (hm:m ≤ 3) (hd:m ≠ 0 → 2 ≤ deep) (hn:deep ≤ (n:Int) + 1) (hlr:l ≠ r) (ha:st[l]? = some (.lst [.int a])) (hb:st[r]? = some (.lst [.int b])) (h0:0 ≤ b) :
  ∃ (fs:List Fm) (a' b':Int) (st':Hs) (k:Nat),fE (R__law_formula n) [some (.ref l),some (.int deep),some (.ref r),some (.int kind),some (.int (m:Int)),none,none,none] st = .nx [some (.ref l),some (.int deep),some (.ref r),some (.int kind),some (.int (m:Int)),some (.ref k),none,none] st' ∧ Kp l r st st' ∧ st'[l]? = some (.lst [.int a']) ∧ st'[r]? = some (.lst [.int b']) ∧ 0 ≤ b' ∧ k ≠ l ∧ st'[k]? = some (.lst (fs.map Fm.w)) ∧ fs.length = m ∧ (∀ f ∈ fs,f.ok ∧ (f.dp:Int) ≤ deep - 1) ∧ (szs fs:Int) ≤ m + (b - b'):=by
 have cr:CRng (m:Int):=crng (by omega) (by omega)
 have la:=get_lt ha
 have lb:=get_lt hb
 have go:∃ (fs:List Fm) (a' b':Int) (st':Hs),compRun [("own",0),("deep",1),("room",2)] (g__law_formula_C1t (R__law_formula n)) (g__law_formula_C1e (R__law_formula n)) [some (.ref l),some (.int deep),some (.ref r),some (.int kind),some (.int (m:Int)),none,none,none] (none,rngW 0 m) st = .ok (.ref st.length) st' ∧ Kp l r st st' ∧ st'[l]? = some (.lst [.int a']) ∧ st'[r]? = some (.lst [.int b']) ∧ 0 ≤ b' ∧ st'[st.length]? = some (.lst (fs.map Fm.w)) ∧ fs.length = m ∧ (∀ f ∈ fs,f.ok ∧ (f.dp:Int) ≤ deep - 1) ∧ (szs fs:Int) ≤ m + (b - b'):=by
  by_cases c:m = 0
  ·subst c
   exact ⟨[],a,b,st ++ [.lst []],rfl,Kp.gr Gr.push,push_get ha,push_get hb,h0,new_get,rfl,(fun _ z => by cases z),by simp [szs]⟩
  ·have hd':=hd c
   obtain ⟨fs,a',b',s2,e2,r2,l2,o2,z2,b2,p1,p2,p3,p4⟩:=kidsD h (deep:=deep) (rr:=st.length) (ρ:=[some (.ref l),some (.int deep),some (.ref r),some (.int kind),some (.int (m:Int)),none,none,none]) (ws0:=rngW 0 m) (by omega) (by omega) hlr (by omega) (by omega) rfl (rngW 0 m) [] a b (st ++ [.lst []]) (push_get ha) (push_get hb) h0 new_get (by rw [rngW_len]; show 0 + m < lim; unfold lim; omega)
   rw [rngW_len] at l2 z2
   refine ⟨fs,a',b',s2,?_,⟨?_,fun k c0 c1 c2 => ?_⟩,p1,p2,b2,by simpa using r2,l2,o2,z2⟩
   ·unfold compRun
    dsimp only
    rw [e2]
   ·rw [List.length_append] at p3
    omega
   ·rw [p4 k (by rw [List.length_append]; omega) c1 c2 (by omega),List.getElem?_append_left c0]
 obtain ⟨fs,a',b',st',e,q1,q2,q3,q4,q5,q6,q7,q8⟩:=go
 refine ⟨fs,a',b',st',st.length,?_,q1,q2,q3,q4,by omega,q5,q6,q7,q8⟩
 unfold fE
 simp [rng1_i cr,e]
theorem pre {n:Nat} (h:Fd n) {deep:Int} {l r:Nat} {a b:Int} {st:Hs} (hd:1 ≤ deep) (hn:deep ≤ (n:Int) + 1) (hlr:l ≠ r) (ha:st[l]? = some (.lst [.int a])) (hb:st[r]? = some (.lst [.int b])) (h0:0 ≤ b) :
  ∃ (kind:Int) (fs:List Fm) (a' b':Int) (st':Hs) (k:Nat),g__law_formula (R__law_formula n) [some (.ref l),some (.int deep),some (.ref r),none,none,none,none,none] st = fRest [some (.ref l),some (.int deep),some (.ref r),some (.int kind),some (.int (nf kind:Nat)),some (.ref k),none,none] st' ∧ 0 ≤ kind ∧ kind < 18 ∧ Kp l r st st' ∧ st'[l]? = some (.lst [.int a']) ∧ st'[r]? = some (.lst [.int b']) ∧ 0 ≤ b' ∧ k ≠ l ∧ st'[k]? = some (.lst (fs.map Fm.w)) ∧ fs.length = nf kind ∧ (∀ f ∈ fs,f.ok ∧ (f.dp:Int) ≤ deep - 1) ∧ (szs fs:Int) ≤ b - b':=by
 obtain ⟨d,a1,s1,e1,d0,d1,k1,h1⟩:=draw 18 ha (by decide) (by decide)
 have eA:fA (R__law_formula n) [some (.ref l),some (.int deep),some (.ref r),none,none,none,none,none] st = .nx [some (.ref l),some (.int deep),some (.ref r),some (.int d),none,none,none,none] s1:=by
  unfold fA
  simp [e1]
 have hb1:s1[r]? = some (.lst [.int b]):=by rw [k1.2 r (get_lt hb) (fun z => hlr z.symm)]; exact hb
 have nl:NL.map Wv.int = [.int 0,.int 0,.int 0,.int 0,.int 0,.int 1,.int 1,.int 1,.int 2,.int 2,.int 2,.int 2,.int 2,.int 2,.int 2,.int 2,.int 2,.int 3]:=rfl
 have ix:oIx (.ref s1.length) (.int d) (s1 ++ [.lst (NL.map Wv.int)]) = .ok (.int (nf d:Nat)) (s1 ++ [.lst (NL.map Wv.int)]):=ix_l lstOf_new (nl_at d0 d1)
 have ha2:=push_get (o':=.lst (NL.map Wv.int)) h1
 have hb2:=push_get (o':=.lst (NL.map Wv.int)) hb1
 have kl:kLst (NL.map Wv.int) s1 = .ok (.ref s1.length) (s1 ++ [.lst (NL.map Wv.int)]):=kLst_d (by rw [List.length_map]; decide)
 have gp:Gr s1 (s1 ++ [.lst (NL.map Wv.int)]):=Gr.push
 generalize s1 ++ [Ob.lst (NL.map Wv.int)] = s2 at ix ha2 hb2 kl gp
 have k2:Kp l r st s2:=(Kp.own k1).trans (Kp.gr gp)
 rw [nl] at kl
 have eB:fB (R__law_formula n) [some (.ref l),some (.int deep),some (.ref r),some (.int d),none,none,none,none] s1 = .nx [some (.ref l),some (.int deep),some (.ref r),some (.int d),some (.int (nf d:Nat)),none,none,none] s2:=by
  unfold fB
  simp only [e_set,e_bin,e_lst,e_cons,e_c,bind_ok,kCons_d,e_nil,kl,kB_d,e_var,rdV_s,List.getElem?_cons_zero,List.getElem?_cons_succ,ix,nox_ok,thn_ok,List.set]
 have ixb:oIx (.ref r) (.int 0) s2 = .ok (.int b) s2:=ix_l (lst_get hb2) rfl
 have eD:∀ (kind:Int) (m:Nat),fD (R__law_formula n) [some (.ref l),some (.int deep),some (.ref r),some (.int kind),some (.int (m:Int)),none,none,none] s2 = .nx [some (.ref l),some (.int deep),some (.ref r),some (.int kind),some (.int (m:Int)),none,none,none] (s2.set r (.lst [.int (b - m)])):=fun kind m => by
  unfold fD
  simp [gSetI,ixb,oSet,hb2,L2.ixN]
 have ha3:∀ o:Ob,(s2.set r o)[l]? = some (.lst [.int a1]):=fun o => by rw [List.getElem?_set_ne (fun z => hlr z.symm)]; exact ha2
 have main:∀ kind:Int,0 ≤ kind → kind < 18 → (nf kind ≠ 0 → 2 ≤ deep) → (nf kind:Int) ≤ b → fC (R__law_formula n) [some (.ref l),some (.int deep),some (.ref r),some (.int d),some (.int (nf d:Nat)),none,none,none] s2 = .nx [some (.ref l),some (.int deep),some (.ref r),some (.int kind),some (.int (nf kind:Nat)),none,none,none] s2 → ∃ (kind:Int) (fs:List Fm) (a' b':Int) (st':Hs) (k:Nat),g__law_formula (R__law_formula n) [some (.ref l),some (.int deep),some (.ref r),none,none,none,none,none] st = fRest [some (.ref l),some (.int deep),some (.ref r),some (.int kind),some (.int (nf kind:Nat)),some (.ref k),none,none] st' ∧ 0 ≤ kind ∧ kind < 18 ∧ Kp l r st st' ∧ st'[l]? = some (.lst [.int a']) ∧ st'[r]? = some (.lst [.int b']) ∧ 0 ≤ b' ∧ k ≠ l ∧ st'[k]? = some (.lst (fs.map Fm.w)) ∧ fs.length = nf kind ∧ (∀ f ∈ fs,f.ok ∧ (f.dp:Int) ≤ deep - 1) ∧ (szs fs:Int) ≤ b - b':=by
  intro kind c0 c1 c2 c3 eC
  obtain ⟨fs,a',b',st',k,e,q1,q2,q3,q4,q5,q6,q7,q8,q9⟩:=fE_run h (deep:=deep) (kind:=kind) (m:=nf kind) (a:=a1) (b:=b - (nf kind:Nat)) (st:=s2.set r (.lst [.int (b - (nf kind:Nat))])) (nf_3 c0 c1) c2 hn hlr (ha3 _) (set_get hb2) (by omega)
  refine ⟨kind,fs,a',b',st',k,?_,c0,c1,k2.trans ((Kp.room Keep.set).trans q1),q2,q3,q4,q5,q6,q7,q8,by omega⟩
  rw [f_parts,e_seq,eA,sq_nx,e_seq,eB,sq_nx,e_seq,eC,sq_nx,e_seq,eD,sq_nx,e_seq,e,sq_nx]
 by_cases c:deep = 1 ∨ b < (nf d:Int)
 ·have m0:0 ≤ d.fmod 5:=Int.fmod_nonneg_of_pos _ (by decide)
  have m5:d.fmod 5 < 5:=Int.fmod_lt_of_pos _ (by decide)
  have z:=nf_5 m0 m5
  refine main (d.fmod 5) m0 (by omega) (fun w => absurd z w) (by rw [z]; exact h0) ?_
  rw [z]
  unfold fC
  by_cases c':deep = 1
  ·subst c'
   simp [mod_i]
  ·have c2:b < (nf d:Int):=by rcases c with q | q; exact absurd q c'; exact q
   have t1:(deep == 1) = false:=beq_false_of_ne c'
   simp [t1,ixb,c2,mod_i]
 ·have c1:deep ≠ 1:=fun q => c (.inl q)
  have c2:¬ b < (nf d:Int):=fun q => c (.inr q)
  refine main d d0 d1 (fun _ => by omega) (by omega) ?_
  have t1:(deep == 1) = false:=beq_false_of_ne c1
  unfold fC
  simp [t1,ixb,c2]
def WL:List Wv:=[.str "minus",.str "not",.str "find",.str "+",.str "-",.str "*",.str "/",.str "&",.str "<",.str "=",.str "rest",.str "else",.str "if"]
theorem restW {deep kind:Int} {l r k m:Nat} {fs:List Fm} {x:S} {st:Hs} (hx:L2.atI WL (kind - 5) = some (.str x)) (h5:¬ kind < 5) (h7:kind ≠ 7) (hf:fs ≠ []) (hl:fs.length ≤ 3) (hk:st[k]? = some (.lst (fs.map Fm.w))) :
  fRest [some (.ref l),some (.int deep),some (.ref r),some (.int kind),some (.int (m:Int)),some (.ref k),none,none] st = .rt (.tup (.str x :: fs.map Fm.w)) (st ++ [.lst WL]):=by
 have kl:kLst WL st = .ok (.ref st.length) (st ++ [.lst WL]):=kLst_d (by decide)
 have ix:oIx (.ref st.length) (.int (kind - 5)) (st ++ [.lst WL]) = .ok (.str x) (st ++ [.lst WL]):=ix_l lstOf_new hx
 have tp:oTupC [.ref k] (st ++ [.lst WL]) = .ok (.tup (fs.map Fm.w)) (st ++ [.lst WL]):=by
  show (match lstOf (st ++ [Ob.lst WL]) k with | some ws => Re.ok (Wv.tup ws) (st ++ [Ob.lst WL]) | none => .bad) = _
  rw [lst_get (push_get hk)]
 generalize st ++ [Ob.lst WL] = s at kl ix tp
 have ad:oAdd (.tup [.str x]) (.tup (fs.map Fm.w)) s = .ok (.tup (.str x :: fs.map Fm.w)) s:=cat (xs:=[]) (by rw [List.length_map]; simp; omega)
 have t5:decide (kind < 5) = false:=decide_eq_false h5
 have t7:(kind == 7) = false:=beq_false_of_ne h7
 unfold WL at kl
 unfold fRest
 simp only [e_seq,e_if,e_tst,e_bin,e_var,rdV_s,List.getElem?_cons_zero,List.getElem?_cons_succ,bind_ok,kB_d,e_c,lt_i,nox_ok,tst_b,thn_ok,t5,kIf_f,e_next,sq_nx,eq_i,t7,e_set,e_lst,e_cons,kCons_d,e_nil,kl,List.set,e_ret,e_tup,sub_i,ix,kTup_1,e_callB,tp,ad]
theorem kinds {kind:Int} (h0:0 ≤ kind) (h18:kind < 18) (c5:¬ kind < 5) (c7:kind ≠ 7):kind = 5 ∨ kind = 6 ∨ kind = 8 ∨ kind = 9 ∨ kind = 10 ∨ kind = 11 ∨ kind = 12 ∨ kind = 13 ∨ kind = 14 ∨ kind = 15 ∨ kind = 16 ∨ kind = 17:=by
 obtain ⟨n,rfl⟩:=Int.eq_ofNat_of_zero_le h0
 have q:∀ k:Fin 18,¬ ((k.1:Nat):Int) < 5 → ((k.1:Nat):Int) ≠ 7 → (((k.1:Nat):Int) = 5 ∨ ((k.1:Nat):Int) = 6 ∨ ((k.1:Nat):Int) = 8 ∨ ((k.1:Nat):Int) = 9 ∨ ((k.1:Nat):Int) = 10 ∨ ((k.1:Nat):Int) = 11 ∨ ((k.1:Nat):Int) = 12 ∨ ((k.1:Nat):Int) = 13 ∨ ((k.1:Nat):Int) = 14 ∨ ((k.1:Nat):Int) = 15 ∨ ((k.1:Nat):Int) = 16 ∨ ((k.1:Nat):Int) = 17):=by decide +kernel
 exact q ⟨n,by omega⟩ c5 c7
theorem rest {deep kind:Int} {l r k:Nat} {a:Int} {fs:List Fm} {st:Hs} (h0:0 ≤ kind) (h18:kind < 18) (ha:st[l]? = some (.lst [.int a])) (hkl:k ≠ l) (hk:st[k]? = some (.lst (fs.map Fm.w))) (hf:fs.length = nf kind) (ho:∀ f ∈ fs,f.ok ∧ (f.dp:Int) ≤ deep - 1) (hd:1 ≤ deep) :
  ∃ (f:Fm) (a':Int) (st':Hs),fRest [some (.ref l),some (.int deep),some (.ref r),some (.int kind),some (.int (nf kind:Nat)),some (.ref k),none,none] st = .rt f.w st' ∧ Keep l st st' ∧ st'[l]? = some (.lst [.int a']) ∧ f.ok ∧ (f.dp:Int) ≤ deep ∧ f.sz = 1 + szs fs:=by
 by_cases c5:kind < 5
 ·obtain ⟨f,a',st',e,q1,q2,q3,q4,q5⟩:=leaf ha h0 c5
  have z:=nf_5 h0 c5
  have fn:fs = []:=List.eq_nil_of_length_eq_zero (hf.trans z)
  refine ⟨f,a',st',?_,q1,q2,q3,by omega,by rw [q4,fn]; rfl⟩
  have t5:decide (kind < 5) = true:=decide_eq_true c5
  unfold fRest
  simp [t5,e]
 by_cases c7:kind = 7
 ·subst c7
  obtain ⟨f0,rfl⟩:∃ f0,fs = [f0]:=by
   match fs,hf with
   | [f0],_ => exact ⟨f0,rfl⟩
  obtain ⟨xa,xb,xc,xd,n3,s3,e3,k3,h3,i1⟩:=area ha
  obtain ⟨p,q,r',s',n4,s4,e4,⟨p1,p2,p3,p4⟩,k4,h4⟩:=pins4 h3
  have lk:s3[k]? = some (.lst [f0.w]):=by rw [k3.2 k (get_lt hk) hkl]; exact hk
  have ix:oIx (.ref k) (.int 0) s3 = .ok f0.w s3:=ix_l (lst_get lk) (L2.atI_nat (j:=0) rfl)
  have q':=ho f0 List.mem_cons_self
  refine ⟨.fd f0 [xa,xb,xc,xd] [p,q,r',s'],n4,s4,?_,k3.trans k4,h4,⟨q'.1,xa,xb,xc,xd,p,q,r',s',rfl,rfl,i1,p1,p2,p3,p4⟩,?_,?_⟩
  ·unfold fRest
   simp [e3,ix,e4]
   rfl
  ·show ((f0.dp + 1:Nat):Int) ≤ deep
   omega
  ·show f0.sz + 1 = 1 + (f0.sz + 0)
   omega
 have cs:kind = 5 ∨ kind = 6 ∨ kind = 8 ∨ kind = 9 ∨ kind = 10 ∨ kind = 11 ∨ kind = 12 ∨ kind = 13 ∨ kind = 14 ∨ kind = 15 ∨ kind = 16 ∨ kind = 17:=kinds h0 h18 c5 c7
 have one:∀ (mk:Fm → Fm) (x:S),L2.atI WL (kind - 5) = some (.str x) → fs.length = 1 → (∀ f,(mk f).w = .tup [.str x,f.w] ∧ (f.ok → (mk f).ok) ∧ (mk f).dp = f.dp + 1 ∧ (mk f).sz = f.sz + 1) → ∃ (f:Fm) (a':Int) (st':Hs),fRest [some (.ref l),some (.int deep),some (.ref r),some (.int kind),some (.int (nf kind:Nat)),some (.ref k),none,none] st = .rt f.w st' ∧ Keep l st st' ∧ st'[l]? = some (.lst [.int a']) ∧ f.ok ∧ (f.dp:Int) ≤ deep ∧ f.sz = 1 + szs fs:=by
  intro mk x hx hl1 hm
  match fs,hl1,hk,ho with
  | [f],_,hk,ho =>
   obtain ⟨m1,m2,m3,m4⟩:=hm f
   have q:=ho f List.mem_cons_self
   refine ⟨mk f,a,st ++ [.lst WL],?_,Keep.push,push_get ha,m2 q.1,by rw [m3]; omega,?_⟩
   ·rw [restW hx c5 c7 (by simp) (by simp) hk,m1]
    rfl
   ·rw [m4]
    show f.sz + 1 = 1 + (f.sz + 0)
    omega
 have two:∀ (mk:Fm → Fm → Fm) (x:S),L2.atI WL (kind - 5) = some (.str x) → fs.length = 2 → (∀ f g,(mk f g).w = .tup [.str x,f.w,g.w] ∧ (f.ok → g.ok → (mk f g).ok) ∧ (mk f g).dp = max f.dp g.dp + 1 ∧ (mk f g).sz = f.sz + g.sz + 1) → ∃ (f:Fm) (a':Int) (st':Hs),fRest [some (.ref l),some (.int deep),some (.ref r),some (.int kind),some (.int (nf kind:Nat)),some (.ref k),none,none] st = .rt f.w st' ∧ Keep l st st' ∧ st'[l]? = some (.lst [.int a']) ∧ f.ok ∧ (f.dp:Int) ≤ deep ∧ f.sz = 1 + szs fs:=by
  intro mk x hx hl1 hm
  match fs,hl1,hk,ho with
  | [f,g],_,hk,ho =>
   obtain ⟨m1,m2,m3,m4⟩:=hm f g
   have q:=ho f (by simp)
   have q':=ho g (by simp)
   refine ⟨mk f g,a,st ++ [.lst WL],?_,Keep.push,push_get ha,m2 q.1 q'.1,by rw [m3]; omega,?_⟩
   ·rw [restW hx c5 c7 (by simp) (by simp) hk,m1]
    rfl
   ·rw [m4]
    show f.sz + g.sz + 1 = 1 + (f.sz + (g.sz + 0))
    omega
 rcases cs with rfl | rfl | rfl | rfl | rfl | rfl | rfl | rfl | rfl | rfl | rfl | rfl
 ·exact one (.o1 "minus") "minus" rfl hf fun f => ⟨rfl,fun h => ⟨by decide +kernel,h⟩,rfl,rfl⟩
 ·exact one (.o1 "not") "not" rfl hf fun f => ⟨rfl,fun h => ⟨by decide +kernel,h⟩,rfl,rfl⟩
 ·exact two (.o2 "+") "+" rfl hf fun f g => ⟨rfl,fun h h2 => ⟨by decide +kernel,h,h2⟩,rfl,rfl⟩
 ·exact two (.o2 "-") "-" rfl hf fun f g => ⟨rfl,fun h h2 => ⟨by decide +kernel,h,h2⟩,rfl,rfl⟩
 ·exact two (.o2 "*") "*" rfl hf fun f g => ⟨rfl,fun h h2 => ⟨by decide +kernel,h,h2⟩,rfl,rfl⟩
 ·exact two (.o2 "/") "/" rfl hf fun f g => ⟨rfl,fun h h2 => ⟨by decide +kernel,h,h2⟩,rfl,rfl⟩
 ·exact two (.o2 "&") "&" rfl hf fun f g => ⟨rfl,fun h h2 => ⟨by decide +kernel,h,h2⟩,rfl,rfl⟩
 ·exact two (.o2 "<") "<" rfl hf fun f g => ⟨rfl,fun h h2 => ⟨by decide +kernel,h,h2⟩,rfl,rfl⟩
 ·exact two (.o2 "=") "=" rfl hf fun f g => ⟨rfl,fun h h2 => ⟨by decide +kernel,h,h2⟩,rfl,rfl⟩
 ·exact two (.o2 "rest") "rest" rfl hf fun f g => ⟨rfl,fun h h2 => ⟨by decide +kernel,h,h2⟩,rfl,rfl⟩
 ·exact two (.o2 "else") "else" rfl hf fun f g => ⟨rfl,fun h h2 => ⟨by decide +kernel,h,h2⟩,rfl,rfl⟩
 ·have hl3:fs.length = 3:=hf
  match fs,hl3,hk,ho with
  | [f,g,e],_,hk,ho =>
   have q1:=ho f (by simp)
   have q2:=ho g (by simp)
   have q3:=ho e (by simp)
   refine ⟨.o3 f g e,a,st ++ [.lst WL],?_,Keep.push,push_get ha,⟨q1.1,q2.1,q3.1⟩,?_,?_⟩
   ·rw [restW (x:="if") rfl c5 c7 (by simp) (by simp) hk]
    rfl
   ·show ((max f.dp (max g.dp e.dp) + 1:Nat):Int) ≤ deep
    omega
   ·show f.sz + g.sz + e.sz + 1 = 1 + (f.sz + (g.sz + (e.sz + 0)))
    omega
theorem fd:∀ n,Fd n
 | 0 => fun deep l r a b st h1 h2 => by omega
 | n + 1 => fun deep l r a b st h1 h2 hlr ha hb h0 => by
  obtain ⟨kind,fs,a1,b1,s1,k,e,c0,c1,q1,q2,q3,q4,q5,q6,q7,q8,q9⟩:=pre (fd n) (deep:=deep) h1 (by omega) hlr ha hb h0
  obtain ⟨f,a2,s2,e2,p1,p2,p3,p4,p5⟩:=rest (deep:=deep) (r:=r) c0 c1 q2 q5 q6 q7 q8 h1
  refine ⟨f,a2,b1,s2,?_,q1.trans (Kp.own p1),p2,?_,q4,p3,p4,by rw [p5]; omega⟩
  ·rw [R__law_formula_succ]
   exact fn_rt (by
    show g__law_formula (R__law_formula n) [some (.ref l),some (.int deep),some (.ref r),none,none,none,none,none] st = _
    rw [e,e2])
  ·rw [p1.2 r (get_lt q3) (fun z => hlr z.symm)]
   exact q3
theorem f2 {i:Int} {st:Hs}:oFdiv (.int i) (.int 2) st = .ok (.int (i.fdiv 2)) st:=fdiv_i (by decide)
theorem f8 {i:Int} {st:Hs}:oFdiv (.int i) (.int 8) st = .ok (.int (i.fdiv 8)) st:=fdiv_i (by decide)
theorem own {st:Hs} {c:Int}:∃ n:Int,F__law_own [.int c] st = .ok (.ref st.length) (st ++ [.lst [.int n]]):=by
 have loop:∀ (a:Option Wv) (g s:Int),0 ≤ s → s < 2147483648 → ∃ (o3:Option Wv) (g' s':Int),forT 3 g__law_own_L1 (rngW 0 60) [a,some (.int g),some (.int s),none] st = .nx [a,some (.int g'),some (.int s'),o3] st:=by
  intro a g s h0 h1
  obtain ⟨ρ,st',e,q⟩:=forT_inv (i:=3) (gb:=g__law_own_L1) (fun ρ st' => ∃ (o3:Option Wv) (g s:Int),0 ≤ s ∧ s < 2147483648 ∧ ρ = [a,some (.int g),some (.int s),o3] ∧ st' = st) (rngW 0 60) [a,some (.int g),some (.int s),none] st ⟨none,g,s,h0,h1,rfl,rfl⟩ (by
   rintro w hw _ st ⟨o3,g,s,h0,h1,rfl,rfl⟩
   obtain ⟨k,rfl,k0,k1⟩:=rng_mem hw
   have z1:oMulL (.int s) (.int s) st = .ok (.int (s * s)) st:=mul_l (by omega) (by omega)
   have z2:oMulL (.int 977) (.int k) st = .ok (.int (977 * k)) st:=mul_l (by decide) (by decide)
   have z3:oMulL (.int g) (.int 268435399) st = .ok (.int (g * 268435399)) st:=mul_r (by decide) (by decide)
   generalize hs:(s * s + 977 * k + 1).fmod 2147483647 = s'
   have s0:0 ≤ s':=by rw [← hs]; exact Int.fmod_nonneg_of_pos _ (by decide)
   have s1:s' < 2147483647:=by rw [← hs]; exact Int.fmod_lt_of_pos _ (by decide)
   have z4:oMulL (.int s') (.int 69621) st = .ok (.int (s' * 69621)) st:=mul_r (by decide) (by decide)
   refine ⟨_,_,?_,⟨some (.int k),g * 268435399 + ((s' * 69621).fmod 2147483647).fdiv 8,s',s0,by omega,rfl,rfl⟩⟩
   unfold g__law_own_L1
   simp [z1,z2,z3,z4,mod_i,hs,f8])
  obtain ⟨o3,g',s',_,_,rfl,rfl⟩:=q
  exact ⟨o3,g',s',e⟩
 unfold F__law_own fnF g__law_own
 by_cases b:(if c < 0 then -c else c).fmod 2 = 1
 ·exact ⟨_,by simp [mod_i,b,f2]; rfl⟩
 ·have b':((if c < 0 then -c else c).fmod 2 == 1) = false:=beq_false_of_ne b
  generalize hs:((if c < 0 then -c else c).fdiv 2).fmod 2147483629 + 1 = s
  have s0:0 ≤ s:=by have:=Int.fmod_nonneg_of_pos ((if c < 0 then -c else c).fdiv 2) (b:=2147483629) (by decide); omega
  have s1:s < 2147483648:=by have:=Int.fmod_lt_of_pos ((if c < 0 then -c else c).fdiv 2) (b:=2147483629) (by decide); omega
  obtain ⟨o3,g',s',e⟩:=loop (some (.int (if c < 0 then -c else c))) 0 s s0 s1
  have c60:CRng 60:=crng (by decide) (by decide)
  exact ⟨g',by simp [mod_i,b',f2,hs,c60,e]⟩
theorem in_t {x:S} {ys:List S} {st:Hs}:oIn2 (.str x) (.tup (ys.map Wv.str)) st = .ok (.bl (decide (x ∈ ys))) st:=by
 have e1:(ys.map Wv.str).all flatW = true:=by
  rw [List.all_eq_true]
  intro w hw
  obtain ⟨y,_,rfl⟩:=List.mem_map.mp hw
  rfl
 have e2:((ys.map Wv.str).any fun z => eqF z (.str x)) = decide (x ∈ ys):=by
  rw [List.any_map]
  induction ys with
  | nil => rfl
  | cons y r ih =>
   rw [List.any_cons,ih (by rw [List.all_eq_true]; intro w hw; obtain ⟨y,_,rfl⟩:=List.mem_map.mp hw; rfl)]
   show ((y == x) || decide (x ∈ r)) = _
   by_cases c:y = x
   ·subst c; simp
   ·have:(y == x) = false:=beq_false_of_ne c
    rw [this]
    simp [Ne.symm c]
 show (if flatW (.str x) = true ∧ (ys.map Wv.str).all flatW = true then Re.ok (Wv.bl ((ys.map Wv.str).any fun z => eqF z (.str x))) st else .bad) = _
 rw [if_pos ⟨rfl,e1⟩,e2]
def AF:List S:=["sum","count","least","greatest","find"]
theorem has_area {x:S} {st:Hs}:F_has_area [.str x] st = .ok (.bl (decide (x ∈ AF))) st:=by
 have e:oIn2 (.str x) (.ktp [.str "sum",.str "count",.str "least",.str "greatest",.str "find"]) st = .ok (.bl (decide (x ∈ AF))) st:=in_t (ys:=AF)
 unfold F_has_area fnF g_has_area
 simp [e]
theorem ix0 {x:Wv} {ws:List Wv} {st:Hs}:oIx (.tup (x :: ws)) (.int 0) st = .ok x st:=ix_t (L2.atI_nat (j:=0) rfl)
theorem ix1 {x y:Wv} {ws:List Wv} {st:Hs}:oIx (.tup (x :: y :: ws)) (.int 1) st = .ok y st:=ix_t (L2.atI_nat (j:=1) rfl)
theorem sl_t {ws us:List Wv} {lo hi:Option Int} {st:Hs} (h:¬ isWh ws.length lo hi) (h2:cutW ws lo hi = us):oSl2 (.tup ws) lo hi st = .ok (.tup us) st:=by
 show (if isWh ws.length lo hi then Re.ok (Wv.tup ws) st else oSl (.tup ws) lo hi st) = _
 rw [if_neg h]
 show (if isWh ws.length lo hi then Re.bad else Re.ok (Wv.tup (cutW ws lo hi)) st) = _
 rw [if_neg h,h2]
theorem part_many {x:S} {k:Int} {st:Hs} (h:d_PART_COUNTS.lookup x = some (.int k)):F_part_many [.str x] st = .ok (.int k) st:=by
 unfold F_part_many fnF g_part_many
 simp [kDcIx_s h]
theorem parts_of {x:S} {k:Int} {ws us:List Wv} (h:d_PART_COUNTS.lookup x = some (.int k)) (n1:¬ isWh (ws.length + 1) (some 1) (some (1 + k))) (hc:cutW (.str x :: ws) (some 1) (some (1 + k)) = us) (st:Hs):F_parts_of [.tup (.str x :: ws)] st = .ok (.tup us) st:=by
 unfold F_parts_of fnF g_parts_of
 have s:=sl_t (ws:=.str x :: ws) (us:=us) (lo:=some 1) (hi:=some (1 + k)) (st:=st) n1 hc
 simp [ix0,part_many h,s]
theorem tail_of {x:S} {k:Int} {ws us:List Wv} (h:d_PART_COUNTS.lookup x = some (.int k)) (n1:¬ isWh (ws.length + 1) (some (1 + k)) none) (hc:cutW (.str x :: ws) (some (1 + k)) none = us) (st:Hs):F_tail_of [.tup (.str x :: ws)] st = .ok (.tup us) st:=by
 unfold F_tail_of fnF g_tail_of
 have s:=sl_t (ws:=.str x :: ws) (us:=us) (lo:=some (1 + k)) (hi:=none) (st:=st) n1 hc
 simp [ix0,part_many h,s]
def Fm.kids:Fm → List Fm
 | .lit _ _ => []
 | .pt _ _ _ => []
 | .fd a _ _ => [a]
 | .o1 _ a => [a]
 | .o2 _ a b => [a,b]
 | .o3 a b c => [a,b,c]
def Fm.tl:Fm → List Wv
 | .lit _ ws => ws
 | .pt _ l p => [tI l,tI p]
 | .fd _ l p => [tI l,tI p]
 | _ => []
theorem lk1 {x:S} (h:x ∈ W1):d_PART_COUNTS.lookup x = some (.int 1):=by
 simp only [W1,List.mem_cons,List.not_mem_nil,or_false] at h
 rcases h with rfl | rfl <;> rfl
theorem lk2 {x:S} (h:x ∈ W2):d_PART_COUNTS.lookup x = some (.int 2):=by
 simp only [W2,List.mem_cons,List.not_mem_nil,or_false] at h
 rcases h with rfl | rfl | rfl | rfl | rfl | rfl | rfl | rfl | rfl <;> rfl
theorem lk0 {x:S} (h:x ∈ AW):d_PART_COUNTS.lookup x = some (.int 0):=by
 simp only [AW,List.mem_cons,List.not_mem_nil,or_false] at h
 rcases h with rfl | rfl | rfl | rfl <;> rfl
theorem node {f:Fm} (h:f.ok):(∀ st,F_parts_of [f.w] st = .ok (.tup (f.kids.map Fm.w)) st) ∧ ∀ st,F_tail_of [f.w] st = .ok (.tup f.tl) st:=by
 cases f with
 | lit x ws =>
  rcases h with ⟨rfl,i,rfl,_⟩ | ⟨rfl,s,rfl,_⟩ | ⟨rfl,rfl⟩
  ·exact ⟨parts_of (k:=0) rfl (by show ¬ isWh 2 (some 1) (some (1 + 0)); decide +kernel) rfl,tail_of (k:=0) rfl (by show ¬ isWh 2 (some (1 + 0)) none; decide +kernel) rfl⟩
  ·exact ⟨parts_of (k:=0) rfl (by show ¬ isWh 2 (some 1) (some (1 + 0)); decide +kernel) rfl,tail_of (k:=0) rfl (by show ¬ isWh 2 (some (1 + 0)) none; decide +kernel) rfl⟩
  ·exact ⟨parts_of (k:=0) rfl (by show ¬ isWh 1 (some 1) (some (1 + 0)); decide +kernel) rfl,tail_of (k:=0) rfl (by show ¬ isWh 1 (some (1 + 0)) none; decide +kernel) rfl⟩
 | pt x l p =>
  have lk:d_PART_COUNTS.lookup x = some (.int 0):=by
   rcases h with ⟨rfl,_⟩ | ⟨hx,_⟩
   ·rfl
   ·exact lk0 hx
  exact ⟨parts_of (k:=0) lk (by show ¬ isWh 3 (some 1) (some (1 + 0)); decide +kernel) rfl,tail_of (k:=0) lk (by show ¬ isWh 3 (some (1 + 0)) none; decide +kernel) rfl⟩
 | fd a l p => exact ⟨parts_of (k:=1) rfl (by show ¬ isWh 4 (some 1) (some (1 + 1)); decide +kernel) rfl,tail_of (k:=1) rfl (by show ¬ isWh 4 (some (1 + 1)) none; decide +kernel) rfl⟩
 | o1 x a => exact ⟨parts_of (k:=1) (lk1 h.1) (by show ¬ isWh 2 (some 1) (some (1 + 1)); decide +kernel) rfl,tail_of (k:=1) (lk1 h.1) (by show ¬ isWh 2 (some (1 + 1)) none; decide +kernel) rfl⟩
 | o2 x a b => exact ⟨parts_of (k:=2) (lk2 h.1) (by show ¬ isWh 3 (some 1) (some (1 + 2)); decide +kernel) rfl,tail_of (k:=2) (lk2 h.1) (by show ¬ isWh 3 (some (1 + 2)) none; decide +kernel) rfl⟩
 | o3 a b c => exact ⟨parts_of (k:=3) rfl (by show ¬ isWh 4 (some 1) (some (1 + 3)); decide +kernel) rfl,tail_of (k:=3) rfl (by show ¬ isWh 4 (some (1 + 3)) none; decide +kernel) rfl⟩
theorem Gr.setNew {base st:Hs} {rr:Nat} {o:Ob} (h:base.length ≤ rr) (g:Gr base st):Gr base (st.set rr o):=⟨by simpa using g.1,fun j hj => by rw [List.getElem?_set_ne (by omega)]; exact g.2 j hj⟩
theorem tupC {l:Nat} {st:Hs} {ws:List Wv} (h:st[l]? = some (.lst ws)):oTupC [.ref l] st = .ok (.tup ws) st:=by
 show (match lstOf st l with | some ws => Re.ok (Wv.tup ws) st | none => .bad) = _
 rw [lst_get h]
theorem bls_rep:∀ n:Nat,blsOf (List.replicate n (.bl true)) = some (List.replicate n true)
 | 0 => rfl
 | n + 1 => by
  rw [List.replicate_succ]
  unfold blsOf
  rw [bls_rep n]
  rfl
theorem all_rep {l n:Nat} {st:Hs} (h:lstOf st l = some (List.replicate n (.bl true))):oAll [.ref l] st = .ok (.bl true) st:=by
 show (match lstOf st l with | some ws => (match blsOf ws with | some bs => Re.ok (Wv.bl (bs.all id)) st | none => .bad) | none => .bad) = _
 rw [h]
 dsimp only
 rw [bls_rep]
 dsimp only
 congr 2
 rw [List.all_eq_true]
 intro x hx
 exact (List.mem_replicate.mp hx).2
theorem comp_true {cs:Caps} {gt:GT} {ge:GE} {ρ:Rho} {ws:List Wv} {st:Hs} (h1:∀ v ∈ ws,∀ s,gt (some v :: capR cs ρ) s = .ok true s) (h2:∀ v ∈ ws,∀ s,ge (some v :: capR cs ρ) s = .ok (.bl true) s) (hl:ws.length < lim) :
  compRun cs gt ge ρ (none,ws) st = .ok (.ref st.length) (st ++ [.lst (List.replicate ws.length (.bl true))]):=by
 rw [comp_pure (w:=(none,ws)) (t:=fun _ => true) (f:=fun _ => .bl true) trivial (fun v hv acc => h1 v hv _) (fun v hv _ acc => h2 v hv _) hl]
 have e:((ws.filter fun _ => true).map fun _ => Wv.bl true) = List.replicate ws.length (Wv.bl true):=by
  rw [List.filter_eq_self.mpr (fun _ _ => rfl),List.map_const']
 show Re.ok _ (st ++ [.lst ((ws.filter fun _ => true).map fun _ => Wv.bl true)]) = _
 rw [e]
theorem tup_is {ws:List Wv} {st:Hs}:oIsA tbl tblT [.tup ws,.ty "tuple"] st = .ok (.bl true) st:=rfl
theorem str_is {x:S} {st:Hs}:oIsA tbl tblT [.str x,.ty "str"] st = .ok (.bl true) st:=rfl
theorem int_is {i:Int} {st:Hs}:oIsA tbl tblT [.int i,.ty "int"] st = .ok (.bl true) st:=rfl
theorem int_nb {i:Int} {st:Hs}:oIsA tbl tblT [.int i,.ty "bool"] st = .ok (.bl false) st:=rfl
theorem len_t {ws:List Wv} {st:Hs}:oLen [.tup ws] st = .ok (.int ws.length) st:=rfl
theorem is_whole {i:Int} {st:Hs}:F_is_whole [.int i] st = .ok (.bl true) st:=by
 unfold F_is_whole fnF g_is_whole
 simp [int_is,int_nb]
theorem number_row {l:List Int} {n:Nat} (hn:l.length = n) (hl:n ≤ 10) (st:Hs):F_is_number_row [tI l,.int (n:Nat)] st = .ok (.bl true) (st ++ [.lst (List.replicate n (.bl true))]):=by
 subst hn
 have c:=comp_true (cs:=[]) (gt:=g_is_number_row_C1t) (ge:=g_is_number_row_C1e) (ρ:=[some (tI l),some (.int (l.length:Nat))]) (ws:=l.map Wv.int) (st:=st) (fun _ _ _ => rfl) (fun v hv s => by
  obtain ⟨i,_,rfl⟩:=List.mem_map.mp hv
  unfold g_is_number_row_C1e
  simp [is_whole]) (by rw [List.length_map]; unfold lim; omega)
 rw [List.length_map] at c
 have q:=all_rep (st:=st ++ [.lst (List.replicate l.length (.bl true))]) (l:=st.length) lstOf_new
 unfold F_is_number_row fnF g_is_number_row
 unfold tI at c ⊢
 simp [tup_is,len_t,c,q]
theorem are_pins {l:List Int} {n:Nat} (hn:l.length = n) (hl:n ≤ 10) (h:∀ q ∈ l,P01 q) (st:Hs):∃ st',F_are_pins [tI l,.int (n:Nat)] st = .ok (.bl true) st' ∧ Gr st st':=by
 have r:=number_row hn hl st
 subst hn
 have g1:Gr st (st ++ [.lst (List.replicate l.length (.bl true))]):=Gr.push
 generalize st ++ [.lst (List.replicate l.length (.bl true))] = s1 at r g1
 have c:=comp_true (cs:=[]) (gt:=g_are_pins_C1t) (ge:=g_are_pins_C1e) (ρ:=[some (tI l),some (.int (l.length:Nat))]) (ws:=l.map Wv.int) (st:=s1) (fun _ _ _ => rfl) (fun v hv s => by
  obtain ⟨i,hi,rfl⟩:=List.mem_map.mp hv
  have e:oIn2 (.int i) (.tup [.int 0,.int 1]) s = .ok (.bl true) s:=by
   rcases h i hi with rfl | rfl <;> rfl
  unfold g_are_pins_C1e
  simp [e]) (by rw [List.length_map]; unfold lim; omega)
 rw [List.length_map] at c
 have q:=all_rep (st:=s1 ++ [.lst (List.replicate l.length (.bl true))]) (l:=s1.length) lstOf_new
 refine ⟨_,?_,g1.trans (Gr.push (o:=.lst (List.replicate l.length (.bl true))))⟩
 unfold F_are_pins fnF g_are_pins
 unfold tI at r c ⊢
 simp [r,c,q]
theorem is_place {a b:Int} {st:Hs} (h:PlOk a b):F_is_place [.tup [.int a,.int b]] st = .ok (.bl true) st:=by
 obtain ⟨h1,h2,h3,h4⟩:=h
 have a0:oIx (.tup [.int a,.int b]) (.int 0) st = .ok (.int a) st:=ix_t rfl
 have a1:oIx (.tup [.int a,.int b]) (.int 1) st = .ok (.int b) st:=ix_t rfl
 unfold F_is_place fnF g_is_place
 simp [a0,a1,h1,h2,h3,h4]
theorem is_area {a b c d:Int} {st:Hs} (h:ArOk a b c d):F_is_area [.tup [.int a,.int b,.int c,.int d]] st = .ok (.bl true) st:=by
 obtain ⟨h1,h2,h3,h4,h5,h6,h7⟩:=h
 have x0:oIx (.tup [.int a,.int b,.int c,.int d]) (.int 0) st = .ok (.int a) st:=ix_t rfl
 have x1:oIx (.tup [.int a,.int b,.int c,.int d]) (.int 1) st = .ok (.int b) st:=ix_t rfl
 have x2:oIx (.tup [.int a,.int b,.int c,.int d]) (.int 2) st = .ok (.int c) st:=ix_t rfl
 have x3:oIx (.tup [.int a,.int b,.int c,.int d]) (.int 3) st = .ok (.int d) st:=ix_t rfl
 have s1:oSl2 (.tup [.int a,.int b,.int c,.int d]) none (some 2) st = .ok (.tup [.int a,.int b]) st:=sl_t (by show ¬ isWh 4 none (some 2); decide +kernel) rfl
 have s2:oSl2 (.tup [.int a,.int b,.int c,.int d]) (some 2) none st = .ok (.tup [.int c,.int d]) st:=sl_t (by show ¬ isWh 4 (some 2) none; decide +kernel) rfl
 have p1:=is_place (a:=a) (b:=b) (st:=st) ⟨h1,by omega,h4,by omega⟩
 have p2:=is_place (a:=c) (b:=d) (st:=st) ⟨by omega,h3,by omega,h6⟩
 have hc:F_has_corners [.tup [.int a,.int b,.int c,.int d]] st = .ok (.bl true) st:=by
  unfold F_has_corners fnF g_has_corners
  simp [x0,x1,x2,x3,h2,h5,s1,s2,p1,p2]
 have m:oMulL (.int (c - a + 1)) (.int (d - b + 1)) st = .ok (.int ((c - a + 1) * (d - b + 1))) st:=mul_l (by omega) (by omega)
 have hm:F_area_many [.tup [.int a,.int b,.int c,.int d]] st = .ok (.int ((c - a + 1) * (d - b + 1))) st:=by
  unfold F_area_many fnF g_area_many
  simp [x0,x1,x2,x3,m]
 unfold F_is_area fnF g_is_area
 simp [hc,hm,h7]
theorem text_sign {c:Nat} {st:Hs} (h:Sg c):F_is_text_sign [.int (c:Nat)] st = .ok (.bl true) st:=by
 obtain ⟨h1,h2,h3,h4⟩:=h
 have n1:oNe (.int (c:Nat)) (.int 34) st = .ok (.bl true) st:=by rw [ne_i]; congr 2; simp; omega
 have n2:oNe (.int (c:Nat)) (.int 37) st = .ok (.bl true) st:=by rw [ne_i]; congr 2; simp; omega
 have l1:(32:Int) ≤ (c:Nat):=by omega
 have l2:((c:Nat):Int) ≤ 126:=by omega
 unfold F_is_text_sign fnF g_is_text_sign
 simp [-ne_i,l1,l2,n1,n2]
theorem is_text {x:S} (h:TxOk x) (st:Hs):∃ st',F_is_text [.str x] st = .ok (.bl true) st' ∧ Gr st st':=by
 have c:=comp_true (cs:=[]) (gt:=g_has_text_signs_C1t) (ge:=g_has_text_signs_C1e) (ρ:=[some (.str x)]) (ws:=signsW x) (st:=st) (fun _ _ _ => rfl) (fun v hv s => by
  unfold signsW at hv
  obtain ⟨i,hi,rfl⟩:=List.mem_map.mp hv
  have o:oOrd [.str ⟨#[i]⟩] s = .ok (.int (i:Nat)) s:=rfl
  unfold g_has_text_signs_C1e
  simp [o,text_sign (h.2 i hi)]) (by
   have:=h.1
   unfold signsW lim
   rw [List.length_map]
   show x.cps.toList.length < _
   rw [Array.length_toList]
   exact Nat.lt_of_le_of_lt (h.1:x.cps.size ≤ 40) (by decide))
 have q:=all_rep (st:=st ++ [.lst (List.replicate (signsW x).length (.bl true))]) (l:=st.length) lstOf_new
 have g1:Gr st (st ++ [.lst (List.replicate (signsW x).length (.bl true))]):=Gr.push
 generalize st ++ [.lst (List.replicate (signsW x).length (.bl true))] = s1 at c q g1
 have ht:F_has_text_signs [.str x] st = .ok (.bl true) s1:=by
  unfold F_has_text_signs fnF g_has_text_signs
  simp [c,q]
 have ln:oLen [.str x] st = .ok (.int x.length) st:=len_s (Nat.le_trans h.1 (by decide))
 have l40:(x.length:Int) ≤ 40:=by have:=h.1; omega
 refine ⟨s1,?_,g1⟩
 unfold F_is_text fnF g_is_text
 simp [str_is,ln,l40,ht]
theorem is_tail {f:Fm} (h:f.ok) (st:Hs):∃ st',F_is_tail [.str f.v.1,.tup f.tl] st = .ok (.bl true) st' ∧ Gr st st':=by
 have fin4:∀ {x:S} {l p:List Int},((x == "num") = false ∧ (x == "text") = false ∧ (x == "at") = false) → x ∈ AF → Sh4 l p → ∃ st',F_is_tail [.str x,.tup [tI l,tI p]] st = .ok (.bl true) st' ∧ Gr st st':=by
  rintro x l p ⟨n1,n2,n3⟩ ha ⟨a,b,c,d,q,r,s,t,rfl,rfl,ho,q1,q2,q3,q4⟩
  have r1:=number_row (l:=[a,b,c,d]) (n:=4) rfl (by decide) st
  have g1:Gr st (st ++ [.lst (List.replicate 4 (.bl true))]):=Gr.push
  generalize st ++ [.lst (List.replicate 4 (.bl true))] = s1 at r1 g1
  obtain ⟨s2,e2,g2⟩:=are_pins (l:=[q,r,s,t]) (n:=4) rfl (by decide) (by simp [q1,q2,q3,q4]) s1
  have i:=is_area (st:=s1) ho
  refine ⟨s2,?_,g1.trans g2⟩
  have hr:F_is_number_row [tI [a,b,c,d],.int 4] st = .ok (.bl true) s1:=r1
  have hp:F_are_pins [tI [q,r,s,t],.int 4] s1 = .ok (.bl true) s2:=e2
  have i':F_is_area [tI [a,b,c,d]] s1 = .ok (.bl true) s1:=i
  unfold F_is_tail fnF g_is_tail
  simp [n1,n2,n3,has_area,ha,len_t,ix0,ix1,hr,i',hp]
 have noth:∀ {x:S},((x == "num") = false ∧ (x == "text") = false ∧ (x == "at") = false) → x ∉ AF → ∃ st',F_is_tail [.str x,.tup []] st = .ok (.bl true) st' ∧ Gr st st':=by
  rintro x ⟨n1,n2,n3⟩ ha
  refine ⟨st,?_,Gr.refl⟩
  unfold F_is_tail fnF g_is_tail
  simp [n1,n2,n3,has_area,ha,len_t]
 cases f with
 | lit x ws =>
  rcases h with ⟨rfl,i,rfl,h0,h1⟩ | ⟨rfl,s,rfl,ht⟩ | ⟨rfl,rfl⟩
  ·refine ⟨st,?_,Gr.refl⟩
   show F_is_tail [.str "num",.tup [.int i]] st = _
   unfold F_is_tail fnF g_is_tail
   simp [len_t,ix0,is_whole,p60,h0,h1]
  ·obtain ⟨s1,e1,g1⟩:=is_text ht st
   refine ⟨s1,?_,g1⟩
   show F_is_tail [.str "text",.tup [.str s]] st = _
   have n1:(("text":S) == "num") = false:=by decide +kernel
   unfold F_is_tail fnF g_is_tail
   simp [n1,len_t,ix0,e1]
  ·exact noth (x:="lost") (by decide +kernel) (by decide +kernel)
 | pt x l p =>
  rcases h with ⟨rfl,a,b,q,r,rfl,rfl,ho,q1,q2⟩ | ⟨hx,hs⟩
  ·have r1:=number_row (l:=[a,b]) (n:=2) rfl (by decide) st
   have g1:Gr st (st ++ [.lst (List.replicate 2 (.bl true))]):=Gr.push
   generalize st ++ [.lst (List.replicate 2 (.bl true))] = s1 at r1 g1
   obtain ⟨s2,e2,g2⟩:=are_pins (l:=[q,r]) (n:=2) rfl (by decide) (by simp [q1,q2]) s1
   have i:F_is_place [tI [a,b]] s1 = .ok (.bl true) s1:=is_place ho
   refine ⟨s2,?_,g1.trans g2⟩
   have hr:F_is_number_row [tI [a,b],.int 2] st = .ok (.bl true) s1:=r1
   have hp:F_are_pins [tI [q,r],.int 2] s1 = .ok (.bl true) s2:=e2
   have n1:(("at":S) == "num") = false:=by decide +kernel
   have n2:(("at":S) == "text") = false:=by decide +kernel
   show F_is_tail [.str "at",.tup [tI [a,b],tI [q,r]]] st = _
   unfold F_is_tail fnF g_is_tail
   simp [n1,n2,len_t,ix0,ix1,hr,i,hp]
  ·have q:∀ x ∈ AW,((x == "num") = false ∧ (x == "text") = false ∧ (x == "at") = false) ∧ x ∈ AF:=by decide +kernel
   exact fin4 (q x hx).1 (q x hx).2 hs
 | fd a l p => exact fin4 (x:="find") (by decide +kernel) (by decide +kernel) h.2
 | o1 x a =>
  have q:∀ x ∈ W1,((x == "num") = false ∧ (x == "text") = false ∧ (x == "at") = false) ∧ x ∉ AF:=by decide +kernel
  exact noth (q x h.1).1 (q x h.1).2
 | o2 x a b =>
  have q:∀ x ∈ W2,((x == "num") = false ∧ (x == "text") = false ∧ (x == "at") = false) ∧ x ∉ AF:=by decide +kernel
  exact noth (q x h.1).1 (q x h.1).2
 | o3 a b c => exact noth (x:="if") (by decide +kernel) (by decide +kernel)
theorem parts_n {f:Fm} (h:f.ok):d_PART_COUNTS.lookup f.v.1 = some (.int f.kids.length):=by
 cases f with
 | lit x ws =>
  rcases h with ⟨rfl,_⟩ | ⟨rfl,_⟩ | ⟨rfl,_⟩ <;> rfl
 | pt x l p =>
  rcases h with ⟨rfl,_⟩ | ⟨hx,_⟩
  ·rfl
  ·exact lk0 hx
 | fd a l p => rfl
 | o1 x a => exact lk1 h.1
 | o2 x a b => exact lk2 h.1
 | o3 a b c => rfl
theorem is_piece {f:Fm} (h:f.ok) (st:Hs):∃ st',F_is_piece [f.w] st = .ok (.bl true) st' ∧ Gr st st':=by
 obtain ⟨n1,n2⟩:=node h
 obtain ⟨s1,e1,g1⟩:=is_tail h st
 have lk:=parts_n h
 refine ⟨s1,?_,g1⟩
 have w0:∀ st:Hs,oIx f.w (.int 0) st = .ok (.str f.v.1) st:=fun _ => ix0
 have t0:∀ st:Hs,oIsA tbl tblT [f.w,.ty "tuple"] st = .ok (.bl true) st:=fun _ => rfl
 obtain ⟨n,l0,b0'⟩:∃ n:Int,(∀ st:Hs,oLen [f.w] st = .ok (.int n) st) ∧ (n == 0) = false:=⟨((f.v.2.length + 1:Nat):Int),fun _ => rfl,beq_false_of_ne (by omega)⟩
 have pm:=fun st:Hs => part_many (st:=st) lk
 unfold F_is_piece fnF g_is_piece
 simp [t0,l0,b0',w0,str_is,lk,n1,len_t,pm,n2,e1]
theorem tru_l {l:Nat} {ws:List Wv} {st:Hs} (h:lstOf st l = some ws):truW (.ref l) st = .ok (!ws.isEmpty) st:=by
 unfold truW
 simp only [h]
theorem extT_l {st:Hs} {l:Nat} {ws zs:List Wv} (h:st[l]? = some (.lst ws)) (hl:ws.length + zs.length ≤ lim):mExtT (.ref l) (.tup zs) st = .ok .non (st.set l (.lst (ws ++ zs))):=by
 unfold mExtT
 simp only [h]
 rw [if_pos hl]
theorem kids3 (f:Fm):f.kids.length ≤ 3:=by cases f <;> simp [Fm.kids]
theorem kids_ok {f:Fm} (h:f.ok):∀ g ∈ f.kids,g.ok:=by
 cases f with
 | lit x ws => intro g z; cases z
 | pt x l p => intro g z; cases z
 | fd a l p => intro g z; rw [List.mem_singleton.mp z]; exact h.1
 | o1 x a => intro g z; rw [List.mem_singleton.mp z]; exact h.2
 | o2 x a b =>
  intro g z
  simp only [Fm.kids,List.mem_cons,List.not_mem_nil,or_false] at z
  rcases z with rfl | rfl
  ·exact h.2.1
  ·exact h.2.2
 | o3 a b c =>
  intro g z
  simp only [Fm.kids,List.mem_cons,List.not_mem_nil,or_false] at z
  rcases z with rfl | rfl | rfl
  ·exact h.1
  ·exact h.2.1
  ·exact h.2.2
def below (fs:List Fm):List Fm:=fs.flatMap Fm.kids
def D:List Fm → Nat
 | [] => 0
 | f :: r => max f.dp (D r)
theorem D_app:∀ a b:List Fm,D (a ++ b) = max (D a) (D b)
 | [],b => by simp [D]
 | f :: a,b => by
  show max f.dp (D (a ++ b)) = max (max f.dp (D a)) (D b)
  rw [D_app a b]
  omega
theorem dp_kids (f:Fm):f.dp = D f.kids + 1:=by
 cases f <;> simp [Fm.dp,Fm.kids,D]
theorem D_below:∀ {fs:List Fm},fs ≠ [] → D fs = D (below fs) + 1
 | [],h => absurd rfl h
 | [f],_ => by
  have:=dp_kids f
  simp [D,below]
  exact this
 | f :: g :: r,_ => by
  have ih:=D_below (fs:=g :: r) (by simp)
  have:=dp_kids f
  show max f.dp (D (g :: r)) = D (f.kids ++ below (g :: r)) + 1
  rw [D_app,ih]
  omega
theorem sz_kids (f:Fm):f.sz = szs f.kids + 1:=by
 cases f <;> simp [Fm.sz,Fm.kids,szs] <;> omega
theorem szs_below:∀ fs:List Fm,szs fs = szs (below fs) + fs.length
 | [] => rfl
 | f :: r => by
  have ih:=szs_below r
  have:=sz_kids f
  have e1:szs (f :: r) = f.sz + szs r:=by simp [szs]
  have e2:szs (below (f :: r)) = szs f.kids + szs (below r):=by simp [szs,below]
  rw [e1,e2,List.length_cons]
  omega
theorem below_ok {fs:List Fm} (h:∀ f ∈ fs,f.ok):∀ g ∈ below fs,g.ok:=fun g hg => by
 obtain ⟨f,hf,hk⟩:=List.mem_flatMap.mp hg
 exact kids_ok (h f hf) g hk
theorem below_loop {L A:Nat} {all:List Wv} (hne:L ≠ A):∀ (fs:List Fm) (acc:List Wv) (o2:Option Wv) (st:Hs),(∀ f ∈ fs,f.ok) → st[A]? = some (.lst acc) → lstOf st L = some all → acc.length + 3 * fs.length ≤ 1000 →
  ∃ o2' st',forL 2 g_level_below_L1 L all (fs.map Fm.w) [some (.ref L),some (.ref A),o2] st = .nx [some (.ref L),some (.ref A),o2'] st' ∧ Keep A st st' ∧ st'[A]? = some (.lst (acc ++ (below fs).map Fm.w))
 | [],acc,o2,st,_,hA,_,_ => ⟨o2,st,rfl,Keep.refl,by simpa [below] using hA⟩
 | f :: r,acc,o2,st,ho,hA,hL,hl => by
  have hl':acc.length + 3 * (r.length + 1) ≤ 1000:=hl
  have k3:=kids3 f
  obtain ⟨n1,_⟩:=node (ho f List.mem_cons_self)
  have ex:=extT_l (zs:=f.kids.map Fm.w) hA (by rw [List.length_map]; unfold lim; omega)
  have kk:Keep A st (st.set A (.lst (acc ++ f.kids.map Fm.w))):=Keep.set
  have hA2:=set_get (o':=.lst (acc ++ f.kids.map Fm.w)) hA
  have hL2:=kk.lst hL hne
  generalize st.set A (.lst (acc ++ f.kids.map Fm.w)) = s1 at ex kk hA2 hL2
  have e1:g_level_below_L1 ([some (.ref L),some (.ref A),o2].set 2 (some f.w)) st = .nx [some (.ref L),some (.ref A),some f.w] s1:=by
   have km:=fun ga => kMeth_l (mt:=mExtT) (ga:=ga) (ρ:=[some (.ref L),some (.ref A),some f.w]) (lst_get hA)
   unfold g_level_below_L1
   simp [km,n1,ex]
  obtain ⟨o2',s2,e2,k2,h2⟩:=below_loop hne r (acc ++ f.kids.map Fm.w) (some f.w) s1 (fun g hg => ho g (List.mem_cons_of_mem _ hg)) hA2 hL2 (by rw [List.length_append,List.length_map]; omega)
  refine ⟨o2',s2,?_,kk.trans k2,by rw [h2]; simp [below]⟩
  rw [List.map_cons]
  unfold forL
  rw [e1]
  simp only [if_pos hL2]
  exact e2
theorem level_below {fs:List Fm} {L:Nat} {st:Hs} (ho:∀ f ∈ fs,f.ok) (hl:fs.length ≤ 300) (h:st[L]? = some (.lst (fs.map Fm.w))) :
  ∃ st',F_level_below [.ref L] st = .ok (.ref st.length) st' ∧ Gr st st' ∧ st'[st.length]? = some (.lst ((below fs).map Fm.w)):=by
 have hL:L < st.length:=get_lt h
 have h1:lstOf (st ++ [.lst []]) L = some (fs.map Fm.w):=lst_get (push_get h)
 obtain ⟨o2,s1,e1,k1,g1⟩:=below_loop (L:=L) (A:=st.length) (all:=fs.map Fm.w) (by omega) fs [] none (st ++ [.lst []]) ho new_get h1 (by simp; omega)
 have e1':kFor 2 g_level_below_L1 [some (.ref L),some (.ref st.length),none] (.ref L) (st ++ [.lst []]) = .nx [some (.ref L),some (.ref st.length),o2] s1:=by rw [kFor_l h1]; exact e1
 refine ⟨s1,?_,Gr.keepAt (Nat.le_refl _) Gr.push k1,by simpa using g1⟩
 unfold F_level_below fnF g_level_below
 simp [e1']
theorem comp_allT {cs:Caps} {gt:GT} {ge:GE} {ρ:Rho} {k:Nat} {ws:List Wv} {st:Hs} (h0:lstOf st k = some ws) (h1:∀ v ∈ ws,∀ s,gt (some v :: capR cs ρ) s = .ok true s)
  (h2:∀ v ∈ ws,∀ s,∃ s',ge (some v :: capR cs ρ) s = .ok (.bl true) s' ∧ Gr s s') (hl:ws.length < lim):∃ st',compRun cs gt ge ρ (some k,ws) st = .ok (.ref st.length) st' ∧ Gr st st' ∧ lstOf st' st.length = some (List.replicate ws.length (.bl true)):=by
 obtain ⟨st',acc,e,p,g,he,hlen⟩:=compG_inv (w:=(some k,ws)) (gt:=fun v => gt (some v :: capR cs ρ)) (ge:=fun v => ge (some v :: capR cs ρ)) (rr:=st.length) (fun s => Gr st s) (fun u => u = .bl true)
  (fun s acc h => Gr.keepAt (Nat.le_refl _) h Keep.set) (fun s h => h.lst h0) ws (fun v hv s acc hp hg => by
   obtain ⟨s',e',g'⟩:=h2 v hv s
   exact ⟨s,h1 v hv s,hp,hg,_,s',e',rfl,hp.trans g',g'.get hg⟩) [] (st ++ [.lst []]) Gr.push new_get (by simpa using hl) (fun _ z => by cases z)
 refine ⟨st',?_,p,?_⟩
 ·unfold compRun
  dsimp only
  rw [e]
 ·rw [lst_get g]
  congr 1
  have:acc.length = ws.length:=by simpa using hlen
  rw [← this]
  exact List.eq_replicate_iff.mpr ⟨rfl,he⟩
theorem made_loop {F:Wv}:∀ (N:Nat) (fs:List Fm) (p d:Int) (k:Nat) (st:Hs),D fs < N → (∀ f ∈ fs,f.ok) → st[k]? = some (.lst (fs.map Fm.w)) → p + szs fs ≤ 60 → 0 ≤ p → d + D fs ≤ 12 → 0 ≤ d →
  ∃ o1 o2 o3 st',whl (gTru (gVar 1)) g_made_formula_L1 N [some F,some (.ref k),some (.int p),some (.int d)] st = .nx [some F,o1,o2,o3] st' ∧ Gr st st'
 | 0,_,_,_,_,_,h,_,_,_,_,_,_ => by omega
 | N + 1,fs,p,d,k,st,hN,ho,hk,hp,p0,hd,d0 => by
  have tl:=tru_l (lst_get hk)
  have z:=szs_below fs
  by_cases hf:fs = []
  ·subst hf
   refine ⟨some (.ref k),some (.int p),some (.int d),st,?_,Gr.refl⟩
   unfold whl
   simp [tl]
  have db:=D_below hf
  have ne:(!(fs.map Fm.w).isEmpty) = true:=by cases fs with | nil => exact absurd rfl hf | cons _ _ => rfl
  rw [ne] at tl
  have hlen:fs.length ≤ 60:=by omega
  obtain ⟨s1,e1,g1,l1⟩:=comp_allT (cs:=[]) (gt:=g_made_formula_C1t) (ge:=g_made_formula_C1e) (ρ:=[some F,some (.ref k),some (.int (p + fs.length)),some (.int (d + 1))]) (lst_get hk) (fun _ _ _ => rfl) (fun v hv s => by
   obtain ⟨f,hf,rfl⟩:=List.mem_map.mp hv
   obtain ⟨s',e',g'⟩:=is_piece (ho f hf) s
   refine ⟨s',?_,g'⟩
   unfold g_made_formula_C1e
   simp [e']) (by rw [List.length_map]; unfold lim; omega)
  have al:=all_rep l1
  have hk1:=g1.get hk
  obtain ⟨s2,e2,g2,h2⟩:=level_below ho (by omega) hk1
  obtain ⟨o1,o2,o3,s3,e3,g3⟩:=made_loop (F:=F) N (below fs) (p + fs.length) (d + 1) s1.length s2 (by omega) (below_ok ho) h2 (by omega) (by omega) (by omega) (by omega)
  refine ⟨o1,o2,o3,s3,?_,g1.trans (g2.trans g3)⟩
  have ln:oLen [.ref k] st = .ok (.int (fs.length:Nat)) st:=by rw [len_l (lst_get hk),List.length_map]
  have c1:¬ 60 < p + (fs.length:Int):=by omega
  have c2:¬ 12 < d + 1:=by omega
  have a1:gAug (fun i j => i + j) 2 (gCallB oLen (gCons (gVar 1) gNil)) [some F,some (.ref k),some (.int p),some (.int d)] st = .nx [some F,some (.ref k),some (.int (p + fs.length)),some (.int d)] st:=by
   unfold gAug
   simp [ln,kAug]
  have a2:gAug (fun i j => i + j) 3 (gC (.int 1)) [some F,some (.ref k),some (.int (p + fs.length)),some (.int d)] st = .nx [some F,some (.ref k),some (.int (p + fs.length)),some (.int (d + 1))] st:=by
   unfold gAug
   simp [kAug]
  have body:g_made_formula_L1 [some F,some (.ref k),some (.int p),some (.int d)] st = .nx [some F,some (.ref s1.length),some (.int (p + fs.length)),some (.int (d + 1))] s2:=by
   unfold g_made_formula_L1
   simp [a1,a2,c1,c2,seqW_l (lst_get hk),e1,al,e2]
  unfold whl
  simp only [e_tru,e_var,rdV_s,List.getElem?_cons_zero,List.getElem?_cons_succ,bind_ok,tl,thn_ok,if_pos,body]
  exact e3
theorem made {f:Fm} (h:f.ok) (hz:f.sz ≤ 60) (hd:f.dp ≤ 12) (st:Hs):∃ st',F_made_formula [f.w] st = .ok f.w st' ∧ Gr st st':=by
 have hD:D [f] = f.dp:=by simp [D]
 have hS:szs [f] = f.sz:=by simp [szs]
 obtain ⟨o1,o2,o3,s1,e1,g1⟩:=made_loop (F:=f.w) wTurns [f] 0 0 st.length (st ++ [.lst [f.w]]) (by rw [hD]; unfold wTurns; omega) (fun g hg => by rw [List.mem_singleton.mp hg]; exact h) new_get (by rw [hS]; omega) (by decide) (by rw [hD]; omega) (by decide)
 refine ⟨s1,?_,Gr.push.trans g1⟩
 have e1':gWhile wTurns (gTru (gVar 1)) g_made_formula_L1 [some f.w,some (.ref st.length),some (.int 0),some (.int 0)] (st ++ [.lst [f.w]]) = .nx [some f.w,o1,o2,o3] s1:=e1
 unfold F_made_formula fnF g_made_formula
 simp [e1']
def pl:Nat → Wv → Prop
 | 0,_ => False
 | n + 1,w => match w with
  | .int _ => True
  | .str x => x.length ≤ 1000
  | .tup ws => ws.length ≤ 300 ∧ ∀ v ∈ ws,pl n v
  | _ => False
def isI:Wv → Bool
 | .int _ => true
 | _ => false
def is01:Wv → Bool
 | .int i => i == 0 || i == 1
 | _ => false
def sgB (c:Nat):Bool:=decide (Sg c)
def rowB (w:Wv) (m:Nat):Bool:=match w with
 | .tup ws => decide (ws.length = m) && ws.all isI
 | _ => false
def pinB (w:Wv) (m:Nat):Bool:=match w with
 | .tup ws => (decide (ws.length = m) && ws.all isI) && ws.all is01
 | _ => false
instance {a b:Int}:Decidable (PlOk a b):=by unfold PlOk; infer_instance
instance {a b c d:Int}:Decidable (ArOk a b c d):=by unfold ArOk; infer_instance
def placeB:Wv → Bool
 | .tup [.int a,.int b] => decide (PlOk a b)
 | _ => false
def areaB:Wv → Bool
 | .tup [.int a,.int b,.int c,.int d] => decide (ArOk a b c d)
 | _ => false
def numB:Wv → Bool
 | .int i => decide (0 ≤ i) && decide (i ≤ P60)
 | _ => false
def textB:Wv → Bool
 | .str x => decide (x.length ≤ 40) && x.cps.toList.all sgB
 | _ => false
def on1 (f:Wv → Bool):List Wv → Bool
 | [v] => f v
 | _ => false
def on2 (f:Wv → Wv → Bool):List Wv → Bool
 | [u,v] => f u v
 | _ => false
theorem on1_no {f:Wv → Bool}:∀ {tl:List Wv},tl.length ≠ 1 → on1 f tl = false
 | [],_ => rfl
 | [_],h => absurd rfl h
 | _ :: _ :: _,_ => rfl
theorem on2_no {f:Wv → Wv → Bool}:∀ {tl:List Wv},tl.length ≠ 2 → on2 f tl = false
 | [],_ => rfl
 | [_],_ => rfl
 | [_,_],h => absurd rfl h
 | _ :: _ :: _ :: _,_ => rfl
def tailB (x:S) (tl:List Wv):Bool :=
 if x = "num" then on1 numB tl
 else if x = "text" then on1 textB tl
 else if x = "at" then on2 (fun l p => rowB l 2 && (placeB l && pinB p 2)) tl
 else if x ∈ AF then on2 (fun l p => rowB l 4 && (areaB l && pinB p 4)) tl
 else tl.isEmpty
def pieceB:Wv → Bool
 | .tup (.str x :: ws) => (match d_PART_COUNTS.lookup x with
  | some (.int k) => decide (k.toNat ≤ ws.length) && tailB x (ws.drop k.toNat)
  | _ => false)
 | _ => false
def partsB:Wv → List Wv
 | .tup (.str x :: ws) => (match d_PART_COUNTS.lookup x with
  | some (.int k) => ws.take k.toNat
  | _ => [])
 | _ => []
theorem bls_map:∀ bs:List Bool,blsOf (bs.map Wv.bl) = some bs
 | [] => rfl
 | b :: r => by
  rw [List.map_cons]
  unfold blsOf
  rw [bls_map r]
theorem all_bs {l:Nat} {bs:List Bool} {st:Hs} (h:lstOf st l = some (bs.map Wv.bl)):oAll [.ref l] st = .ok (.bl (bs.all id)) st:=by
 show (match lstOf st l with | some ws => (match blsOf ws with | some bs => Re.ok (Wv.bl (bs.all id)) st | none => .bad) | none => .bad) = _
 rw [h]
 dsimp only
 rw [bls_map]
theorem comp_bs {cs:Caps} {gt:GT} {ge:GE} {ρ:Rho} {ws:List Wv} {st:Hs} (t:Wv → Bool) (h1:∀ v ∈ ws,∀ s,gt (some v :: capR cs ρ) s = .ok true s) (h2:∀ v ∈ ws,∀ s,ge (some v :: capR cs ρ) s = .ok (.bl (t v)) s) (hl:ws.length < lim) :
  compRun cs gt ge ρ (none,ws) st = .ok (.ref st.length) (st ++ [.lst ((ws.map t).map Wv.bl)]):=by
 rw [comp_pure (w:=(none,ws)) (t:=fun _ => true) (f:=fun v => .bl (t v)) trivial (fun v hv acc => h1 v hv _) (fun v hv _ acc => h2 v hv _) hl]
 have e:((ws.filter fun _ => true).map fun v => Wv.bl (t v)) = (ws.map t).map Wv.bl:=by
  rw [List.filter_eq_self.mpr (fun _ _ => rfl),List.map_map]
  rfl
 show Re.ok _ (st ++ [.lst ((ws.filter fun _ => true).map fun v => Wv.bl (t v))]) = _
 rw [e]
theorem all_id {ws:List Wv} {t:Wv → Bool}:(ws.map t).all id = ws.all t:=by rw [List.all_map]; rfl
theorem int_nt {i:Int} {st:Hs}:oIsA tbl tblT [.int i,.ty "tuple"] st = .ok (.bl false) st:=rfl
theorem str_nt {x:S} {st:Hs}:oIsA tbl tblT [.str x,.ty "tuple"] st = .ok (.bl false) st:=rfl
theorem int_ns {i:Int} {st:Hs}:oIsA tbl tblT [.int i,.ty "str"] st = .ok (.bl false) st:=rfl
theorem tup_ns {ws:List Wv} {st:Hs}:oIsA tbl tblT [.tup ws,.ty "str"] st = .ok (.bl false) st:=rfl
theorem str_ni {x:S} {st:Hs}:oIsA tbl tblT [.str x,.ty "int"] st = .ok (.bl false) st:=rfl
theorem tup_ni {ws:List Wv} {st:Hs}:oIsA tbl tblT [.tup ws,.ty "int"] st = .ok (.bl false) st:=rfl
theorem wholeG {n:Nat} {v:Wv} (h:pl n v) (st:Hs):F_is_whole [v] st = .ok (.bl (isI v)) st:=by
 cases n with
 | zero => exact False.elim h
 | succ n =>
  unfold F_is_whole fnF g_is_whole
  cases v with
  | int i => simp [int_is,int_nb,isI]
  | str x => simp [str_ni,isI]
  | tup ws => simp [tup_ni,isI]
  | _ => exact False.elim h
theorem eq_nn {a b:Nat} {st:Hs}:oEq (.int (a:Nat)) (.int (b:Nat)) st = .ok (.bl (decide (a = b))) st:=by
 rw [eq_i]
 congr 2
 rw [Bool.eq_iff_iff]
 simp
 omega
theorem rowG {n:Nat} {v:Wv} (h:pl n v) (m:Nat) (st:Hs):∃ st',F_is_number_row [v,.int (m:Nat)] st = .ok (.bl (rowB v m)) st' ∧ Gr st st':=by
 cases n with
 | zero => exact False.elim h
 | succ n =>
  cases v with
  | int i => exact ⟨st,by unfold F_is_number_row fnF g_is_number_row; simp [int_nt,rowB],Gr.refl⟩
  | str x => exact ⟨st,by unfold F_is_number_row fnF g_is_number_row; simp [str_nt,rowB],Gr.refl⟩
  | tup ws =>
   have hw:ws.length ≤ 300:=h.1
   have eq:=eq_nn (a:=ws.length) (b:=m) (st:=st)
   by_cases c:ws.length = m
   ·rw [decide_eq_true c] at eq
    have cp:=comp_bs (cs:=[]) (gt:=g_is_number_row_C1t) (ge:=g_is_number_row_C1e) (ρ:=[some (.tup ws),some (.int (m:Nat))]) (ws:=ws) (st:=st) isI (fun _ _ _ => rfl) (fun v hv s => by
     unfold g_is_number_row_C1e
     simp [wholeG (h.2 v hv)]) (by unfold lim; omega)
    have al:=all_bs (st:=st ++ [.lst ((ws.map isI).map Wv.bl)]) (l:=st.length) (bs:=ws.map isI) lstOf_new
    rw [all_id] at al
    have g1:Gr st (st ++ [.lst ((ws.map isI).map Wv.bl)]):=Gr.push
    generalize st ++ [.lst ((ws.map isI).map Wv.bl)] = s1 at cp al g1
    refine ⟨s1,?_,g1⟩
    have rb:rowB (.tup ws) m = ws.all isI:=by show (decide (ws.length = m) && ws.all isI) = _; rw [decide_eq_true c]; rfl
    rw [rb]
    unfold F_is_number_row fnF g_is_number_row
    simp [-eq_i,tup_is,len_t,eq,cp,al]
   ·rw [decide_eq_false c] at eq
    refine ⟨st,?_,Gr.refl⟩
    have rb:rowB (.tup ws) m = false:=by show (decide (ws.length = m) && ws.all isI) = _; rw [decide_eq_false c]; rfl
    rw [rb]
    unfold F_is_number_row fnF g_is_number_row
    simp [-eq_i,tup_is,len_t,eq]
  | _ => exact False.elim h
theorem pinG {n:Nat} {v:Wv} (h:pl n v) (m:Nat) (st:Hs):∃ st',F_are_pins [v,.int (m:Nat)] st = .ok (.bl (pinB v m)) st' ∧ Gr st st':=by
 obtain ⟨s1,e1,g1⟩:=rowG h m st
 cases n with
 | zero => exact False.elim h
 | succ n =>
  cases v with
  | int i => exact ⟨s1,by unfold F_are_pins fnF g_are_pins; simp [e1,rowB,pinB],g1⟩
  | str x => exact ⟨s1,by unfold F_are_pins fnF g_are_pins; simp [e1,rowB,pinB],g1⟩
  | tup ws =>
   have hw:ws.length ≤ 300:=h.1
   cases c:rowB (.tup ws) m with
   | false =>
    rw [c] at e1
    have c':(decide (ws.length = m) && ws.all isI) = false:=c
    refine ⟨s1,?_,g1⟩
    have pb:pinB (.tup ws) m = false:=by show ((decide (ws.length = m) && ws.all isI) && ws.all is01) = false; rw [c']; rfl
    rw [pb]
    unfold F_are_pins fnF g_are_pins
    simp [e1]
   | true =>
    rw [c] at e1
    have c':(decide (ws.length = m) && ws.all isI) = true:=c
    have ci:=(Bool.and_eq_true_iff.mp c').2
    rw [List.all_eq_true] at ci
    have cp:=comp_bs (cs:=[]) (gt:=g_are_pins_C1t) (ge:=g_are_pins_C1e) (ρ:=[some (.tup ws),some (.int (m:Nat))]) (ws:=ws) (st:=s1) is01 (fun _ _ _ => rfl) (fun v hv s => by
     have q:=ci v hv
     cases v with
     | int i =>
      have e:oIn2 (.int i) (.tup [.int 0,.int 1]) s = .ok (.bl (is01 (.int i))) s:=by
       show Re.ok (Wv.bl (((0:Int) == i) || (((1:Int) == i) || false))) s = _
       congr 2
       show _ = ((i == 0) || (i == 1))
       rw [Bool.or_false,Bool.eq_iff_iff]
       simp
       omega
      unfold g_are_pins_C1e
      simp [e]
     | _ => cases q) (by unfold lim; omega)
    have al:=all_bs (st:=s1 ++ [.lst ((ws.map is01).map Wv.bl)]) (l:=s1.length) (bs:=ws.map is01) lstOf_new
    rw [all_id] at al
    have g2:Gr s1 (s1 ++ [.lst ((ws.map is01).map Wv.bl)]):=Gr.push
    generalize s1 ++ [.lst ((ws.map is01).map Wv.bl)] = s2 at cp al g2
    refine ⟨s2,?_,g1.trans g2⟩
    have pb:pinB (.tup ws) m = ws.all is01:=by show ((decide (ws.length = m) && ws.all isI) && ws.all is01) = _; rw [c']; rfl
    rw [pb]
    unfold F_are_pins fnF g_are_pins
    simp [e1,cp,al]
  | _ => exact False.elim h
theorem placeG {a b:Int} {st:Hs}:F_is_place [.tup [.int a,.int b]] st = .ok (.bl (decide (PlOk a b))) st:=by
 have a0:oIx (.tup [.int a,.int b]) (.int 0) st = .ok (.int a) st:=ix_t rfl
 have a1:oIx (.tup [.int a,.int b]) (.int 1) st = .ok (.int b) st:=ix_t rfl
 unfold F_is_place fnF g_is_place PlOk
 by_cases c1:0 ≤ a
 ·by_cases c2:a < 99
  ·by_cases c3:0 ≤ b
   ·by_cases c4:b < 26 <;> simp [a0,a1,c1,c2,c3,c4]
   ·simp [a0,a1,c1,c2,c3]
  ·simp [a0,a1,c1,c2]
 ·simp [a0,a1,c1]
theorem cornG {a b c d:Int} {st:Hs}:F_has_corners [.tup [.int a,.int b,.int c,.int d]] st = .ok (.bl (decide ((a ≤ c ∧ b ≤ d) ∧ PlOk a b ∧ PlOk c d))) st:=by
 have x0:oIx (.tup [.int a,.int b,.int c,.int d]) (.int 0) st = .ok (.int a) st:=ix_t rfl
 have x1:oIx (.tup [.int a,.int b,.int c,.int d]) (.int 1) st = .ok (.int b) st:=ix_t rfl
 have x2:oIx (.tup [.int a,.int b,.int c,.int d]) (.int 2) st = .ok (.int c) st:=ix_t rfl
 have x3:oIx (.tup [.int a,.int b,.int c,.int d]) (.int 3) st = .ok (.int d) st:=ix_t rfl
 have s1:oSl2 (.tup [.int a,.int b,.int c,.int d]) none (some 2) st = .ok (.tup [.int a,.int b]) st:=sl_t (by show ¬ isWh 4 none (some 2); decide +kernel) rfl
 have s2:oSl2 (.tup [.int a,.int b,.int c,.int d]) (some 2) none st = .ok (.tup [.int c,.int d]) st:=sl_t (by show ¬ isWh 4 (some 2) none; decide +kernel) rfl
 unfold F_has_corners fnF g_has_corners
 by_cases c1:a ≤ c
 ·by_cases c2:b ≤ d
  ·by_cases c3:PlOk a b <;> simp [x0,x1,x2,x3,c1,c2,s1,s2,placeG,c3]
  ·simp [x0,x1,x2,x3,c1,c2]
 ·simp [x0,x2,c1]
theorem areaG {a b c d:Int} {st:Hs}:F_is_area [.tup [.int a,.int b,.int c,.int d]] st = .ok (.bl (decide (ArOk a b c d))) st:=by
 have x0:oIx (.tup [.int a,.int b,.int c,.int d]) (.int 0) st = .ok (.int a) st:=ix_t rfl
 have x1:oIx (.tup [.int a,.int b,.int c,.int d]) (.int 1) st = .ok (.int b) st:=ix_t rfl
 have x2:oIx (.tup [.int a,.int b,.int c,.int d]) (.int 2) st = .ok (.int c) st:=ix_t rfl
 have x3:oIx (.tup [.int a,.int b,.int c,.int d]) (.int 3) st = .ok (.int d) st:=ix_t rfl
 have cg:=cornG (a:=a) (b:=b) (c:=c) (d:=d) (st:=st)
 unfold F_is_area fnF g_is_area
 by_cases q:(a ≤ c ∧ b ≤ d) ∧ PlOk a b ∧ PlOk c d
 ·rw [decide_eq_true q] at cg
  obtain ⟨⟨q1,q2⟩,⟨h1,h2,h3,h4⟩,⟨h5,h6,h7,h8⟩⟩:=q
  have m:oMulL (.int (c - a + 1)) (.int (d - b + 1)) st = .ok (.int ((c - a + 1) * (d - b + 1))) st:=mul_l (by omega) (by omega)
  have hm:F_area_many [.tup [.int a,.int b,.int c,.int d]] st = .ok (.int ((c - a + 1) * (d - b + 1))) st:=by
   unfold F_area_many fnF g_area_many
   simp [x0,x1,x2,x3,m]
  have e:decide (ArOk a b c d) = decide ((c - a + 1) * (d - b + 1) ≤ 300):=decide_eq_decide.mpr ⟨fun z => z.2.2.2.2.2.2,fun z => ⟨h1,q1,h6,h3,q2,h8,z⟩⟩
  rw [e]
  simp [cg,hm]
 ·rw [decide_eq_false q] at cg
  have e:decide (ArOk a b c d) = false:=decide_eq_false fun ⟨h1,h2,h3,h4,h5,h6,_⟩ => q ⟨⟨h2,h5⟩,⟨h1,by omega,h4,by omega⟩,⟨by omega,h3,by omega,h6⟩⟩
  rw [e]
  simp [cg]
theorem signG {c:Nat} {st:Hs}:F_is_text_sign [.int (c:Nat)] st = .ok (.bl (sgB c)) st:=by
 unfold sgB Sg
 unfold F_is_text_sign fnF g_is_text_sign
 have e1:decide ((32:Int) ≤ (c:Nat)) = decide (32 ≤ c):=decide_eq_decide.mpr (by omega)
 have e2:decide (((c:Nat):Int) ≤ 126) = decide (c ≤ 126):=decide_eq_decide.mpr (by omega)
 have n1:oNe (.int (c:Nat)) (.int 34) st = .ok (.bl (decide (c ≠ 34))) st:=by rw [ne_i]; congr 2; rw [Bool.eq_iff_iff]; simp; omega
 have n2:oNe (.int (c:Nat)) (.int 37) st = .ok (.bl (decide (c ≠ 37))) st:=by rw [ne_i]; congr 2; rw [Bool.eq_iff_iff]; simp; omega
 by_cases c1:32 ≤ c
 ·have c1':(32:Int) ≤ (c:Nat):=by omega
  by_cases c2:c ≤ 126
  ·have c2':((c:Nat):Int) ≤ 126:=by omega
   by_cases c3:c = 34
   ·have t:decide (32 ≤ c ∧ c ≤ 126 ∧ c ≠ 34 ∧ c ≠ 37) = false:=decide_eq_false fun z => z.2.2.1 c3
    rw [decide_eq_false (fun z => z c3)] at n1
    rw [t]
    simp [-ne_i,c1',c2',n1]
   ·rw [decide_eq_true c3] at n1
    by_cases c4:c = 37
    ·have t:decide (32 ≤ c ∧ c ≤ 126 ∧ c ≠ 34 ∧ c ≠ 37) = false:=decide_eq_false fun z => z.2.2.2 c4
     rw [decide_eq_false (fun z => z c4)] at n2
     rw [t]
     simp [-ne_i,c1',c2',n1,n2]
    ·have t:decide (32 ≤ c ∧ c ≤ 126 ∧ c ≠ 34 ∧ c ≠ 37) = true:=decide_eq_true ⟨c1,c2,c3,c4⟩
     rw [decide_eq_true c4] at n2
     rw [t]
     simp [-ne_i,c1',c2',n1,n2]
  ·have c2':¬ ((c:Nat):Int) ≤ 126:=by omega
   have t:decide (32 ≤ c ∧ c ≤ 126 ∧ c ≠ 34 ∧ c ≠ 37) = false:=decide_eq_false fun z => c2 z.2.1
   rw [t]
   simp [-ne_i,c1',c2']
 ·have c1':¬ (32:Int) ≤ (c:Nat):=by omega
  have t:decide (32 ≤ c ∧ c ≤ 126 ∧ c ≠ 34 ∧ c ≠ 37) = false:=decide_eq_false fun z => c1 z.1
  rw [t]
  simp [-ne_i,c1']
theorem textG {n:Nat} {v:Wv} (h:pl n v) (st:Hs):∃ st',F_is_text [v] st = .ok (.bl (textB v)) st' ∧ Gr st st':=by
 cases n with
 | zero => exact False.elim h
 | succ n =>
  cases v with
  | int i => exact ⟨st,by unfold F_is_text fnF g_is_text; simp [int_ns,textB],Gr.refl⟩
  | tup ws => exact ⟨st,by unfold F_is_text fnF g_is_text; simp [tup_ns,textB],Gr.refl⟩
  | str x =>
   have hx:x.length ≤ 1000:=h
   have ln:oLen [.str x] st = .ok (.int x.length) st:=len_s (by unfold lim; omega)
   by_cases c:x.length ≤ 40
   ·have cp:=comp_bs (cs:=[]) (gt:=g_has_text_signs_C1t) (ge:=g_has_text_signs_C1e) (ρ:=[some (.str x)]) (ws:=signsW x) (st:=st) (fun v => match v with | .str z => sgB (z.cps.getD 0 0) | _ => false) (fun _ _ _ => rfl) (fun v hv s => by
     unfold signsW at hv
     obtain ⟨i,hi,rfl⟩:=List.mem_map.mp hv
     have o:oOrd [.str ⟨#[i]⟩] s = .ok (.int (i:Nat)) s:=rfl
     unfold g_has_text_signs_C1e
     simp [o,signG]) (by
      unfold signsW lim
      rw [List.length_map]
      show x.cps.toList.length < _
      rw [Array.length_toList]
      exact Nat.lt_of_le_of_lt (c:x.cps.size ≤ 40) (by decide))
    have al:=all_bs (st:=st ++ [.lst (((signsW x).map (fun v => match v with | .str z => sgB (z.cps.getD 0 0) | _ => false)).map Wv.bl)]) (l:=st.length) lstOf_new
    rw [all_id] at al
    have ea:(signsW x).all (fun v => match v with | .str z => sgB (z.cps.getD 0 0) | _ => false) = x.cps.toList.all sgB:=by
     unfold signsW
     rw [List.all_map]
     rfl
    rw [ea] at al
    have g1:Gr st (st ++ [.lst (((signsW x).map (fun v => match v with | .str z => sgB (z.cps.getD 0 0) | _ => false)).map Wv.bl)]):=Gr.push
    generalize st ++ [.lst (((signsW x).map (fun v => match v with | .str z => sgB (z.cps.getD 0 0) | _ => false)).map Wv.bl)] = s1 at cp al g1
    have ht:F_has_text_signs [.str x] st = .ok (.bl (x.cps.toList.all sgB)) s1:=by
     unfold F_has_text_signs fnF g_has_text_signs
     simp [cp,al]
    have l40:(x.length:Int) ≤ 40:=by omega
    refine ⟨s1,?_,g1⟩
    have tb:textB (.str x) = x.cps.toList.all sgB:=by show (decide (x.length ≤ 40) && _) = _; rw [decide_eq_true c]; rfl
    rw [tb]
    unfold F_is_text fnF g_is_text
    simp [str_is,ln,l40,ht]
   ·have l40:¬ (x.length:Int) ≤ 40:=by omega
    have tb:textB (.str x) = false:=by show (decide (x.length ≤ 40) && _) = _; rw [decide_eq_false c]; rfl
    refine ⟨st,?_,Gr.refl⟩
    rw [tb]
    unfold F_is_text fnF g_is_text
    simp [str_is,ln,l40]
  | _ => exact False.elim h
theorem lookup_in {α:Type}:∀ {l:List (S × α)} {x:S} {a:α},l.lookup x = some a → (x,a) ∈ l
 | [],_,_,h => by cases h
 | (y,b) :: r,x,a,h => by
  rw [List.lookup_cons] at h
  cases e:x == y with
  | true =>
   rw [e] at h
   cases h
   rw [eq_of_beq e]
   exact List.mem_cons_self
  | false =>
   rw [e] at h
   exact List.mem_cons_of_mem _ (lookup_in h)
theorem counts {x:S} {w:Wv} (h:d_PART_COUNTS.lookup x = some w):∃ k:Nat,w = .int (k:Nat) ∧ k ≤ 3:=by
 have m:=lookup_in h
 have q:∀ p ∈ d_PART_COUNTS,∃ k:Nat,p.2 = Wv.int (k:Nat) ∧ k ≤ 3:=by
  intro p hp
  simp only [d_PART_COUNTS,List.mem_cons,List.not_mem_nil,or_false] at hp
  rcases hp with rfl | rfl | rfl | rfl | rfl | rfl | rfl | rfl | rfl | rfl | rfl | rfl | rfl | rfl | rfl | rfl | rfl | rfl | rfl | rfl | rfl <;> first | exact ⟨0,rfl,by decide⟩ | exact ⟨1,rfl,by decide⟩ | exact ⟨2,rfl,by decide⟩ | exact ⟨3,rfl,by decide⟩
 exact q _ m
theorem not_wh {n k:Nat} {hi:Option Int}:¬ isWh (n + 1) (some (1 + (k:Nat))) hi:=by
 intro h
 have h1:HT.sIx (n + 1) 0 (some (1 + (k:Nat))) = 0:=h.1
 have e:(1 + (k:Nat):Int) = ((k + 1:Nat):Int):=by omega
 rw [e,HT.sIx_nat] at h1
 omega
theorem cut_lo {y:Wv} {ws:List Wv} {k:Nat}:cutW (y :: ws) (some 1) (some (1 + (k:Nat))) = ws.take k:=by
 have e:(1 + (k:Nat):Int) = ((k + 1:Nat):Int):=by omega
 have e1:(1:Int) = ((1:Nat):Int):=rfl
 unfold cutW
 rw [e,e1,HT.sIx_nat,HT.sIx_nat,List.length_cons]
 have m1:min 1 (ws.length + 1) = 1:=by omega
 rw [m1]
 show ws.take (min (k + 1) (ws.length + 1) - 1) = _
 have m2:min (k + 1) (ws.length + 1) - 1 = min k ws.length:=by omega
 rw [m2]
 by_cases c:k ≤ ws.length
 ·rw [Nat.min_eq_left c]
 ·rw [Nat.min_eq_right (by omega),List.take_of_length_le (Nat.le_refl _),List.take_of_length_le (by omega)]
theorem cut_hi {y:Wv} {ws:List Wv} {k:Nat}:cutW (y :: ws) (some (1 + (k:Nat))) none = ws.drop k:=by
 have e:(1 + (k:Nat):Int) = ((k + 1:Nat):Int):=by omega
 unfold cutW
 rw [e,HT.sIx_nat,HT.sIx_none,List.length_cons]
 by_cases c:k ≤ ws.length
 ·have m1:min (k + 1) (ws.length + 1) = k + 1:=by omega
  rw [m1,List.drop_succ_cons,List.take_of_length_le (by rw [List.length_drop]; omega)]
 ·have m1:min (k + 1) (ws.length + 1) = ws.length + 1:=by omega
  rw [m1,List.drop_succ_cons,List.drop_of_length_le (Nat.le_refl _),List.drop_of_length_le (by omega),List.take_nil]
theorem partsG {x:S} {k:Nat} {ws:List Wv} (h:d_PART_COUNTS.lookup x = some (.int (k:Nat))) (st:Hs):F_parts_of [.tup (.str x :: ws)] st = .ok (.tup (ws.take k)) st:=by
 have n1:¬ isWh (ws.length + 1) (some 1) (some (1 + (k:Nat))):=not_wh (k:=0)
 exact parts_of h n1 cut_lo st
theorem tailGo {x:S} {k:Nat} {ws:List Wv} (h:d_PART_COUNTS.lookup x = some (.int (k:Nat))) (st:Hs):F_tail_of [.tup (.str x :: ws)] st = .ok (.tup (ws.drop k)) st:=tail_of h not_wh cut_hi st
theorem len_eq {ws:List Wv} {n:Nat} {st:Hs}:oEq (.int (ws.length:Nat)) (.int (n:Nat)) st = .ok (.bl (decide (ws.length = n))) st:=eq_nn
theorem is_tailG {n:Nat} {x:S} {tl:List Wv} (hp:∀ v ∈ tl,pl n v) (st:Hs):∃ st',F_is_tail [.str x,.tup tl] st = .ok (.bl (tailB x tl)) st' ∧ Gr st st':=by
 have l1:=len_eq (ws:=tl) (n:=1) (st:=st)
 have l2:=len_eq (ws:=tl) (n:=2) (st:=st)
 have l0:=len_eq (ws:=tl) (n:=0) (st:=st)
 have l1':oEq (.int (tl.length:Nat)) (.int 1) st = .ok (.bl (decide (tl.length = 1))) st:=l1
 have l2':oEq (.int (tl.length:Nat)) (.int 2) st = .ok (.bl (decide (tl.length = 2))) st:=l2
 have l0':oEq (.int (tl.length:Nat)) (.int 0) st = .ok (.bl (decide (tl.length = 0))) st:=l0
 unfold tailB
 have no1:∀ {tl:List Wv},tl.length ≠ 1 → oEq (.int (tl.length:Nat)) (.int 1) st = .ok (.bl false) st:=fun {tl} h => by
  have:=len_eq (ws:=tl) (n:=1) (st:=st)
  rw [decide_eq_false h] at this
  exact this
 by_cases c1:x = "num"
 ·subst c1
  rw [if_pos rfl]
  by_cases cl:tl.length = 1
  ·match tl,cl,hp with
   | [v],_,hp =>
    refine ⟨st,?_,Gr.refl⟩
    have w:=wholeG (hp v (by simp)) st
    show F_is_tail [.str "num",.tup [v]] st = .ok (.bl (numB v)) st
    cases v with
    | int i =>
     by_cases q0:0 ≤ i
     ·by_cases q1:i ≤ P60
      ·unfold F_is_tail fnF g_is_tail; simp [len_t,ix0,w,isI,p60,q0,q1,numB]
      ·unfold F_is_tail fnF g_is_tail; simp [len_t,ix0,w,isI,p60,q0,q1,numB]
     ·unfold F_is_tail fnF g_is_tail; simp [len_t,ix0,w,isI,q0,numB]
    | _ => unfold F_is_tail fnF g_is_tail; simp [len_t,ix0,w,isI,numB]
  ·have b:=no1 cl
   rw [on1_no cl]
   refine ⟨st,?_,Gr.refl⟩
   unfold F_is_tail fnF g_is_tail
   simp [-eq_i,len_t,b]
 rw [if_neg c1]
 have b1:(x == ("num":S)) = false:=beq_false_of_ne c1
 by_cases c2:x = "text"
 ·subst c2
  rw [if_pos rfl]
  by_cases cl:tl.length = 1
  ·match tl,cl,hp with
   | [v],_,hp =>
    obtain ⟨s1,e1,g1⟩:=textG (hp v (by simp)) st
    exact ⟨s1,by unfold F_is_tail fnF g_is_tail; simp [b1,len_t,ix0,e1,on1],g1⟩
  ·have b:=no1 cl
   rw [on1_no cl]
   refine ⟨st,?_,Gr.refl⟩
   unfold F_is_tail fnF g_is_tail
   simp [-eq_i,b1,len_t,b]
 rw [if_neg c2]
 have b2:(x == ("text":S)) = false:=beq_false_of_ne c2
 -- two things: a row of m numbers,and its pins
 have two:∀ (m:Nat) (fP:List Wv → Hs → Re Wv) (tB:Wv → Bool),m ≤ 4 → (∀ v (s:Hs),pl n v → rowB v m = true → fP [v] s = .ok (.bl (tB v)) s) → ∀ u v,pl n u → pl n v → ∃ st',gAndV (gCall 2 F_is_number_row (gCons (gBin oIx (gVar 1) (gC (.int 0))) (gCons (gC (.int (m:Nat))) gNil))) (gAndV (gCall 1 fP (gCons (gBin oIx (gVar 1) (gC (.int 0))) gNil)) (gCall 2 F_are_pins (gCons (gBin oIx (gVar 1) (gC (.int 1))) (gCons (gC (.int (m:Nat))) gNil)))) [some (.str x),some (.tup [u,v])] st = .ok (.bl (rowB u m && (tB u && pinB v m))) st' ∧ Gr st st':=by
  intro m fP tB hm hf u v hu hv
  obtain ⟨s1,e1,g1⟩:=rowG hu m st
  cases r:rowB u m with
  | false =>
   rw [r] at e1
   exact ⟨s1,by simp [ix0,e1],g1⟩
  | true =>
   rw [r] at e1
   have e2:=hf u s1 hu r
   cases t:tB u with
   | false =>
    rw [t] at e2
    exact ⟨s1,by simp [ix0,e1,e2],g1⟩
   | true =>
    rw [t] at e2
    obtain ⟨s3,e3,g3⟩:=pinG hv m s1
    exact ⟨s3,by simp [ix0,ix1,e1,e2,e3],g1.trans g3⟩
 have no2:∀ {tl:List Wv},tl.length ≠ 2 → oEq (.int (tl.length:Nat)) (.int 2) st = .ok (.bl false) st:=fun {tl} h => by
  have:=len_eq (ws:=tl) (n:=2) (st:=st)
  rw [decide_eq_false h] at this
  exact this
 have one:∀ {w:Wv},isI w = true → ∃ i,w = .int i:=fun {w} h => by cases w <;> first | exact ⟨_,rfl⟩ | cases h
 have rows2:∀ v,rowB v 2 = true → ∃ a b,v = .tup [.int a,.int b]:=by
  intro v hv
  cases v with
  | tup ws =>
   obtain ⟨h1,h2⟩:=Bool.and_eq_true_iff.mp (show (decide (ws.length = 2) && ws.all isI) = true from hv)
   match ws,of_decide_eq_true h1,h2 with
   | [u,v],_,h2 =>
    simp only [List.all_cons,List.all_nil,Bool.and_true,Bool.and_eq_true_iff] at h2
    obtain ⟨a,rfl⟩:=one h2.1
    obtain ⟨b,rfl⟩:=one h2.2
    exact ⟨a,b,rfl⟩
  | _ => cases hv
 have rows4:∀ v,rowB v 4 = true → ∃ a b c d,v = .tup [.int a,.int b,.int c,.int d]:=by
  intro v hv
  cases v with
  | tup ws =>
   obtain ⟨h1,h2⟩:=Bool.and_eq_true_iff.mp (show (decide (ws.length = 4) && ws.all isI) = true from hv)
   match ws,of_decide_eq_true h1,h2 with
   | [u,v,w,z],_,h2 =>
    simp only [List.all_cons,List.all_nil,Bool.and_true,Bool.and_eq_true_iff] at h2
    obtain ⟨a,rfl⟩:=one h2.1
    obtain ⟨b,rfl⟩:=one h2.2.1
    obtain ⟨c,rfl⟩:=one h2.2.2.1
    obtain ⟨d,rfl⟩:=one h2.2.2.2
    exact ⟨a,b,c,d,rfl⟩
  | _ => cases hv
 by_cases c3:x = "at"
 ·subst c3
  rw [if_pos rfl]
  by_cases cl:tl.length = 2
  ·match tl,cl,hp with
   | [u,v],_,hp =>
    obtain ⟨s1,e1,g1⟩:=two 2 F_is_place placeB (by decide) (fun v s _ hr => by
     obtain ⟨a,b,rfl⟩:=rows2 v hr
     exact placeG) u v (hp u (by simp)) (hp v (by simp))
    refine ⟨s1,?_,g1⟩
    have e1':gAndV (gCall 2 F_is_number_row (gCons (gBin oIx (gVar 1) (gC (.int 0))) (gCons (gC (.int 2)) gNil))) (gAndV (gCall 1 F_is_place (gCons (gBin oIx (gVar 1) (gC (.int 0))) gNil)) (gCall 2 F_are_pins (gCons (gBin oIx (gVar 1) (gC (.int 1))) (gCons (gC (.int 2)) gNil)))) [some (.str "at"),some (.tup [u,v])] st = .ok (.bl (rowB u 2 && (placeB u && pinB v 2))) s1:=e1
    have lq:gBin oEq (gCallB oLen (gCons (gVar 1) gNil)) (gC (.int 2)) [some (.str "at"),some (.tup [u,v])] st = .ok (.bl true) st:=by simp [len_t]
    have an:∀ G:GE,gAndV (gBin oEq (gCallB oLen (gCons (gVar 1) gNil)) (gC (.int 2))) G [some (.str "at"),some (.tup [u,v])] st = G [some (.str "at"),some (.tup [u,v])] st:=fun G => by rw [e_andV,lq]; rfl
    unfold F_is_tail fnF g_is_tail
    simp [-e_andV,b1,b2,an,e1',on2]
  ·have b:=no2 cl
   rw [on2_no cl]
   refine ⟨st,?_,Gr.refl⟩
   unfold F_is_tail fnF g_is_tail
   simp [-eq_i,b1,b2,len_t,b]
 rw [if_neg c3]
 have b3:(x == ("at":S)) = false:=beq_false_of_ne c3
 by_cases c4:x ∈ AF
 ·rw [if_pos c4]
  by_cases cl:tl.length = 2
  ·match tl,cl,hp with
   | [u,v],_,hp =>
    obtain ⟨s1,e1,g1⟩:=two 4 F_is_area areaB (by decide) (fun v s _ hr => by
     obtain ⟨a,b,c,d,rfl⟩:=rows4 v hr
     exact areaG) u v (hp u (by simp)) (hp v (by simp))
    refine ⟨s1,?_,g1⟩
    have e1':gAndV (gCall 2 F_is_number_row (gCons (gBin oIx (gVar 1) (gC (.int 0))) (gCons (gC (.int 4)) gNil))) (gAndV (gCall 1 F_is_area (gCons (gBin oIx (gVar 1) (gC (.int 0))) gNil)) (gCall 2 F_are_pins (gCons (gBin oIx (gVar 1) (gC (.int 1))) (gCons (gC (.int 4)) gNil)))) [some (.str x),some (.tup [u,v])] st = .ok (.bl (rowB u 4 && (areaB u && pinB v 4))) s1:=e1
    have lq:gBin oEq (gCallB oLen (gCons (gVar 1) gNil)) (gC (.int 2)) [some (.str x),some (.tup [u,v])] st = .ok (.bl true) st:=by simp [len_t]
    have an:∀ G:GE,gAndV (gBin oEq (gCallB oLen (gCons (gVar 1) gNil)) (gC (.int 2))) G [some (.str x),some (.tup [u,v])] st = G [some (.str x),some (.tup [u,v])] st:=fun G => by rw [e_andV,lq]; rfl
    unfold F_is_tail fnF g_is_tail
    simp [-e_andV,b1,b2,b3,has_area,c4,an,e1',on2]
  ·have b:=no2 cl
   rw [on2_no cl]
   refine ⟨st,?_,Gr.refl⟩
   unfold F_is_tail fnF g_is_tail
   simp [-eq_i,b1,b2,b3,has_area,c4,len_t,b]
 ·rw [if_neg c4]
  refine ⟨st,?_,Gr.refl⟩
  have hm:tl.isEmpty = decide (tl.length = 0):=by cases tl <;> simp
  rw [hm]
  unfold F_is_tail fnF g_is_tail
  simp [-eq_i,b1,b2,b3,has_area,c4,len_t,l0']
theorem pieceB_k {x:S} {k:Nat} {ws:List Wv} (lk:d_PART_COUNTS.lookup x = some (.int (k:Nat))):pieceB (.tup (.str x :: ws)) = (decide (k ≤ ws.length) && tailB x (ws.drop k)):=by
 show (match d_PART_COUNTS.lookup x with | some (.int k) => (decide (k.toNat ≤ ws.length) && tailB x (ws.drop k.toNat)) | _ => false) = _
 rw [lk]
 rfl
theorem partsB_k {x:S} {k:Nat} {ws:List Wv} (lk:d_PART_COUNTS.lookup x = some (.int (k:Nat))):partsB (.tup (.str x :: ws)) = ws.take k:=by
 show (match d_PART_COUNTS.lookup x with | some (.int k) => ws.take k.toNat | _ => []) = _
 rw [lk]
 rfl
theorem pieceG {n:Nat} {w:Wv} (h:pl (n + 1) w) (st:Hs):∃ st',F_is_piece [w] st = .ok (.bl (pieceB w)) st' ∧ Gr st st':=by
 cases w with
 | int i => exact ⟨st,by unfold F_is_piece fnF g_is_piece; simp [int_nt,pieceB],Gr.refl⟩
 | str x => exact ⟨st,by unfold F_is_piece fnF g_is_piece; simp [str_nt,pieceB],Gr.refl⟩
 | tup us =>
  cases us with
  | nil => exact ⟨st,by unfold F_is_piece fnF g_is_piece; simp [tup_is,len_t,pieceB],Gr.refl⟩
  | cons u ws =>
   obtain ⟨m,l0,b0⟩:∃ m:Int,(∀ st:Hs,oLen [.tup (u :: ws)] st = .ok (.int m) st) ∧ (m == 0) = false:=⟨((ws.length + 1:Nat):Int),fun _ => rfl,beq_false_of_ne (by omega)⟩
   have hu:pl n u:=h.2 u List.mem_cons_self
   have hws:∀ v ∈ ws,pl n v:=fun v hv => h.2 v (List.mem_cons_of_mem _ hv)
   have w0:∀ st:Hs,oIx (.tup (u :: ws)) (.int 0) st = .ok u st:=fun _ => ix0
   cases n with
   | zero => exact False.elim hu
   | succ n =>
    cases u with
    | int i => exact ⟨st,by unfold F_is_piece fnF g_is_piece; simp [tup_is,l0,b0,w0,int_ns,pieceB],Gr.refl⟩
    | tup vs => exact ⟨st,by unfold F_is_piece fnF g_is_piece; simp [tup_is,l0,b0,w0,tup_ns,pieceB],Gr.refl⟩
    | str x =>
     cases lk:d_PART_COUNTS.lookup x with
     | none =>
      have pb:pieceB (.tup (.str x :: ws)) = false:=by
       show (match d_PART_COUNTS.lookup x with | some (.int k) => (decide (k.toNat ≤ ws.length) && tailB x (ws.drop k.toNat)) | _ => false) = false
       rw [lk]
      rw [pb]
      exact ⟨st,by unfold F_is_piece fnF g_is_piece; simp [tup_is,l0,b0,w0,str_is,lk],Gr.refl⟩
     | some v =>
      obtain ⟨k,rfl,hk⟩:=counts lk
      have pb:=pieceB_k (ws:=ws) lk
      have pm:=part_many (st:=st) lk
      have p1:=partsG (ws:=ws) lk st
      have t1:=tailGo (ws:=ws) lk st
      obtain ⟨s1,e1,g1⟩:=is_tailG (x:=x) (tl:=ws.drop k) (fun v hv => hws v (List.mem_of_mem_drop hv)) st
      have eq:oEq (.int ((ws.take k).length:Nat)) (.int (k:Nat)) st = .ok (.bl (decide (k ≤ ws.length))) st:=by
       rw [eq_nn]
       congr 2
       refine decide_eq_decide.mpr ?_
       rw [List.length_take]
       omega
      rw [pb]
      cases c:decide (k ≤ ws.length) with
      | false =>
       rw [c] at eq
       exact ⟨st,by unfold F_is_piece fnF g_is_piece; simp [-eq_i,-List.length_take,tup_is,l0,eq_i (j:=0),b0,w0,str_is,lk,p1,len_t,pm,eq],Gr.refl⟩
      | true =>
       rw [c] at eq
       exact ⟨s1,by unfold F_is_piece fnF g_is_piece; simp [-eq_i,-List.length_take,tup_is,l0,eq_i (j:=0),b0,w0,str_is,lk,p1,len_t,pm,eq,t1,e1],g1⟩
    | _ => exact False.elim hu
 | _ => exact False.elim h
def Bd:Nat → Wv → Prop
 | 0,w => pieceB w = false
 | n + 1,w => pieceB w = false ∨ ∃ v ∈ partsB w,Bd n v
theorem Bd.up:∀ {n m:Nat} {w:Wv},Bd n w → n ≤ m → Bd m w
 | 0,0,_,h,_ => h
 | 0,_ + 1,_,h,_ => .inl h
 | n + 1,0,_,_,hm => by omega
 | n + 1,m + 1,w,h,hm => h.imp id fun ⟨v,hv,hb⟩ => ⟨v,hv,hb.up (by omega)⟩
theorem piece_inv {w:Wv} (h:pieceB w = true):∃ x ws,∃ k:Nat,w = .tup (.str x :: ws) ∧ d_PART_COUNTS.lookup x = some (.int (k:Nat)) ∧ k ≤ 3:=by
 cases w with
 | tup us =>
  cases us with
  | nil => cases h
  | cons u ws =>
   cases u with
   | str x =>
    cases lk:d_PART_COUNTS.lookup x with
    | none =>
     have h':(match d_PART_COUNTS.lookup x with | some (.int k) => (decide (k.toNat ≤ ws.length) && tailB x (ws.drop k.toNat)) | _ => false) = true:=h
     rw [lk] at h'
     cases h'
    | some v =>
     obtain ⟨k,rfl,hk⟩:=counts lk
     exact ⟨x,ws,k,rfl,lk,hk⟩
   | _ => cases h
 | _ => cases h
def nextB (ws:List Wv):List Wv:=ws.flatMap partsB
theorem parts_pl {n:Nat} {w:Wv} (h:pl (n + 1) w) (hp:pieceB w = true):∀ v ∈ partsB w,pl n v:=by
 obtain ⟨x,ws,k,rfl,lk,_⟩:=piece_inv hp
 intro v hv
 rw [partsB_k lk] at hv
 exact h.2 v (List.mem_cons_of_mem _ (List.mem_of_mem_take hv))
theorem parts_len {w:Wv} (hp:pieceB w = true):(partsB w).length ≤ 3:=by
 obtain ⟨x,ws,k,rfl,lk,hk⟩:=piece_inv hp
 rw [partsB_k lk,List.length_take]
 omega
theorem next_len:∀ {ws:List Wv},(∀ w ∈ ws,pieceB w = true) → (nextB ws).length ≤ 3 * ws.length
 | [],_ => Nat.le_refl _
 | w :: r,h => by
  have h1:=parts_len (h w List.mem_cons_self)
  have h2:=next_len fun v hv => h v (List.mem_cons_of_mem _ hv)
  have e:nextB (w :: r) = partsB w ++ nextB r:=rfl
  rw [e,List.length_append,List.length_cons]
  omega
theorem belowG_loop {L A:Nat} {all:List Wv} (hne:L ≠ A):∀ (ws acc:List Wv) (o2:Option Wv) (st:Hs),(∀ w ∈ ws,pieceB w = true) → st[A]? = some (.lst acc) → lstOf st L = some all → acc.length + 3 * ws.length ≤ 1000 →
  ∃ o2' st',forL 2 g_level_below_L1 L all ws [some (.ref L),some (.ref A),o2] st = .nx [some (.ref L),some (.ref A),o2'] st' ∧ Keep A st st' ∧ st'[A]? = some (.lst (acc ++ nextB ws))
 | [],acc,o2,st,_,hA,_,_ => ⟨o2,st,rfl,Keep.refl,by simpa [nextB] using hA⟩
 | w :: r,acc,o2,st,ho,hA,hL,hl => by
  have hl':acc.length + 3 * (r.length + 1) ≤ 1000:=hl
  have k3:=parts_len (ho w List.mem_cons_self)
  have pw:∀ st:Hs,F_parts_of [w] st = .ok (.tup (partsB w)) st:=fun st => by
   obtain ⟨x,ws,k,rfl,lk,_⟩:=piece_inv (ho w List.mem_cons_self)
   rw [partsB_k lk]
   exact partsG lk st
  have ex:=extT_l (zs:=partsB w) hA (by unfold lim; omega)
  have kk:Keep A st (st.set A (.lst (acc ++ partsB w))):=Keep.set
  have hA2:=set_get (o':=.lst (acc ++ partsB w)) hA
  have hL2:=kk.lst hL hne
  generalize st.set A (.lst (acc ++ partsB w)) = s1 at ex kk hA2 hL2
  have e1:g_level_below_L1 ([some (.ref L),some (.ref A),o2].set 2 (some w)) st = .nx [some (.ref L),some (.ref A),some w] s1:=by
   have km:=fun ga => kMeth_l (mt:=mExtT) (ga:=ga) (ρ:=[some (.ref L),some (.ref A),some w]) (lst_get hA)
   unfold g_level_below_L1
   simp [km,pw,ex]
  obtain ⟨o2',s2,e2,k2,h2⟩:=belowG_loop hne r (acc ++ partsB w) (some w) s1 (fun g hg => ho g (List.mem_cons_of_mem _ hg)) hA2 hL2 (by rw [List.length_append]; omega)
  refine ⟨o2',s2,?_,kk.trans k2,by rw [h2]; simp [nextB]⟩
  unfold forL
  rw [e1]
  simp only [if_pos hL2]
  exact e2
theorem belowG {ws:List Wv} {L:Nat} {st:Hs} (ho:∀ w ∈ ws,pieceB w = true) (hl:ws.length ≤ 300) (h:st[L]? = some (.lst ws)) :
  ∃ st',F_level_below [.ref L] st = .ok (.ref st.length) st' ∧ Gr st st' ∧ st'[st.length]? = some (.lst (nextB ws)):=by
 have hL:L < st.length:=get_lt h
 have h1:lstOf (st ++ [.lst []]) L = some ws:=lst_get (push_get h)
 obtain ⟨o2,s1,e1,k1,g1⟩:=belowG_loop (L:=L) (A:=st.length) (all:=ws) (by omega) ws [] none (st ++ [.lst []]) ho new_get h1 (by simp; omega)
 have e1':kFor 2 g_level_below_L1 [some (.ref L),some (.ref st.length),none] (.ref L) (st ++ [.lst []]) = .nx [some (.ref L),some (.ref st.length),o2] s1:=by rw [kFor_l h1]; exact e1
 refine ⟨s1,?_,Gr.keepAt (Nat.le_refl _) Gr.push k1,by simpa using g1⟩
 unfold F_level_below fnF g_level_below
 simp [e1']
theorem comp_allG {cs:Caps} {gt:GT} {ge:GE} {ρ:Rho} {k:Nat} {ws:List Wv} {st:Hs} (t:Wv → Bool) (h0:lstOf st k = some ws) (h1:∀ v ∈ ws,∀ s,gt (some v :: capR cs ρ) s = .ok true s)
  (h2:∀ v ∈ ws,∀ s,∃ s',ge (some v :: capR cs ρ) s = .ok (.bl (t v)) s' ∧ Gr s s') (hl:ws.length < lim):∃ st',compRun cs gt ge ρ (some k,ws) st = .ok (.ref st.length) st' ∧ Gr st st' ∧ lstOf st' st.length = some ((ws.map t).map Wv.bl):=by
 obtain ⟨st',us,e,p,g,hu,hE⟩:=compG_map (w:=(some k,ws)) (gt:=fun v => gt (some v :: capR cs ρ)) (ge:=fun v => ge (some v :: capR cs ρ)) (rr:=st.length) (fun v:Wv => v) (fun s => Gr st s) (fun v u => u = .bl (t v))
  (fun s acc h => Gr.keepAt (Nat.le_refl _) h Keep.set) (fun s h => h.lst h0) ws (fun v hv s acc hp hg => by
   obtain ⟨s',e',g'⟩:=h2 v hv s
   exact ⟨s,h1 v hv s,hp,hg,_,s',e',rfl,hp.trans g',g'.get hg⟩) [] (st ++ [.lst []]) Gr.push new_get (by simpa using hl)
 rw [List.map_id'] at e
 have hus:us = (ws.map t).map Wv.bl:=by
  refine List.ext_getElem (by simp [hu]) fun j h1 h2 => ?_
  rw [hE j (by rw [← hu]; exact h1) h1]
  simp
 subst hus
 refine ⟨st',?_,p,?_⟩
 ·unfold compRun
  dsimp only
  rw [e]
 ·rw [lst_get g]
  simp
theorem bad_loop {F:Wv} {n:Nat}:∀ (N m:Nat) (ws:List Wv) (p d:Int) (k:Nat) (st:Hs),m < N → (∃ w ∈ ws,Bd m w) → (∀ w ∈ ws,pl (n + m + 1) w) → ws.length ≤ 300 → st[k]? = some (.lst ws) → 0 ≤ p →
  ∃ ρ st',whl (gTru (gVar 1)) g_made_formula_L1 N [some F,some (.ref k),some (.int p),some (.int d)] st = .err "BadFormula" ρ st' ∧ Gr st st'
 | 0,_,_,_,_,_,_,h,_,_,_,_,_ => by omega
 | N + 1,m,ws,p,d,k,st,hN,⟨w,hw,hb⟩,hpl,hlen,hk,p0 => by
  have tl:=tru_l (lst_get hk)
  have ne:(!ws.isEmpty) = true:=by cases ws with | nil => cases hw | cons _ _ => rfl
  rw [ne] at tl
  have ln:oLen [.ref k] st = .ok (.int (ws.length:Nat)) st:=len_l (lst_get hk)
  have a1:gAug (fun i j => i + j) 2 (gCallB oLen (gCons (gVar 1) gNil)) [some F,some (.ref k),some (.int p),some (.int d)] st = .nx [some F,some (.ref k),some (.int (p + ws.length)),some (.int d)] st:=by
   unfold gAug
   simp [ln,kAug]
  have a2:gAug (fun i j => i + j) 3 (gC (.int 1)) [some F,some (.ref k),some (.int (p + ws.length)),some (.int d)] st = .nx [some F,some (.ref k),some (.int (p + ws.length)),some (.int (d + 1))] st:=by
   unfold gAug
   simp [kAug]
  have fin:∀ {ρ:Rho} {s:Hs},g_made_formula_L1 [some F,some (.ref k),some (.int p),some (.int d)] st = .err "BadFormula" ρ s → whl (gTru (gVar 1)) g_made_formula_L1 (N + 1) [some F,some (.ref k),some (.int p),some (.int d)] st = .err "BadFormula" ρ s:=fun {ρ s} h => by
   unfold whl
   simp only [e_tru,e_var,rdV_s,List.getElem?_cons_zero,List.getElem?_cons_succ,bind_ok,tl,thn_ok,if_pos,h]
  by_cases c1:60 < p + (ws.length:Int)
  ·refine ⟨[some F,some (.ref k),some (.int (p + ws.length)),some (.int (d + 1))],st,fin ?_,Gr.refl⟩
   unfold g_made_formula_L1
   simp [a1,a2,c1,lim]
  by_cases c2:12 < d + 1
  ·refine ⟨[some F,some (.ref k),some (.int (p + ws.length)),some (.int (d + 1))],st,fin ?_,Gr.refl⟩
   unfold g_made_formula_L1
   simp [a1,a2,c1,c2,lim]
  obtain ⟨s1,e1,g1,l1⟩:=comp_allG (cs:=[]) (gt:=g_made_formula_C1t) (ge:=g_made_formula_C1e) (ρ:=[some F,some (.ref k),some (.int (p + ws.length)),some (.int (d + 1))]) pieceB (lst_get hk) (fun _ _ _ => rfl) (fun v hv s => by
   obtain ⟨s',e',g'⟩:=pieceG (hpl v hv) s
   refine ⟨s',?_,g'⟩
   unfold g_made_formula_C1e
   simp [e']) (by unfold lim; omega)
  have al:=all_bs l1
  rw [all_id] at al
  cases ca:ws.all pieceB with
  | false =>
   rw [ca] at al
   refine ⟨[some F,some (.ref k),some (.int (p + ws.length)),some (.int (d + 1))],s1,fin ?_,g1⟩
   unfold g_made_formula_L1
   simp [a1,a2,c1,c2,seqW_l (lst_get hk),e1,al,lim]
  | true =>
   rw [ca] at al
   have ca':=List.all_eq_true.mp ca
   obtain ⟨m',rfl,v,hv,hb'⟩:∃ m',m = m' + 1 ∧ ∃ v ∈ partsB w,Bd m' v:=by
    have q:=ca' w hw
    cases m with
    | zero => have h0:pieceB w = false:=hb; rw [q] at h0; cases h0
    | succ m' =>
     rcases hb with h0 | ⟨v,hv,hb'⟩
     ·rw [q] at h0; cases h0
     ·exact ⟨m',rfl,v,hv,hb'⟩
   have hl60:ws.length ≤ 60:=by omega
   obtain ⟨s2,e2,g2,h2⟩:=belowG ca' (by omega) (g1.get hk)
   have nlen:=next_len ca'
   obtain ⟨ρ,s3,e3,g3⟩:=bad_loop (F:=F) (n:=n) N m' (nextB ws) (p + ws.length) (d + 1) s1.length s2 (by omega) ⟨v,List.mem_flatMap.mpr ⟨w,hw,hv⟩,hb'⟩ (fun u hu => by
    obtain ⟨z,hz,hu'⟩:=List.mem_flatMap.mp hu
    exact parts_pl (hpl z hz) (ca' z hz) u hu') (by omega) h2 (by omega)
   refine ⟨ρ,s3,?_,g1.trans (g2.trans g3)⟩
   have body:g_made_formula_L1 [some F,some (.ref k),some (.int p),some (.int d)] st = .nx [some F,some (.ref s1.length),some (.int (p + ws.length)),some (.int (d + 1))] s2:=by
    unfold g_made_formula_L1
    simp [a1,a2,c1,c2,seqW_l (lst_get hk),e1,al,e2]
   unfold whl
   simp only [e_tru,e_var,rdV_s,List.getElem?_cons_zero,List.getElem?_cons_succ,bind_ok,tl,thn_ok,if_pos,body]
   exact e3
theorem made_bad {w:Wv} {n m:Nat} (hb:Bd m w) (hp:pl (n + m + 1) w) (hm:m < 1000) (st:Hs):∃ st',F_made_formula [w] st = .err "BadFormula" st' ∧ Gr st st':=by
 obtain ⟨ρ,s1,e1,g1⟩:=bad_loop (F:=w) (n:=n) wTurns m [w] 0 0 st.length (st ++ [.lst [w]]) (by unfold wTurns; omega) ⟨w,by simp,hb⟩ (fun v hv => by rw [List.mem_singleton.mp hv]; exact hp) (by simp) new_get (by decide)
 refine ⟨s1,?_,Gr.push.trans g1⟩
 have e1':gWhile wTurns (gTru (gVar 1)) g_made_formula_L1 [some w,some (.ref st.length),some (.int 0),some (.int 0)] (st ++ [.lst [w]]) = .err "BadFormula" ρ s1:=e1
 refine fn_err (n:=4) (g:=g_made_formula) (ρ:=ρ) ?_
 unfold g_made_formula
 simp [e1']
def plB:Nat → Wv → Bool
 | 0,_ => false
 | n + 1,w => match w with
  | .int _ => true
  | .str x => decide (x.length ≤ 1000)
  | .tup ws => decide (ws.length ≤ 300) && ws.all (plB n)
  | _ => false
theorem plB_ok:∀ {n:Nat} {w:Wv},plB n w = true → pl n w
 | 0,_,h => by cases h
 | n + 1,w,h => by
  cases w with
  | int i => trivial
  | str x =>
   have h':decide (x.length ≤ 1000) = true:=h
   have q:x.length ≤ 1000:=of_decide_eq_true h'
   exact q
  | tup ws =>
   have h':(decide (ws.length ≤ 300) && ws.all (plB n)) = true:=h
   obtain ⟨h1,h2⟩:=Bool.and_eq_true_iff.mp h'
   exact ⟨of_decide_eq_true h1,fun v hv => plB_ok (List.all_eq_true.mp h2 v hv)⟩
  | _ => cases h
theorem pl_up:∀ {n m:Nat} {w:Wv},pl n w → n ≤ m → pl m w
 | 0,_,_,h,_ => False.elim h
 | n + 1,0,_,_,hm => by omega
 | n + 1,m + 1,w,h,hm => by
  cases w with
  | int i => trivial
  | str i => exact h
  | tup ws => exact ⟨h.1,fun v hv => pl_up (h.2 v hv) (by omega)⟩
  | _ => exact False.elim h
def Gd (v:Wv):Prop:=Bd 1 v ∧ pl 5 v
def gdB (v:Wv):Bool:=(!pieceB v || (partsB v).any fun u => !pieceB u) && plB 5 v
theorem gd_of {v:Wv} (h:gdB v = true):Gd v:=by
 unfold gdB at h
 obtain ⟨h1,h2⟩:=Bool.and_eq_true_iff.mp h
 refine ⟨?_,plB_ok h2⟩
 rcases Bool.or_eq_true_iff.mp h1 with q | q
 ·exact .inl (by simpa using q)
 ·obtain ⟨u,hu,e⟩:=List.any_eq_true.mp q
  exact .inr ⟨u,hu,show pieceB u = false by simpa using e⟩
theorem gd_all {L:List Wv} (h:L.all gdB = true):∀ v ∈ L,Gd v:=fun v hv => gd_of (List.all_eq_true.mp h v hv)
theorem gd_num {i:Int} (h:numB (.int i) = false):Gd (.tup [.str "num",.int i]):=by
 refine ⟨.inl ?_,plB_ok (by rfl)⟩
 rw [pieceB_k (k:=0) rfl]
 show (decide (0 ≤ 1) && tailB "num" [.int i]) = false
 unfold tailB
 rw [if_pos rfl]
 show (true && numB (.int i)) = false
 rw [h]
 rfl
theorem gd_neg {far:Int} (h:0 ≤ far):Gd (.tup [.str "num",.int (-1 - far)]):=gd_num (by
 show (decide (0 ≤ -1 - far) && _) = false
 rw [decide_eq_false (by omega)]
 rfl)
theorem gd_big {far:Int} (h:0 ≤ far):Gd (.tup [.str "num",.int (P60 + 1 + far)]):=gd_num (by
 show (decide (0 ≤ P60 + 1 + far) && decide (P60 + 1 + far ≤ P60)) = false
 rw [decide_eq_false (show ¬ P60 + 1 + far ≤ P60 by omega),Bool.and_false])
theorem gd_int {far:Int}:Gd (.tup [.int far]):=⟨.inl rfl,plB_ok rfl⟩
def A41:S:=repS 41 "a"
theorem mul41 {st:Hs}:oMulL (.str "a") (.int 41) st = .ok (.str A41) st:=by
 have c:CMulS "a" 41:=by decide +kernel
 show (if (41:Int) = 0 ∨ (41:Int) = 1 then Re.ok (Wv.str (if (41:Int) = 0 then PySem.Str.empty else "a")) st else oMulS (.str "a") (.int 41) st) = _
 rw [if_neg (by decide)]
 show (if CMulS "a" 41 then Re.ok (Wv.str (repS (41:Int).toNat "a")) st else .bad) = _
 rw [if_pos c]
 rfl
theorem far_draw {st:Hs} {l:Nat} {n:Int} (h:st[l]? = some (.lst [.int n])):∃ far n' st',F__law_digit [.ref l,.int 1000000000000000000000000000000] st = .ok (.int far) st' ∧ 0 ≤ far ∧ Keep l st st' ∧ st'[l]? = some (.lst [.int n']) :=
 ⟨_,_,_,digit h ⟨by decide,by decide +kernel⟩,Int.fmod_nonneg_of_pos _ (by decide),Keep.set,set_get h⟩
def OddEnd (l:Nat) (far n1:Int) (s1:Hs) (r:Rs):Prop:=∃ (v:Wv) (n':Int) (st':Hs),r = .rt v st' ∧ Keep l s1 st' ∧ st'[l]? = some (.lst [.int n']) ∧ Gd v
def oρ (l:Nat) (far:Int) (o:Option Wv):Rho:=[some (.ref l),some (.tup [.int 0,.int 1,.int 0,.int 1]),some (.tup [.str "lost"]),some (.int far),o]
def OddQ (s1:Hs) (k:Nat) (s:Hs) (c:Nat):Prop:=Gr s1 s ∧ s1.length ≤ k ∧ ∃ acc:List Wv,s[k]? = some (.lst acc) ∧ 0 < acc.length ∧ acc.length ≤ c ∧ ∀ v ∈ acc,Gd v
section
variable {l:Nat} {far n1:Int} {s1:Hs} {G:GS}
theorem odd_start {st:Hs} (e:F__law_digit [.ref l,.int 1000000000000000000000000000000] st = .ok (.int far) s1) (k:OddEnd l far n1 s1 (G (oρ l far none) s1)) :
  OddEnd l far n1 s1 (gSeq (gSet 1 (gTup (gCons (gC (.int 0)) (gCons (gC (.int 1)) (gCons (gC (.int 0)) (gCons (gC (.int 1)) gNil)))))) (gSeq (gSet 2 (gTup (gCons (gC (.str "lost")) gNil))) (gSeq (gSet 3 (gCall 2 F__law_digit (gCons (gVar 0) (gCons (gBin oPow (gC (.int 10)) (gC (.int 30))) gNil)))) G)) [some (.ref l),none,none,none,none] st):=by
 have pw:oPow (.int 10) (.int 30) st = .ok (.int 1000000000000000000000000000000) st:=pow_i (by decide)
 have t4:kTup [Wv.int 0,.int 1,.int 0,.int 1] st = .ok (.tup [.int 0,.int 1,.int 0,.int 1]) st:=rfl
 simp [pw,e]
 exact k
theorem odd_first {ga:GA} {items:List Wv} (hg:∀ s,ga (oρ l far none) s = .ok items s) (hi:∀ v ∈ items,Gd v) (k:∀ k s,OddQ s1 k s 20 → OddEnd l far n1 s1 (G (oρ l far (some (.ref k))) s)) (hl:0 < items.length ∧ items.length ≤ 20:=by exact ⟨Nat.le_of_ble_eq_true rfl,Nat.le_of_ble_eq_true rfl⟩) :
  OddEnd l far n1 s1 (gSeq (gSet 4 (gLst ga)) G (oρ l far none) s1):=by
 have kl:kLst items s1 = .ok (.ref s1.length) (s1 ++ [.lst items]):=kLst_d (by unfold lim; omega)
 rw [e_seq,e_set,e_lst,hg,bind_ok,kl,thn_ok,sq_nx]
 exact k s1.length _ ⟨Gr.push,Nat.le_refl _,items,new_get,hl.1,hl.2,hi⟩
theorem odd_seq {ga:GA} {items:List Wv} {kk c:Nat} {s:Hs} (hg:∀ s,ga (oρ l far (some (.ref kk))) s = .ok items s) (hi:∀ v ∈ items,Gd v) (q:OddQ s1 kk s c) (k:∀ k s,OddQ s1 k s (c + 20) → OddEnd l far n1 s1 (G (oρ l far (some (.ref k))) s)) (hl:items.length ≤ 20:=by exact Nat.le_of_ble_eq_true rfl) (hc:c ≤ 1000:=by decide) :
  OddEnd l far n1 s1 (gSeq (gSet 4 (gBin oAdd (gVar 4) (gLst ga))) G (oρ l far (some (.ref kk))) s):=by
 obtain ⟨g,lk,acc,ha,a0,a1,ag⟩:=q
 have kl:kLst items s = .ok (.ref s.length) (s ++ [.lst items]):=kLst_d (by unfold lim; omega)
 have ad:=add_l (lst_get (push_get ha):lstOf (s ++ [.lst items]) kk = some acc) lstOf_new (by unfold lim; omega)
 have v4:gVar 4 (oρ l far (some (.ref kk))) s = .ok (.ref kk) s:=rfl
 have g1:Gr s (s ++ [.lst items]):=Gr.push
 generalize s ++ [.lst items] = s2 at kl ad g1
 rw [e_seq,e_set,e_bin,v4,bind_ok,kB_d,e_lst,hg,bind_ok,kl,bind_ok,ad,nox_ok,thn_ok,sq_nx]
 refine k s2.length _ ⟨g.trans (g1.trans Gr.push),Nat.le_trans g.1 g1.1,acc ++ items,new_get,by rw [List.length_append]; omega,by rw [List.length_append]; omega,fun v hv => ?_⟩
 rcases List.mem_append.mp hv with z | z
 ·exact ag v z
 ·exact hi v z
theorem odd_app {ge:GE} {items:List Wv} {w:Wv} {kk c:Nat} {s:Hs} (hg:∀ s,ge (oρ l far (some (.ref kk))) s = .ok w s) (hi:∀ v ∈ items,Gd v) (q:OddQ s1 kk s c) (k:∀ k s,OddQ s1 k s (c + 20) → OddEnd l far n1 s1 (G (oρ l far (some (.ref k))) s)) (hw:items = [w]:=by rfl) (hc:c ≤ 1000:=by decide) :
  OddEnd l far n1 s1 (gSeq (gExpr (gMeth mApp (gVar 4) ge)) G (oρ l far (some (.ref kk))) s):=by
 obtain ⟨g,lk,acc,ha,a0,a1,ag⟩:=q
 subst hw
 have km:=kMeth_l (mt:=mApp) (ga:=ge) (ρ:=oρ l far (some (.ref kk))) (lst_get ha)
 have ap:=app_l (v:=w) ha (by unfold lim; omega)
 have v4:gVar 4 (oρ l far (some (.ref kk))) s = .ok (.ref kk) s:=rfl
 rw [e_seq,e_expr,e_meth,v4,bind_ok,km,hg,bind_ok,ap,nox_ok,thn_ok,sq_nx]
 refine k kk _ ⟨Gr.keepAt lk g Keep.set,lk,acc ++ [w],set_get ha,by simp,by rw [List.length_append,List.length_singleton]; omega,fun v hv => ?_⟩
 rcases List.mem_append.mp hv with z | z
 ·exact ag v z
 ·exact hi v z
theorem odd_end {kk c:Nat} {s:Hs} (h1:s1[l]? = some (.lst [.int n1])) (q:OddQ s1 kk s c) (hc:c ≤ 1000:=by decide) :
  OddEnd l far n1 s1 (gRet (gBin oIx (gVar 4) (gCall 2 F__law_digit (gCons (gVar 0) (gCons (gCallB oLen (gCons (gVar 4) gNil)) gNil)))) (oρ l far (some (.ref kk))) s):=by
 obtain ⟨g,lk,acc,ha,a0,a1,ag⟩:=q
 have hl:=get_lt h1
 have hls:=g.get h1
 have ln:oLen [.ref kk] s = .ok (.int (acc.length:Nat)) s:=len_l (lst_get ha)
 obtain ⟨d,n',s2,e2,d0,d1,k2,h2⟩:=draw (acc.length:Nat) hls (by omega) (by omega)
 obtain ⟨v,e3,e4⟩:=atI_some (ws:=acc) (d:=d) d0 (by omega)
 have ix:oIx (.ref kk) (.int d) s2 = .ok v s2:=ix_l (k2.lst (lst_get ha) (by omega)) e3
 have v4:∀ s,gVar 4 (oρ l far (some (.ref kk))) s = .ok (.ref kk) s:=fun _ => rfl
 have v0:∀ s,gVar 0 (oρ l far (some (.ref kk))) s = .ok (.ref l) s:=fun _ => rfl
 refine ⟨v,n',s2,?_,g.keep.trans k2,h2,ag v e4⟩
 simp [-e_var,v4,v0,ln,e2,ix]
end
def OD0 (far:Int):List Wv:=[.tup [.str "num"],.tup [.str "num",.int (-1 - far)],.tup [.str "num",.int (P60 + 1 + far)],.tup [.str "num",.str "1"],.tup [.str "num",.int 1,.int 1],.tup [.str "num",.tup [.int 1]]]
theorem od0 {far:Int} (h:0 ≤ far):∀ v ∈ OD0 far,Gd v:=by
 unfold OD0
 simp only [List.forall_mem_cons,List.not_mem_nil,false_implies,implies_true,and_true]
 exact ⟨gd_of (by decide +kernel),gd_neg h,gd_big h,gd_of (by decide +kernel),gd_of (by decide +kernel),gd_of (by decide +kernel)⟩
def OD1:List Wv:=[.tup [.str "text",.str A41],.tup [.str "text",.str "a\"b"],.tup [.str "text",.int 1],.tup [.str "text"],.tup [.str "lost",.int 1],.tup [.str "at",.tup [.int 99,.int 0],.tup [.int 0,.int 0]]]
theorem od1 {far:Int} (h:0 ≤ far):∀ v ∈ OD1,Gd v:=gd_all (by decide +kernel)
def OD2:List Wv:=[.tup [.str "at",.tup [.int 0,.int 26],.tup [.int 0,.int 0]],.tup [.str "at",.tup [.int (-1),.int 0],.tup [.int 0,.int 0]],.tup [.str "at",.tup [.int 0,.int 0],.tup [.int 2,.int 0]],.tup [.str "at",.tup [.int 0,.int 0],.tup [.int 0]]]
theorem od2 {far:Int} (h:0 ≤ far):∀ v ∈ OD2,Gd v:=gd_all (by decide +kernel)
def OD3:List Wv:=[.tup [.str "at",.tup [.int 0,.int 0]],.tup [.str "at",.tup [.int 0,.int 0,.int 0],.tup [.int 0,.int 0]],.tup [.str "at",.tup [.int 0,.int (-1)],.tup [.int 0,.int 0]],.tup [.str "at",.tup [.int 0,.int 0],.tup [.int 0,.int (-1)]]]
theorem od3 {far:Int} (h:0 ≤ far):∀ v ∈ OD3,Gd v:=gd_all (by decide +kernel)
def OD4:List Wv:=[.tup [.str "sum",.tup [.int 0,.int 0,.int 0],.tup [.int 0,.int 1,.int 0,.int 1]],.tup [.str "sum",.tup [.int 1,.int 0,.int 0,.int 0],.tup [.int 0,.int 1,.int 0,.int 1]],.tup [.str "sum",.tup [.int 0,.int 1,.int 0,.int 0],.tup [.int 0,.int 1,.int 0,.int 1]]]
theorem od4 {far:Int} (h:0 ≤ far):∀ v ∈ OD4,Gd v:=gd_all (by decide +kernel)
def OD5:List Wv:=[.tup [.str "count",.tup [.int 0,.int 0,.int 98,.int 3],.tup [.int 0,.int 1,.int 0,.int 1]],.tup [.str "count",.tup [.int 0,.int 0,.int 99,.int 0],.tup [.int 0,.int 1,.int 0,.int 1]],.tup [.str "count",.tup [.int 0,.int 0,.int 0,.int 26],.tup [.int 0,.int 1,.int 0,.int 1]]]
theorem od5 {far:Int} (h:0 ≤ far):∀ v ∈ OD5,Gd v:=gd_all (by decide +kernel)
def OD6:List Wv:=[.tup [.str "least",.tup [.int 0,.int 0,.int 11,.int 25],.tup [.int 0,.int 1,.int 0,.int 1]],.tup [.str "least",.tup [.int 0,.int 0,.int 0,.int 0],.tup [.int 0,.int 0,.int 0]],.tup [.str "least",.tup [.int 0,.int 0,.int 0,.int 0]]]
theorem od6 {far:Int} (h:0 ≤ far):∀ v ∈ OD6,Gd v:=gd_all (by decide +kernel)
def OD7:List Wv:=[.tup [.str "greatest",.tup [.int 0,.int 0,.int 0,.int 0],.tup [.int 0,.int 0,.int 0,.int (-1)]],.tup [.str "greatest",.tup [.str "lost"],.tup [.int 0,.int 1,.int 0,.int 1]],.tup [.str "find",.tup [.int 0,.int 0,.int 0,.int 0],.tup [.int 0,.int 1,.int 0,.int 1]]]
theorem od7 {far:Int} (h:0 ≤ far):∀ v ∈ OD7,Gd v:=gd_all (by decide +kernel)
def OD8:List Wv:=[.tup [.str "find",.tup [.str "lost"],.tup [.int 0,.int 0,.int 0,.int 0]],.tup [.str "find",.tup [.str "lost"],.tup [.int 0,.int 0],.tup [.int 0,.int 1,.int 0,.int 1]],.tup [.str "find",.tup [.str "lost"],.tup [.str "lost"],.tup [.int 0,.int 1,.int 0,.int 1]]]
theorem od8 {far:Int} (h:0 ≤ far):∀ v ∈ OD8,Gd v:=gd_all (by decide +kernel)
def OD9:List Wv:=[.tup [.str "plus",.tup [.str "lost"],.tup [.str "lost"]],.tup [.str "+",.tup [.str "lost"]],.tup [.str "-",.tup [.str "lost"]],.tup [.str "minus",.tup [.str "lost"],.tup [.str "lost"]],.tup [.str "minus"],.tup [.str "not",.tup [.str "lost"],.tup [.str "lost"]]]
theorem od9 {far:Int} (h:0 ≤ far):∀ v ∈ OD9,Gd v:=gd_all (by decide +kernel)
def OD10:List Wv:=[.tup [.str "if",.tup [.str "lost"],.tup [.str "lost"]],.tup [.str "if",.tup [.str "lost"],.tup [.str "lost"],.tup [.str "lost"],.tup [.str "lost"]],.tup [.str "else",.tup [.str "lost"]],.tup [.str "rest",.tup [.str "lost"]]]
theorem od10 {far:Int} (h:0 ≤ far):∀ v ∈ OD10,Gd v:=gd_all (by decide +kernel)
def OD11:List Wv:=[.tup [.str "<",.tup [.str "lost"],.tup [.str "lost"],.tup [.str "lost"]]]
theorem od11 {far:Int} (h:0 ≤ far):∀ v ∈ OD11,Gd v:=gd_all (by decide +kernel)
def OD12 (far:Int):List Wv:=[.tup [],.tup [.int 1,.int 2],.tup [.tup [.str "lost"],.tup [.str "lost"]],.tup [.str ""],.tup [.str "SUM",.tup [.int 0,.int 0,.int 0,.int 0],.tup [.int 0,.int 1,.int 0,.int 1]],.tup [.str "average",.tup [.int 0,.int 0,.int 0,.int 0],.tup [.int 0,.int 1,.int 0,.int 1]],.tup [.int far]]
theorem od12 {far:Int} (h:0 ≤ far):∀ v ∈ OD12 far,Gd v:=by
 unfold OD12
 simp only [List.forall_mem_cons,List.not_mem_nil,false_implies,implies_true,and_true]
 exact ⟨gd_of (by decide +kernel),gd_of (by decide +kernel),gd_of (by decide +kernel),gd_of (by decide +kernel),gd_of (by decide +kernel),gd_of (by decide +kernel),gd_int⟩
def OD13:List Wv:=[.tup [.str "minus",.str "lost"],.tup [.str "+",.int 1,.tup [.str "lost"]],.tup [.str "=",.tup [.str "lost"],.str "a"],.tup [.str "lost",.tup [.str "lost"]],.tup [.str "text",.str "\t"], .tup [.str "text", .str "a\nb"]]
theorem od13 {far:Int} (h:0 ≤ far):∀ v ∈ OD13,Gd v:=gd_all (by decide +kernel)
theorem odd {st:Hs} {l:Nat} {n:Int} (h:st[l]? = some (.lst [.int n])):∃ (v:Wv) (n':Int) (st':Hs),F__law_odd [.ref l] st = .ok v st' ∧ Keep l st st' ∧ st'[l]? = some (.lst [.int n']) ∧ Gd v:=by
 obtain ⟨far,n1,s1,e1,f0,k1,h1⟩:=far_draw h
 have d1:0 ≤ far:=f0
 have ln:l < s1.length:=get_lt h1
 suffices hs:OddEnd l far n1 s1 (g__law_odd [some (.ref l),none,none,none,none] st) by
  obtain ⟨v,n',st',e,k,hn,g⟩:=hs
  exact ⟨v,n',st',fn_rt e,k1.trans k,hn,g⟩
 unfold g__law_odd
 refine odd_start e1 ?_
 refine odd_first (items:=OD0 far) ?_ (od0 d1) ?_
 ·intro s; simp [oρ,p60]; rfl
 rintro l0 s2 q0
 refine odd_seq (items:=OD1) ?_ (od1 d1) q0 ?_
 ·intro s; simp [oρ,mul41]; rfl
 rintro l1 s3 q1
 refine odd_seq (items:=OD2) ?_ (od2 d1) q1 ?_
 ·exact fun s => rfl
 rintro l2 s4 q2
 refine odd_seq (items:=OD3) ?_ (od3 d1) q2 ?_
 ·exact fun s => rfl
 rintro l3 s5 q3
 refine odd_seq (items:=OD4) ?_ (od4 d1) q3 ?_
 ·exact fun s => rfl
 rintro l4 s6 q4
 refine odd_seq (items:=OD5) ?_ (od5 d1) q4 ?_
 ·exact fun s => rfl
 rintro l5 s7 q5
 refine odd_seq (items:=OD6) ?_ (od6 d1) q5 ?_
 ·exact fun s => rfl
 rintro l6 s8 q6
 refine odd_seq (items:=OD7) ?_ (od7 d1) q6 ?_
 ·exact fun s => rfl
 rintro l7 s9 q7
 refine odd_seq (items:=OD8) ?_ (od8 d1) q7 ?_
 ·exact fun s => rfl
 rintro l8 s10 q8
 refine odd_seq (items:=OD9) ?_ (od9 d1) q8 ?_
 ·exact fun s => rfl
 rintro l9 s11 q9
 refine odd_seq (items:=OD10) ?_ (od10 d1) q9 ?_
 ·exact fun s => rfl
 rintro l10 s12 q10
 refine odd_app (items:=OD11) ?_ (od11 d1) q10 ?_
 ·exact fun s => rfl
 rintro l11 s13 q11
 refine odd_seq (items:=OD12 far) ?_ (od12 d1) q11 ?_
 ·exact fun s => rfl
 rintro l12 s14 q12
 refine odd_seq (items:=OD13) ?_ (od13 d1) q12 ?_
 ·exact fun s => rfl
 rintro l13 s15 q13
 exact odd_end h1 q13
theorem eq_empty {ns:List Int} {a b:Nat} {st:Hs} (ha:lstOf st a = some (ns.map Wv.int)) (hb:lstOf st b = some []):oEq (.ref a) (.ref b) st = .ok (.bl ns.isEmpty) st:=by
 have d1:∀ ns:List Int,mapO (datum st 19) (ns.map Wv.int) = some (ns.map PyData.int):=by
  intro ns
  induction ns with
  | nil => rfl
  | cons n r ih =>
   rw [List.map_cons]
   unfold mapO
   rw [ih]
   rfl
 unfold oEq
 rw [dat_l ha,dat_l hb,d1]
 cases ns with
 | nil => rfl
 | cons n r => simp [mapO,PyData.eqv,PyData.eqvAll]
theorem pl_tI {l:List Int} (h:l.length ≤ 300):pl 2 (tI l):=⟨by simpa using h,fun v hv => by
 obtain ⟨i,_,rfl⟩:=List.mem_map.mp hv
 trivial⟩
theorem sh_len {l p:List Int} (h:Sh2 l p ∨ Sh4 l p):(l.length ≤ 4 ∧ 0 < l.length) ∧ p.length ≤ 4 ∧ 0 < p.length:=by
 rcases h with ⟨_,_,_,_,rfl,rfl,_⟩ | ⟨_,_,_,_,_,_,_,_,rfl,rfl,_⟩ <;> simp
theorem rest_w (f:Fm):f.v.2 = f.kids.map Fm.w ++ f.tl:=by cases f <;> rfl
def noS:Wv → Bool
 | .tup (.str _ :: _) => false
 | _ => true
theorem tl_facts {f:Fm} (h:f.ok):(∀ v ∈ f.tl,noS v = true ∧ pl 3 v) ∧ f.tl.length ≤ 2:=by
 have two:∀ {l p:List Int},Sh2 l p ∨ Sh4 l p → (∀ v ∈ [tI l,tI p],noS v = true ∧ pl 3 v):=by
  intro l p hs v hv
  obtain ⟨⟨h1,h2⟩,h3,h4⟩:=sh_len hs
  have one:∀ m:List Int,0 < m.length → m.length ≤ 4 → noS (tI m) = true ∧ pl 3 (tI m):=fun m h0 h4 => ⟨by cases m with | nil => cases h0 | cons i r => rfl,pl_up (pl_tI (by omega)) (by decide)⟩
  simp only [List.mem_cons,List.not_mem_nil,or_false] at hv
  rcases hv with rfl | rfl
  ·exact one l h2 h1
  ·exact one p h4 h3
 cases f with
 | lit x ws =>
  rcases h with ⟨rfl,i,rfl,_⟩ | ⟨rfl,s,rfl,ht⟩ | ⟨rfl,rfl⟩
  ·exact ⟨(fun v hv => by rw [List.mem_singleton.mp hv]; exact ⟨rfl,trivial⟩),by simp [Fm.tl]⟩
  ·refine ⟨fun v hv => ?_,by simp [Fm.tl]⟩
   rw [List.mem_singleton.mp hv]
   have h40:=ht.1
   exact ⟨rfl,show s.length ≤ 1000 by omega⟩
  ·exact ⟨(fun v hv => by cases hv),by simp [Fm.tl]⟩
 | pt x l p => exact ⟨two (h.imp (fun z => z.2) fun z => z.2),by simp [Fm.tl]⟩
 | fd a l p => exact ⟨two (.inr h.2),by simp [Fm.tl]⟩
 | o1 x a => exact ⟨(fun v hv => by cases hv),by simp [Fm.tl]⟩
 | o2 x a b => exact ⟨(fun v hv => by cases hv),by simp [Fm.tl]⟩
 | o3 a b c => exact ⟨(fun v hv => by cases hv),by simp [Fm.tl]⟩
theorem word_len {f:Fm} (h:f.ok):f.v.1.length ≤ 1000:=by
 have lk:=parts_n h
 have m:=lookup_in lk
 have q:∀ p ∈ d_PART_COUNTS,p.1.length ≤ 1000:=by decide +kernel
 exact q _ m
theorem kid_dp {f:Fm}:∀ g ∈ f.kids,g.dp + 1 ≤ f.dp:=by
 have hD:∀ ks:List Fm,∀ g ∈ ks,g.dp ≤ D ks:=by
  intro ks
  induction ks with
  | nil => intro g z; cases z
  | cons a r ih =>
   intro g hg
   have e1:D (a :: r) = max a.dp (D r):=rfl
   rcases List.mem_cons.mp hg with z | z
   ·rw [z,e1]; omega
   ·have:=ih g z
    rw [e1]; omega
 intro g hg
 have:=dp_kids f
 have:=hD f.kids g hg
 omega
theorem pl_w:∀ (n:Nat) {f:Fm},f.ok → f.dp ≤ n → pl (n + 4) f.w
 | 0,f,_,hd => by have:=dp_kids f; omega
 | n + 1,f,h,hd => by
  have k3:=kids3 f
  obtain ⟨t1,t2⟩:=tl_facts h
  refine ⟨?_,fun v hv => ?_⟩
  ·rw [rest_w,List.length_cons,List.length_append,List.length_map]; omega
  ·rcases List.mem_cons.mp hv with z | z
   ·rw [z]; exact word_len h
   ·rw [rest_w] at z
    rcases List.mem_append.mp z with z | z
    ·obtain ⟨g,hg,rfl⟩:=List.mem_map.mp z
     have:=kid_dp g hg
     exact pl_w n (kids_ok h g hg) (by omega)
    ·exact pl_up (t1 v z).2 (by omega)
def cond2 (us:List Wv) (k:Int):Bool:=match us[k.toNat]? with
 | some (.tup (_ :: _)) => true
 | _ => false
def cond1 (us:List Wv) (k:Int):Bool:=match us[k.toNat]? with
 | some (.tup (.str _ :: _)) => true
 | _ => false
theorem gt_len {a:Nat} {st:Hs}:oGt (.int (a:Nat)) (.int 0) st = .ok (.bl (decide (0 < a))) st:=by
 rw [gt_i]
 congr 2
 exact decide_eq_decide.mpr (by omega)
theorem inner2 {us:List Wv} {o:Option Wv} {n:Nat} {R:List Wv → Hs → Re Wv} (hp:∀ v ∈ us,pl n v) (hl:us.length ≤ 300) (h0:0 < us.length) (st:Hs) :
  compRun [("formula",0)] (g__law_spoiled_C2t R) (g__law_spoiled_C2e R) [some (.tup us),o,none,none,none,none] (none,rngW 1 (us.length - 1)) st = .ok (.ref st.length) (st ++ [.lst (((List.range (us.length - 1)).map fun k:Nat => (1:Int) + k).filter (cond2 us) |>.map Wv.int)]):=by
 rw [comp_pure (w:=(none,rngW 1 (us.length - 1))) (t:=fun v => match v with | .int k => cond2 us k | _ => false) (f:=id) trivial]
 ·rw [List.map_id]
  have e:rngW 1 (us.length - 1) = ((List.range (us.length - 1)).map fun k:Nat => (1:Int) + k).map Wv.int:=by
   unfold rngW
   rw [List.map_map]
   rfl
  show Re.ok _ (st ++ [.lst ((rngW 1 (us.length - 1)).filter _)]) = _
  rw [e,List.filter_map]
  rfl
 ·intro v hv acc
  have hv:v ∈ rngW 1 (us.length - 1):=hv
  obtain ⟨k,rfl,k0,k1⟩:=rng_mem hv
  obtain ⟨m,rfl⟩:=Int.eq_ofNat_of_zero_le (show 0 ≤ k by omega)
  have hm:m < us.length:=by omega
  have ix:∀ s:Hs,oIx (.tup us) (.int (m:Nat)) s = .ok us[m] s:=fun s => ix_t (L2.atI_nat (List.getElem?_eq_getElem hm))
  have hg:us[((m:Nat):Int).toNat]? = some us[m]:=by rw [Int.toNat_natCast]; exact List.getElem?_eq_getElem hm
  have pv:=hp us[m] (List.getElem_mem hm)
  show g__law_spoiled_C2t R [some (.int (m:Nat)),some (.tup us)] _ = .ok (cond2 us (m:Nat)) _
  unfold cond2
  rw [hg]
  generalize us[m] = u at ix pv
  unfold g__law_spoiled_C2t
  cases n with
  | zero => exact False.elim pv
  | succ n =>
   cases u with
   | int i => simp [ix,int_nt]
   | str x => simp [ix,str_nt]
   | tup vs =>
    have g:=gt_len (a:=vs.length) (st:=st ++ [.lst acc])
    cases vs with
    | nil => simp [ix,tup_is,len_t]
    | cons a r =>
     rw [decide_eq_true (by simp)] at g
     simp only [e_and,e_tru,e_callB,e_cons,e_bin,e_var,rdV_s,List.getElem?_cons_zero,List.getElem?_cons_succ,bind_ok,kB_d,ix,nox_ok,kCons_d,e_c,e_nil,tup_is,truW_b,kAnd_t,e_tst,len_t,g,tst_b]
   | _ => exact False.elim pv
 ·intro v hv _ acc
  rfl
 ·show (rngW 1 (us.length - 1)).length < lim
  rw [rngW_len]
  unfold lim
  omega
theorem inner1 {us:List Wv} {o:Option Wv} {R:List Wv → Hs → Re Wv} {l:Nat} {ks:List Int} (hk:∀ k ∈ ks,0 ≤ k ∧ k.toNat < us.length ∧ cond2 us k = true) (hp:∀ v ∈ us,∀ a r,v = .tup (a :: r) → ∃ n,pl n a) (hl:ks.length ≤ 300) (st:Hs) (h:lstOf st l = some (ks.map Wv.int)) :
  compRun [("formula",0)] (g__law_spoiled_C1t R) (g__law_spoiled_C1e R) [some (.tup us),o,some (.ref l),none,none,none] (some l,ks.map Wv.int) st = .ok (.ref st.length) (st ++ [.lst ((ks.filter (cond1 us)).map Wv.int)]):=by
 rw [comp_pure (w:=(some l,ks.map Wv.int)) (t:=fun v => match v with | .int k => cond1 us k | _ => false) (f:=id) h]
 ·rw [List.map_id]
  show Re.ok _ (st ++ [.lst ((ks.map Wv.int).filter _)]) = _
  rw [List.filter_map]
  rfl
 ·intro v hv acc
  obtain ⟨k,hkm,rfl⟩:=List.mem_map.mp hv
  obtain ⟨k0,k1,k2⟩:=hk k hkm
  obtain ⟨m,rfl⟩:=Int.eq_ofNat_of_zero_le k0
  have hm:m < us.length:=by simpa using k1
  have ix:∀ s:Hs,oIx (.tup us) (.int (m:Nat)) s = .ok us[m] s:=fun s => ix_t (L2.atI_nat (List.getElem?_eq_getElem hm))
  have hg:us[((m:Nat):Int).toNat]? = some us[m]:=by rw [Int.toNat_natCast]; exact List.getElem?_eq_getElem hm
  unfold cond2 at k2
  rw [hg] at k2
  show g__law_spoiled_C1t R [some (.int (m:Nat)),some (.tup us)] _ = .ok (cond1 us (m:Nat)) _
  unfold cond1
  rw [hg]
  have hpm:=hp us[m] (List.getElem_mem hm)
  generalize us[m] = u at ix k2 hpm
  cases u with
  | tup vs =>
   cases vs with
   | nil => cases k2
   | cons a r =>
    obtain ⟨n,pa⟩:=hpm a r rfl
    cases n with
    | zero => exact False.elim pa
    | succ n =>
     unfold g__law_spoiled_C1t
     cases a with
     | int i => simp [ix,ix0,int_ns]
     | str x => simp [ix,ix0,str_is]
     | tup ws => simp [ix,ix0,tup_ns]
     | _ => exact False.elim pa
  | _ => cases k2
 ·intro v hv _ acc
  rfl
 ·show (ks.map Wv.int).length < lim
  rw [List.length_map]
  unfold lim
  omega
theorem spot {f:Fm} (h:f.ok) {k:Int} (k1:1 ≤ k) (hc:cond1 (.str f.v.1 :: f.v.2) k = true):∃ (j:Nat) (g:Fm),k = ((j + 1:Nat):Int) ∧ j < f.kids.length ∧ g ∈ f.kids ∧ f.v.2[j]? = some g.w ∧ j < f.v.2.length:=by
 obtain ⟨m,rfl⟩:=Int.eq_ofNat_of_zero_le (show 0 ≤ k by omega)
 obtain ⟨j,rfl⟩:∃ j,m = j + 1:=⟨m - 1,by omega⟩
 unfold cond1 at hc
 rw [Int.toNat_natCast,List.getElem?_cons_succ] at hc
 obtain ⟨t1,_⟩:=tl_facts h
 by_cases c:j < f.kids.length
 ·have e:f.v.2[j]? = some f.kids[j].w:=by
   rw [rest_w,List.getElem?_append_left (by rw [List.length_map]; exact c),List.getElem?_map,List.getElem?_eq_getElem c]
   rfl
  exact ⟨j,f.kids[j],rfl,c,List.getElem_mem c,e,(List.getElem?_eq_some_iff.mp e).1⟩
 ·exfalso
  rw [rest_w,List.getElem?_append_right (by rw [List.length_map]; omega)] at hc
  cases e:f.tl[j - (f.kids.map Fm.w).length]? with
  | none => rw [e] at hc; cases hc
  | some v =>
   rw [e] at hc
   have:=(t1 v (List.mem_of_getElem? e)).1
   cases v with
   | tup vs =>
    cases vs with
    | nil => cases hc
    | cons a r =>
     cases a with
     | str x => cases this
     | _ => cases hc
   | _ => cases hc
theorem swapped {f:Fm} (h:f.ok) {j m:Nat} {p:Wv} (hj:j < f.kids.length) (hl:j < f.v.2.length) (hb:Bd m p):Bd (m + 1) (.tup (.str f.v.1 :: (f.v.2.take j ++ [p] ++ f.v.2.drop (j + 1)))):=by
 refine .inr ⟨p,?_,hb⟩
 rw [partsB_k (parts_n h)]
 have e:(f.v.2.take j ++ [p] ++ f.v.2.drop (j + 1))[j]? = some p:=by
  rw [List.append_assoc,List.getElem?_append_right (by rw [List.length_take]; omega),List.length_take,Nat.min_eq_left (by omega),Nat.sub_self]
  rfl
 have e2:((f.v.2.take j ++ [p] ++ f.v.2.drop (j + 1)).take f.kids.length)[j]? = some p:=by
  rw [List.getElem?_take_of_lt hj]; exact e
 exact List.mem_of_getElem? e2
theorem nwh_lo {n k:Nat} (h:k + 1 < n):¬ isWh n none (some ((k + 1:Nat):Int)):=by
 intro z
 have z2:=z.2
 rw [HT.sIx_nat] at z2
 omega
theorem cut_take {us:List Wv} {k:Nat}:cutW us none (some (k:Nat)) = us.take k:=by
 unfold cutW
 rw [HT.sIx_none,HT.sIx_nat]
 by_cases c:k ≤ us.length
 ·rw [Nat.min_eq_left c]; rfl
 ·rw [Nat.min_eq_right (by omega)]
  show us.take us.length = _
  rw [List.take_of_length_le (Nat.le_refl _),List.take_of_length_le (by omega)]
theorem lo_sl {y:Wv} {ws:List Wv} {j:Nat} {st:Hs} (h:j < ws.length):oSl2 (.tup (y :: ws)) none (some ((j + 1:Nat):Int)) st = .ok (.tup (y :: ws.take j)) st :=
 sl_t (nwh_lo (by rw [List.length_cons]; omega)) (by rw [cut_take]; rfl)
theorem hi_sl {y:Wv} {ws:List Wv} {j:Nat} {st:Hs}:oSl2 (.tup (y :: ws)) (some (((j + 1:Nat):Int) + 1)) none st = .ok (.tup (ws.drop (j + 1))) st:=by
 have e:((j + 1:Nat):Int) + 1 = 1 + ((j + 1:Nat):Int):=by omega
 rw [e]
 exact sl_t not_wh cut_hi
def four:List Wv:=[.int 7,.str "a1",.tup [],.tup [.int 0,.int 0]]
theorem four_bd:∀ v ∈ four,Bd 0 v ∧ pl 3 v:=by
 intro v hv
 simp only [four,List.mem_cons,List.not_mem_nil,or_false] at hv
 rcases hv with rfl | rfl | rfl | rfl
 ·exact ⟨rfl,trivial⟩
 ·exact ⟨rfl,plB_ok (by decide +kernel)⟩
 ·exact ⟨rfl,plB_ok rfl⟩
 ·exact ⟨rfl,plB_ok rfl⟩
theorem spoiled:∀ (n:Nat) {f:Fm},f.ok → f.dp ≤ n → ∀ {st:Hs} {l:Nat} {a:Int},st[l]? = some (.lst [.int a]) → ∃ (w:Wv) (a':Int) (st':Hs),R__law_spoiled n [f.w,.ref l] st = .ok w st' ∧ Keep l st st' ∧ st'[l]? = some (.lst [.int a']) ∧ Bd (n + 1) w ∧ pl (n + 6) w
 | 0,f,_,hd,_,_,_,_ => by have:=dp_kids f; omega
 | n + 1,f,h,hd,st,l,a,ha => by
  have pw:=pl_w (n + 1) h hd
  have k3:=kids3 f
  obtain ⟨t1,t2⟩:=tl_facts h
  have lv:f.v.2.length ≤ 5:=by rw [rest_w,List.length_append,List.length_map]; omega
  have hw:f.w = .tup (.str f.v.1 :: f.v.2):=rfl
  have pus:∀ v ∈ Wv.str f.v.1 :: f.v.2,pl (n + 4) v:=pw.2
  have la:=get_lt ha
  have lnU:∀ s:Hs,oLen [f.w] s = .ok (.int ((f.v.2.length + 1:Nat):Int)) s:=fun _ => rfl
  have c1:CRng 1:=crng (by decide) (by decide)
  have c2:CRng ((f.v.2.length + 1:Nat):Int):=crng (by omega) (by omega)
  have r2:rng2W [.int 1,.int ((f.v.2.length + 1:Nat):Int)] st = .ok (none,rngW 1 ((Wv.str f.v.1 :: f.v.2).length - 1)) st:=by
   rw [rng2_i c1 c2]
   have:(((f.v.2.length + 1:Nat):Int) - 1).toNat = (Wv.str f.v.1 :: f.v.2).length - 1:=by rw [List.length_cons]; omega
   rw [this]
  have i2:=inner2 (us:=.str f.v.1 :: f.v.2) (o:=some (.ref l)) (R:=R__law_spoiled n) pus (by rw [List.length_cons]; omega) (by simp) st
  generalize hks2:((List.range ((Wv.str f.v.1 :: f.v.2).length - 1)).map fun k:Nat => (1:Int) + k).filter (cond2 (.str f.v.1 :: f.v.2)) = ks2 at i2
  have hk2:∀ k ∈ ks2,1 ≤ k ∧ k.toNat < (Wv.str f.v.1 :: f.v.2).length ∧ cond2 (.str f.v.1 :: f.v.2) k = true:=by
   intro k hk
   rw [← hks2] at hk
   obtain ⟨h1,h2⟩:=List.mem_filter.mp hk
   obtain ⟨i,hi,rfl⟩:=List.mem_map.mp h1
   have:=List.mem_range.mp hi
   rw [List.length_cons] at this ⊢
   exact ⟨by omega,by omega,h2⟩
  have len2:ks2.length ≤ 10:=by
   rw [← hks2]
   refine Nat.le_trans (List.length_filter_le _ _) ?_
   rw [List.length_map,List.length_range,List.length_cons]
   omega
  have g1:Gr st (st ++ [.lst (ks2.map Wv.int)]):=Gr.push
  have l1:lstOf (st ++ [.lst (ks2.map Wv.int)]) st.length = some (ks2.map Wv.int):=lstOf_new
  generalize st ++ [.lst (ks2.map Wv.int)] = s1 at i2 g1 l1
  have i1:=inner1 (us:=.str f.v.1 :: f.v.2) (o:=some (.ref l)) (R:=R__law_spoiled n) (l:=st.length) (ks:=ks2) (fun k hk => ⟨by have:=(hk2 k hk).1; omega,(hk2 k hk).2⟩) (fun v hv a r e => by
   have pv:=pus v hv
   rw [e] at pv
   exact ⟨n + 3,pv.2 a List.mem_cons_self⟩) (by omega) s1 l1
  generalize hks1:ks2.filter (cond1 (.str f.v.1 :: f.v.2)) = ks1 at i1
  have hk1:∀ k ∈ ks1,1 ≤ k ∧ cond1 (.str f.v.1 :: f.v.2) k = true:=by
   intro k hk
   rw [← hks1] at hk
   obtain ⟨h1,h2⟩:=List.mem_filter.mp hk
   exact ⟨(hk2 k h1).1,h2⟩
  have len1:ks1.length ≤ 10:=by
   rw [← hks1]
   exact Nat.le_trans (List.length_filter_le _ _) len2
  have g2:Gr s1 (s1 ++ [.lst (ks1.map Wv.int)]):=Gr.push
  have l2:(s1 ++ [Ob.lst (ks1.map Wv.int)])[s1.length]? = some (.lst (ks1.map Wv.int)):=new_get
  generalize s1 ++ [.lst (ks1.map Wv.int)] = s2 at i1 g2 l2
  have ls1:l < s1.length:=Nat.lt_of_lt_of_le la g1.1
  obtain ⟨way,n3,s3,e3,w0,w1,k3',h3⟩:=draw 4 (g2.get (g1.get ha)) (by decide) (by decide)
  have l3:s3[s1.length]? = some (.lst (ks1.map Wv.int)):=by rw [k3'.2 _ (get_lt l2) (by omega)]; exact l2
  have kk3:Keep l st s3:=(g1.keep.trans g2.keep).trans k3'
  have g4:Gr s3 (s3 ++ [.lst []]):=Gr.push
  have em:=eq_empty (st:=s3 ++ [.lst []]) (a:=s1.length) (b:=s3.length) (ns:=ks1) (lst_get (push_get l3)) lstOf_new
  have h4:=g4.get h3
  have l4:=g4.get l3
  generalize hs4:s3 ++ [Ob.lst []] = s4 at em g4 h4 l4
  have kk4:Keep l st s4:=kk3.trans g4.keep
  -- the head of the body
  have start:∀ {P:Rs → Prop} (G:GS),P ((gSeq (gIf (gOr (gTst (gBin oEq (gVar 2) (gLst gNil))) (gTst (gBin oEq (gVar 3) (gC (.int 0))))) (gRet (gCall 1 F__law_odd (gCons (gVar 1) gNil))) gNext) G) [some f.w,some (.ref l),some (.ref s1.length),some (.int way),none,none] s3) → P ((gSeq (gSet 2 (gComp [("formula",0)] (giR2 (gCons (gC (.int 1)) (gCons (gCallB oLen (gCons (gVar 0) gNil)) gNil))) (g__law_spoiled_C2t (R__law_spoiled n)) (g__law_spoiled_C2e (R__law_spoiled n)))) (gSeq (gSet 2 (gComp [("formula",0)] (giSeq2 (gVar 2)) (g__law_spoiled_C1t (R__law_spoiled n)) (g__law_spoiled_C1e (R__law_spoiled n)))) (gSeq (gSet 3 (gCall 2 F__law_digit (gCons (gVar 1) (gCons (gC (.int 4)) gNil)))) (gSeq (gIf (gOr (gTst (gBin oEq (gVar 2) (gLst gNil))) (gTst (gBin oEq (gVar 3) (gC (.int 0))))) (gRet (gCall 1 F__law_odd (gCons (gVar 1) gNil))) gNext) G)))) [some f.w,some (.ref l),none,none,none,none] st):=by
   intro P G hP
   have i2':compRun [("formula",0)] (g__law_spoiled_C2t (R__law_spoiled n)) (g__law_spoiled_C2e (R__law_spoiled n)) [some f.w,some (.ref l),none,none,none,none] (none,rngW 1 ((Wv.str f.v.1 :: f.v.2).length - 1)) st = .ok (.ref st.length) s1:=i2
   have i1':compRun [("formula",0)] (g__law_spoiled_C1t (R__law_spoiled n)) (g__law_spoiled_C1e (R__law_spoiled n)) [some f.w,some (.ref l),some (.ref st.length),none,none,none] (some st.length,ks2.map Wv.int) s1 = .ok (.ref s1.length) s2:=i1
   have e:(gSeq (gSet 2 (gComp [("formula",0)] (giR2 (gCons (gC (.int 1)) (gCons (gCallB oLen (gCons (gVar 0) gNil)) gNil))) (g__law_spoiled_C2t (R__law_spoiled n)) (g__law_spoiled_C2e (R__law_spoiled n)))) (gSeq (gSet 2 (gComp [("formula",0)] (giSeq2 (gVar 2)) (g__law_spoiled_C1t (R__law_spoiled n)) (g__law_spoiled_C1e (R__law_spoiled n)))) (gSeq (gSet 3 (gCall 2 F__law_digit (gCons (gVar 1) (gCons (gC (.int 4)) gNil)))) (gSeq (gIf (gOr (gTst (gBin oEq (gVar 2) (gLst gNil))) (gTst (gBin oEq (gVar 3) (gC (.int 0))))) (gRet (gCall 1 F__law_odd (gCons (gVar 1) gNil))) gNext) G)))) [some f.w,some (.ref l),none,none,none,none] st = (gSeq (gIf (gOr (gTst (gBin oEq (gVar 2) (gLst gNil))) (gTst (gBin oEq (gVar 3) (gC (.int 0))))) (gRet (gCall 1 F__law_odd (gCons (gVar 1) gNil))) gNext) G) [some f.w,some (.ref l),some (.ref s1.length),some (.int way),none,none] s3:=by
    rw [e_seq,e_set,e_comp,e_giR2]
    simp only [e_cons,e_c,bind_ok,kCons_d,e_callB,e_var,rdV_s,List.getElem?_cons_zero,List.getElem?_cons_succ,e_nil,lnU,nox_ok,r2,i2',thn_ok,sq_nx,List.set_cons_zero,List.set_cons_succ]
    rw [e_seq,e_set,e_comp,e_giSeq]
    simp only [e_var,rdV_s,List.getElem?_cons_zero,List.getElem?_cons_succ,bind_ok,seqW_l l1,i1',thn_ok,sq_nx,List.set_cons_zero,List.set_cons_succ]
    rw [e_seq]
    simp [e3,-e_seq]
   rw [e]
   exact hP
  rw [R__law_spoiled_succ]
  -- odd at once
  have oddly:ks1.isEmpty = true ∨ way = 0 → ∃ (w:Wv) (a':Int) (st':Hs),fnF 6 (g__law_spoiled (R__law_spoiled n)) [f.w,.ref l] st = .ok w st' ∧ Keep l st st' ∧ st'[l]? = some (.lst [.int a']) ∧ Bd (n + 1 + 1) w ∧ pl (n + 1 + 6) w:=by
   intro hc
   obtain ⟨v,a',s5,e5,k5,h5,gd⟩:=odd h4
   refine ⟨v,a',s5,fn_rt ?_,kk4.trans k5,h5,gd.1.up (by omega),pl_up gd.2 (by omega)⟩
   show g__law_spoiled (R__law_spoiled n) [some f.w,some (.ref l),none,none,none,none] st = .rt v s5
   unfold g__law_spoiled
   refine start (P:=fun r => r = .rt v s5) _ ?_
   rcases hc with hc | hc
   ·rw [hc] at em
    simp [hs4,em,e5]
   ·subst hc
    cases ee:ks1.isEmpty with
    | true => rw [ee] at em; simp [hs4,em,e5]
    | false => rw [ee] at em; simp [hs4,em,e5]
  by_cases hc:ks1.isEmpty = true ∨ way = 0
  ·exact oddly hc
  have hne:ks1.isEmpty = false:=by cases e:ks1.isEmpty with | false => rfl | true => exact absurd (.inl e) hc
  have hw0:way ≠ 0:=fun e => hc (.inr e)
  have bw0:(way == 0) = false:=beq_false_of_ne hw0
  rw [hne] at em
  have lpos:0 < ks1.length:=by cases ks1 with | nil => cases hne | cons _ _ => simp
  have lnK:oLen [.ref s1.length] s4 = .ok (.int (ks1.length:Nat)) s4:=by rw [len_l (lst_get l4),List.length_map]
  obtain ⟨d,n5,s5,e5,d0,d1,k5,h5⟩:=draw (ks1.length:Nat) h4 (by omega) (by omega)
  obtain ⟨kv,e6,e7⟩:=atI_some (ws:=ks1.map Wv.int) (d:=d) d0 (by rw [List.length_map]; omega)
  obtain ⟨k,hk,rfl⟩:=List.mem_map.mp e7
  have ixK:oIx (.ref s1.length) (.int d) s5 = .ok (.int k) s5:=ix_l (k5.lst (lst_get l4) (by omega)) e6
  obtain ⟨kp,kc⟩:=hk1 k hk
  obtain ⟨j,g,rfl,hj,hg,hgj,hjl⟩:=spot h kp kc
  have gdp:=kid_dp g hg
  have ixG:oIx f.w (.int ((j + 1:Nat):Int)) s5 = .ok g.w s5:=ix_t (L2.atI_nat (j:=j + 1) (by rw [List.getElem?_cons_succ]; exact hgj))
  obtain ⟨part,a6,s6,e8,k6,h6,bd6,pl6⟩:=spoiled n (kids_ok h g hg) (by omega) h5
  have sl1:∀ s:Hs,oSl2 f.w none (some ((j + 1:Nat):Int)) s = .ok (.tup (.str f.v.1 :: f.v.2.take j)) s:=fun s => lo_sl hjl
  have sl2:∀ s:Hs,oSl2 f.w (some (((j + 1:Nat):Int) + 1)) none s = .ok (.tup (f.v.2.drop (j + 1))) s:=fun s => hi_sl
  generalize ((j + 1:Nat):Int) = kI at ixK ixG sl1 sl2
  have kk6:Keep l st s6:=kk4.trans (k5.trans k6)
  have fin:∀ {p:Wv} {m:Nat},Bd m p → m ≤ n + 1 → pl (n + 6) p → Bd (n + 1 + 1) (.tup (.str f.v.1 :: (f.v.2.take j ++ [p] ++ f.v.2.drop (j + 1)))) ∧ pl (n + 1 + 6) (.tup (.str f.v.1 :: (f.v.2.take j ++ [p] ++ f.v.2.drop (j + 1)))):=by
   intro p m hb hm hp
   refine ⟨(swapped h hj hjl hb).up (by omega),?_,fun v hv => ?_⟩
   ·rw [List.length_cons,List.length_append,List.length_append,List.length_take,List.length_drop,List.length_singleton]; omega
   ·rcases List.mem_cons.mp hv with z | z
    ·rw [z]; exact word_len h
    ·rcases List.mem_append.mp z with z | z
     ·rcases List.mem_append.mp z with z | z
      ·exact pl_up (pus v (List.mem_cons_of_mem _ (List.mem_of_mem_take z))) (by omega)
      ·rw [List.mem_singleton.mp z]; exact hp
     ·exact pl_up (pus v (List.mem_cons_of_mem _ (List.mem_of_mem_drop z))) (by omega)
  have cats:∀ (p:Wv) (s:Hs),oAdd (.tup (.str f.v.1 :: f.v.2.take j)) (.tup [p]) s = .ok (.tup (.str f.v.1 :: (f.v.2.take j ++ [p]))) s:=fun p s => cat (by rw [List.length_take,List.length_singleton]; omega)
  have cats2:∀ (p:Wv) (s:Hs),oAdd (.tup (.str f.v.1 :: (f.v.2.take j ++ [p]))) (.tup (f.v.2.drop (j + 1))) s = .ok (.tup (.str f.v.1 :: (f.v.2.take j ++ [p] ++ f.v.2.drop (j + 1)))) s:=fun p s => cat (by rw [List.length_append,List.length_take,List.length_singleton,List.length_drop]; omega)
  by_cases hw1:way = 1
  ·subst hw1
   obtain ⟨v,s7,hv,e9,e10,k7,h7⟩:=pick (many:=4) (ws:=four) h6 (by decide) (by decide) rfl
   have kl:kLst [Wv.int 7,.str "a1",.tup [],.tup [.int 0,.int 0]] s6 = .ok (.ref s6.length) (s6 ++ [.lst four]):=kLst_d (ws:=four) (by decide)
   generalize s6 ++ [.lst four] = s6' at e9 kl
   obtain ⟨b4,p4⟩:=four_bd v hv
   obtain ⟨f1,f2⟩:=fin b4 (by omega) (pl_up p4 (by omega))
   refine ⟨_,_,s7,fn_rt ?_,kk6.trans k7,h7,f1,f2⟩
   show g__law_spoiled (R__law_spoiled n) [some f.w,some (.ref l),none,none,none,none] st = .rt _ s7
   unfold g__law_spoiled
   refine start (P:=fun r => r = .rt _ s7) _ ?_
   simp [-kLst_4,hs4,em,lnK,e5,ixK,ixG,e8,kl,e9,e10,sl1,cats,sl2,cats2]
  ·have bw1:(way == 1) = false:=beq_false_of_ne hw1
   obtain ⟨f1,f2⟩:=fin bd6 (Nat.le_refl _) pl6
   refine ⟨_,_,s6,fn_rt ?_,kk6,h6,f1,f2⟩
   show g__law_spoiled (R__law_spoiled n) [some f.w,some (.ref l),none,none,none,none] st = .rt _ s6
   unfold g__law_spoiled
   refine start (P:=fun r => r = .rt _ s6) _ ?_
   simp [hs4,em,bw0,lnK,e5,ixK,ixG,e8,bw1,sl1,cats,sl2,cats2]
theorem isa_t {c:S} {d:S} {ds:List S} {b:Bool} {st:Hs} (h:anyTab tbl c ((d :: ds).map Wv.cls) = some b):oIsA tbl tblT [.exn c,.tup ((d :: ds).map Wv.cls)] st = .ok (.bl b) st:=by
 show (match anyTab tbl c ((d :: ds).map Wv.cls) with | some b => Re.ok (Wv.bl b) st | none => .bad) = _
 rw [h]
theorem isa_c {c d:S} {b:Bool} {st:Hs} (h:tbl.lookup (c,d) = some b):oIsA tbl tblT [.exn c,.cls d] st = .ok (.bl b) st:=by
 show (match tbl.lookup (c,d) with | some b => Re.ok (Wv.bl b) st | none => .bad) = _
 rw [h]
theorem isa_ty {c:S} {T:String} {b:Bool} {st:Hs} (h:tblT.lookup (c,T) = some b):oIsA tbl tblT [.exn c,.ty T] st = .ok (.bl b) st:=by
 show (match tblT.lookup (c,T) with | some b => Re.ok (Wv.bl b) st | none => .bad) = _
 rw [h]
theorem kind (st:Hs):∃ st',F__law_kind [.exn "BadFormula"] st = .ok (.str "formula") st' ∧ Gr st st':=by
 have k1:∀ s:Hs,oIsA tbl tblT [.exn "BadFormula",.tup [.cls "BadArea",.cls "BadContent",.cls "BadCount",.cls "BadPlace",.cls "BadTable",.cls "Clash",.cls "Full",.cls "NoCell",.cls "NoColumn"]] s = .ok (.bl false) s:=fun s => isa_t (d:="BadArea") (ds:=["BadContent","BadCount","BadPlace","BadTable","Clash","Full","NoCell","NoColumn"]) (by decide +kernel)
 have k2:∀ s:Hs,oIsA tbl tblT [.exn "BadFormula",.tup [.cls "NoDeed",.cls "NoRoom",.cls "NoTable",.cls "NotWaiting"]] s = .ok (.bl false) s:=fun s => isa_t (d:="NoDeed") (ds:=["NoRoom","NoTable","NotWaiting"]) (by decide +kernel)
 have k3:∀ s:Hs,oIsA tbl tblT [.exn "BadFormula",.ty "ValueError"] s = .ok (.bl true) s:=fun s => isa_ty (by decide +kernel)
 have k4:∀ s:Hs,oIsA tbl tblT [.exn "BadFormula",.cls "BadText"] s = .ok (.bl false) s:=fun s => isa_c (by decide +kernel)
 have k5:∀ s:Hs,oIsA tbl tblT [.exn "BadFormula",.cls "BadFormula"] s = .ok (.bl true) s:=fun s => isa_c (by decide +kernel)
 have t9:∀ s:Hs,kTup [Wv.cls "BadArea",.cls "BadContent",.cls "BadCount",.cls "BadPlace",.cls "BadTable",.cls "Clash",.cls "Full",.cls "NoCell",.cls "NoColumn"] s = .ok (.tup [.cls "BadArea",.cls "BadContent",.cls "BadCount",.cls "BadPlace",.cls "BadTable",.cls "Clash",.cls "Full",.cls "NoCell",.cls "NoColumn"]) s:=fun s => rfl
 have l1:lstOf (st ++ [.lst [.bl false,.bl true]]) st.length = some [.bl false,.bl true]:=lstOf_new
 have g1:Gr st (st ++ [.lst [.bl false,.bl true]]):=Gr.push
 generalize hs1:st ++ [Ob.lst [Wv.bl false,Wv.bl true]] = s1 at l1 g1
 have cn:mLCount (.ref st.length) (.bl true) s1 = .ok (.int 1) s1:=by
  unfold mLCount
  simp only [l1]
  rfl
 have l2:lstOf (s1 ++ [.lst [.str "text",.str "formula"]]) s1.length = some [.str "text",.str "formula"]:=lstOf_new
 have g2:Gr s1 (s1 ++ [.lst [.str "text",.str "formula"]]):=Gr.push
 have l1':=g2.lst l1
 generalize hs2:s1 ++ [Ob.lst [Wv.str "text",Wv.str "formula"]] = s2 at l2 g2 l1'
 have ci:mLIndex (.ref st.length) (.bl true) s2 = .ok (.int 1) s2:=by
  unfold mLIndex
  simp only [l1']
  rfl
 have ix:oIx (.ref s1.length) (.int 1) s2 = .ok (.str "formula") s2:=ix_l l2 rfl
 have a1:gAlt (gMethS mCount (gVar 2) (gCons (gC (.bl true)) gNil)) (gMeth mLCount (gVar 2) (gC (.bl true))) [some (.exn "BadFormula"),some (.bl false),some (.ref st.length)] s1 = .ok (.int 1) s1:=by
  rw [e_alt2 rfl]
  have km:=kMeth_l (mt:=mLCount) (ga:=gC (.bl true)) (ρ:=[some (.exn "BadFormula"),some (.bl false),some (.ref st.length)]) l1
  simp [km,cn]
 have a2:gAlt (gMethS mIndex (gVar 2) (gCons (gC (.bl true)) gNil)) (gMeth mLIndex (gVar 2) (gC (.bl true))) [some (.exn "BadFormula"),some (.bl false),some (.ref st.length)] s2 = .ok (.int 1) s2:=by
  rw [e_alt2 rfl]
  have km:=kMeth_l (mt:=mLIndex) (ga:=gC (.bl true)) (ρ:=[some (.exn "BadFormula"),some (.bl false),some (.ref st.length)]) l1'
  simp [km,ci]
 refine ⟨s2,?_,g1.trans g2⟩
 unfold F__law_kind fnF g__law_kind
 simp [t9,k1,k2,k3,k4,k5,hs1,a1,hs2,a2,ix]
theorem refused_bad {w:Wv} {n m:Nat} (hb:Bd m w) (hp:pl (n + m + 1) w) (hm:m < 1000) (st:Hs):∃ st',F__law_refused [w] st = .ok (.str "formula") st' ∧ Gr st st':=by
 obtain ⟨s1,e1,g1⟩:=made_bad hb hp hm st
 obtain ⟨s2,e2,g2⟩:=kind s1
 have tc:tblC.lookup (("BadFormula":PySem.Str),("SheetError":PySem.Str)) = some true:=by decide +kernel
 have bd:g__law_refused_B1 [some w,some (.str ""),none] st = .err "BadFormula" [some w,some (.str ""),none] s1:=by
  unfold g__law_refused_B1
  simp [e1]
 have su:g__law_refused_U1 [some w,some (.str ""),some (.exn "BadFormula")] s1 = .nx [some w,some (.str "formula"),some (.exn "BadFormula")] s2:=by
  unfold g__law_refused_U1
  simp [e2]
 have tr:=kTry_err (cat:=fun y => tblC.lookup (y,("SheetError":PySem.Str))) (i:=2) (gs:=g__law_refused_U1) (ρ:=[some w,some (.str ""),none]) (st:=s1) tc su
 refine ⟨s2,?_,g1.trans g2⟩
 refine fn_rt (n:=3) (g:=g__law_refused) ?_
 unfold g__law_refused
 simp [bd,tr]
theorem refused_ok {f:Fm} (h:f.ok) (hz:f.sz ≤ 60) (hd:f.dp ≤ 12) (st:Hs):∃ st',F__law_refused [f.w] st = .ok (.str "") st' ∧ Gr st st':=by
 obtain ⟨s1,e1,g1⟩:=made h hz hd st
 have bd:g__law_refused_B1 [some f.w,some (.str ""),none] st = .nx [some f.w,some (.str ""),none] s1:=by
  unfold g__law_refused_B1
  simp [e1]
 refine ⟨s1,?_,g1⟩
 refine fn_rt (n:=3) (g:=g__law_refused) ?_
 unfold g__law_refused
 simp [bd]
theorem step {s:Wv} {c:Int} {o2 o3:Option Wv} (st:Hs):∃ p2 p3 st',g_law_L1 [some s,some (.int c),o2,o3] st = .nx [some s,some (.int c),p2,p3] st' ∧ Gr st st':=by
 obtain ⟨n,e1⟩:=own (st:=st) (c:=c)
 have q0:(st ++ [Ob.lst [Wv.int n]] ++ [Ob.lst [Wv.int 59]])[st.length]? = some (Ob.lst [Wv.int n]):=push_get new_get
 have q1:(st ++ [Ob.lst [Wv.int n]] ++ [Ob.lst [Wv.int 59]])[(st ++ [Ob.lst [Wv.int n]]).length]? = some (Ob.lst [Wv.int 59]):=new_get
 have hg:Gr st (st ++ [Ob.lst [Wv.int n]] ++ [Ob.lst [Wv.int 59]]):=Gr.push.trans Gr.push
 have hne:st.length ≠ (st ++ [Ob.lst [Wv.int n]]).length:=by rw [List.length_append,List.length_singleton]; omega
 have hge:st.length ≤ (st ++ [Ob.lst [Wv.int n]]).length:=by rw [List.length_append]; omega
 obtain ⟨f,a',b',s1,e2,k1,_,_,b0,ok,dp,sz⟩:=fd 14 12 st.length (st ++ [Ob.lst [Wv.int n]]).length n 59 _ (by decide) (by decide) hne q0 q1 (by decide)
 have e2':F__law_formula [.ref st.length,.int 12,.ref (st ++ [Ob.lst [Wv.int n]]).length] (st ++ [Ob.lst [Wv.int n]] ++ [Ob.lst [Wv.int 59]]) = .ok f.w s1:=e2
 have g1:Gr st s1:=⟨Nat.le_trans hg.1 k1.1,fun k h => by rw [k1.2 k (Nat.lt_of_lt_of_le h hg.1) (by omega) (by omega),hg.2 k h]⟩
 generalize hA:st ++ [Ob.lst [Wv.int n]] = sA at e1 e2'
 generalize hB:sA ++ [Ob.lst [Wv.int 59]] = sB at e2'
 have hd:f.dp ≤ 12:=by omega
 have hz:f.sz ≤ 60:=by omega
 have ml:oMulL (.int c) (.int 48271) s1 = .ok (.int (c * 48271)) s1:=mul_r (by decide) (by decide)
 obtain ⟨n2,e3⟩:=own (st:=s1) (c:=c * 48271 + 11)
 obtain ⟨w,a2,s3,e4,k4,_,bd,pw⟩:=spoiled 14 ok (by omega) (st:=s1 ++ [.lst [.int n2]]) (l:=s1.length) new_get
 have e4':F__law_spoiled [f.w,.ref s1.length] (s1 ++ [.lst [.int n2]]) = .ok w s3:=e4
 have g3:Gr s1 s3:=Gr.keepAt (Nat.le_refl _) Gr.push k4
 generalize s1 ++ [Ob.lst [Wv.int n2]] = sC at e3 e4'
 obtain ⟨s4,e5,g4⟩:=refused_bad (n:=4) bd pw (by decide) s3
 obtain ⟨s5,e6,g5⟩:=refused_ok ok hz hd s4
 have n1:∀ s:Hs,oNe (.str "formula") (.str "formula") s = .ok (.bl false) s:=fun _ => ne_dat rfl rfl eqv_s
 have n2':∀ s:Hs,oNe (.str "") (.str "") s = .ok (.bl false) s:=fun _ => ne_dat rfl rfl eqv_s
 refine ⟨some f.w,some w,s5,?_,g1.trans (g3.trans (g4.trans g5))⟩
 unfold g_law_L1
 simp [e1,hA,hB,e2',ml,e3,e4',e5,n1,e6,n2']
theorem law_true:∀ ns:List Int,ns.length ≤ 63 → ∃ st,F_law [.ref 0] [.scr ns] = .ok (.bl true) st:=by
 intro ns hn
 have l0:lstOf [.scr ns,.lst [.int 0]] 0 = some (ns.map Wv.int):=rfl
 have l1:lstOf [.scr ns,.lst [.int 0]] 1 = some [.int 0]:=rfl
 have a:=add_l l1 l0 (by simp; unfold lim; omega)
 have e0:[Wv.int 0] ++ ns.map Wv.int = ([0] ++ ns).map Wv.int:=by simp
 rw [e0] at a
 generalize hc:[0] ++ ns = cs at a
 have l2:lstOf [.scr ns,.lst [.int 0],.lst (cs.map Wv.int)] 2 = some (cs.map Wv.int):=rfl
 obtain ⟨ρ',st',e,⟨p1,p2,p3,rfl⟩,_⟩:=forL_inv (i:=1) (gb:=g_law_L1) (l:=2) (all:=cs.map Wv.int) (fun ρ st => ∃ p1 p2 p3,ρ = [some (.ref 0),p1,p2,p3]) (cs.map Wv.int) [some (.ref 0),none,none,none] [.scr ns,.lst [.int 0],.lst (cs.map Wv.int)] ⟨_,_,_,rfl⟩ l2 (by
  rintro w hw _ st ⟨p1,p2,p3,rfl⟩ hl
  obtain ⟨c,_,rfl⟩:=List.mem_map.mp hw
  obtain ⟨q2,q3,st',e,g⟩:=step (s:=.ref 0) (c:=c) (o2:=p2) (o3:=p3) st
  exact ⟨_,st',e,g.lst hl,⟨_,_,_,rfl⟩⟩)
 refine ⟨st',?_⟩
 unfold F_law fnF g_law
 simp [a,kFor_l l2,e]
end K09
def PySem.W.Fast.tw8823358974605411282:Unit:=()
def PySem.W.Fast.tw17823226440712799562:Unit:=()
def PySem.W.Fast.tw6596946593209167327:Unit:=()
def PySem.W.Fast.tw13427859221033726229:Unit:=()
def PySem.W.Fast.tw3564146426771029829:Unit:=()
def PySem.W.Fast.tw6193509440769620816:Unit:=()
def PySem.W.Fast.tw11280122939696412891:Unit:=()
def PySem.W.Fast.tw9216798720928753222:Unit:=()
def PySem.W.Fast.tw1651293988078594373:Unit:=()
def PySem.W.Fast.tw6808349807848800488:Unit:=()
def PySem.W.Fast.tw14001266167704183305:Unit:=()
def PySem.W.Fast.tw391848282743075920:Unit:=()
def PySem.W.Fast.tw10867241656492773775:Unit:=()
def PySem.W.Fast.tw16545724941960860998:Unit:=()
def PySem.W.Fast.tw18153646569230228573:Unit:=()
def PySem.W.Fast.tw2698129434245013233:Unit:=()
def PySem.W.Fast.tw17820988938438278449:Unit:=()
def PySem.W.Fast.tw8858168861047467463:Unit:=()
def PySem.W.Fast.tw10006652027876587764:Unit:=()
def PySem.W.Fast.tw9080830637188069063:Unit:=()
def PySem.W.Fast.tw9943617439988541961:Unit:=()
def PySem.W.Fast.tw3216225137151068539:Unit:=()
def PySem.W.Fast.tw10926302713105662691:Unit:=()
def PySem.W.Fast.tw7014695101653154352:Unit:=()
namespace K09
open PySem PySem.W PyProof.Rows
set_option maxHeartbeats 0 in
open_top head for PySem.Challenge.rw_onelook_k09_no_formulas
end K09
namespace K09
open PySem J
open L2 (defScope defBody defArgs FnScope CX0 FnOk XK Hp)
theorem all_mk {l:PySem.W.OpenLaw} {w:World} {K:PySem.W.Frag} {h:Heap} {mg:Str → Option Value} {fa:Addr} (X:K.In h) (G:h.Ns mainGlobals mg) (hfa:mg "law" = some (.ref fa))
    {f1 f2 f3 f4 f5 f6 f7 f8 f9 f10 f11 f12 f13 f14 f15 f16 f17 f18 f19 f20 f21 f22 f23 f24 f25 f26 f27 f28 f29:Addr} {od1 od2 od3 od4 od5 od6 od7 od8 od9 od10 od11 od12 od13 od14 od15 od16 od17 od18 od19 od20 od21 od22 od23 od24 od25 od26 od27 od28 od29 an1 an2 an3 an4 an5 an6 an7 an8 an9 an10 an11 an12 an13 an14 an15 an16 an17 an18 an19 an20 an21 an22 an23 an24 an25 an26 an27 an28 an29:Option Addr} {sl1 sl2 sl3 sl4 sl5 sl6 sl7 sl8 sl9 sl10 sl11 sl12 sl13 sl14 sl15 sl16 sl17 sl18 sl19 sl20 sl21 sl22 sl23 sl24 sl25 sl26 sl27 sl28 sl29:Array (Option Value)} {oc1 oc2 oc3 oc4 oc5 oc6 oc7 oc8 oc9 oc10 oc11 oc12 oc13 oc14 oc15 oc16 oc17 oc18 oc19 oc20 oc21 oc22 oc23 oc24 oc25 oc26 oc27 oc28 oc29 kV1 kV2 kV3 kV4 kV5 kV6 kV7 kV8 kV9 kV10 kV11 kV12 kV13 kV14 kV15 kV16 kV17 kV18 kV19 kV20 kV21 kV22 kV23 kV24 kV25 kV26 kV27 kV28 kV29 dc1 dc2 dc3 dc4 dc5 dc6 dc7 dc8 dc9 dc10 dc11 dc12 dc13 dc14 dc15 dc16 dc17 dc18 dc19 dc20 dc21 dc22 dc23 dc24 dc25 dc26 dc27 dc28 dc29 pm1 pm2 pm3 pm4 pm5 pm6 pm7 pm8 pm9 pm10 pm11 pm12 pm13 pm14 pm15 pm16 pm17 pm18 pm19 pm20 pm21 pm22 pm23 pm24 pm25 pm26 pm27 pm28 pm29 cd1 cd2 cd3 cd4 cd5 cd6 cd7 cd8 cd9 cd10 cd11 cd12 cd13 cd14 cd15 cd16 cd17 cd18 cd19 cd20 cd21 cd22 cd23 cd24 cd25 cd26 cd27 cd28 cd29 ct1 ct2 ct3 ct4 ct5 ct6 ct7 ct8 ct9 ct10 ct11 ct12 ct13 ct14 ct15 ct16 ct17 ct18 ct19 ct20 ct21 ct22 ct23 ct24 ct25 ct26 ct27 ct28 ct29:Value} {tk0_0 tk0_1 tk0_2 tk0_3 tk0_4 tk1 tk2 tk3 tk4 tk5 tk6:Tok} {ca0:Addr} {cd0_:Option Addr} {cn0:Nat} {cs0:Array (Option Value)} {da0:Addr} {de0:Nat} {dh0_0 dh0_1 dh0_2 dh0_3 dh0_4 dh0_5 dh0_6 dh0_7 dh0_8 dh0_9 dh0_10 dh0_11 dh0_12 dh0_13 dh0_14 dh0_15 dh0_16 dh0_17 dh0_18 dh0_19 dh0_20:Int} {dk0_0 dk0_1 dk0_2 dk0_3 dk0_4 dk0_5 dk0_6 dk0_7 dk0_8 dk0_9 dk0_10 dk0_11 dk0_12 dk0_13 dk0_14 dk0_15 dk0_16 dk0_17 dk0_18 dk0_19 dk0_20 dt0_0 dt0_1 dt0_2 dt0_3 dt0_4 dt0_5 dt0_6 dt0_7 dt0_8 dt0_9 dt0_10 dt0_11 dt0_12 dt0_13 dt0_14 dt0_15 dt0_16 dt0_17 dt0_18 dt0_19 dt0_20:Tok} {X0 X1 X2 X3 X4 X5 X6 X7 X8 X9 X10 X11 X12 X13 X14 X15:Addr} 
    (a1:PySem.W.nsIn K mainGlobals "_law_digit" = some (some (.ref f1))) (l1:K.lookup f1 = some ⟨oc1,od1,.func (PySem.W.fnOf "_law_digit" "_law_digit" (defArgs s__law_digit) (defBody s__law_digit) (defScope s__law_digit) .none kV1 dc1 pm1 an1 cd1 ct1),sl1⟩) (c1:PySem.W.codeIn K cd1 "_law_digit" = true) (k1:PySem.W.keepIn K (.ref f1) = true)
    (a2:PySem.W.nsIn K mainGlobals "_law_area" = some (some (.ref f2))) (l2:K.lookup f2 = some ⟨oc2,od2,.func (PySem.W.fnOf "_law_area" "_law_area" (defArgs s__law_area) (defBody s__law_area) (defScope s__law_area) .none kV2 dc2 pm2 an2 cd2 ct2),sl2⟩) (c2:PySem.W.codeIn K cd2 "_law_area" = true) (k2:PySem.W.keepIn K (.ref f2) = true)
    (a3:PySem.W.nsIn K mainGlobals "_law_pins" = some (some (.ref f3))) (l3:K.lookup f3 = some ⟨oc3,od3,.func (PySem.W.fnOf "_law_pins" "_law_pins" (defArgs s__law_pins) (defBody s__law_pins) (defScope s__law_pins) .none kV3 dc3 pm3 an3 cd3 ct3),sl3⟩) (c3:PySem.W.codeIn K cd3 "_law_pins" = true) (k3:PySem.W.keepIn K (.ref f3) = true)
    (a4:PySem.W.nsIn K mainGlobals "_law_leaf" = some (some (.ref f4))) (l4:K.lookup f4 = some ⟨oc4,od4,.func (PySem.W.fnOf "_law_leaf" "_law_leaf" (defArgs s__law_leaf) (defBody s__law_leaf) (defScope s__law_leaf) .none kV4 dc4 pm4 an4 cd4 ct4),sl4⟩) (c4:PySem.W.codeIn K cd4 "_law_leaf" = true) (k4:PySem.W.keepIn K (.ref f4) = true)
    (a5:PySem.W.nsIn K mainGlobals "_law_formula" = some (some (.ref f5))) (l5:K.lookup f5 = some ⟨oc5,od5,.func (PySem.W.fnOf "_law_formula" "_law_formula" (defArgs s__law_formula) (defBody s__law_formula) (defScope s__law_formula) .none kV5 dc5 pm5 an5 cd5 ct5),sl5⟩) (c5:PySem.W.codeIn K cd5 "_law_formula" = true) (k5:PySem.W.keepIn K (.ref f5) = true)
    (a6:PySem.W.nsIn K mainGlobals "_law_odd" = some (some (.ref f6))) (l6:K.lookup f6 = some ⟨oc6,od6,.func (PySem.W.fnOf "_law_odd" "_law_odd" (defArgs s__law_odd) (defBody s__law_odd) (defScope s__law_odd) .none kV6 dc6 pm6 an6 cd6 ct6),sl6⟩) (c6:PySem.W.codeIn K cd6 "_law_odd" = true) (k6:PySem.W.keepIn K (.ref f6) = true)
    (a7:PySem.W.nsIn K mainGlobals "_law_spoiled" = some (some (.ref f7))) (l7:K.lookup f7 = some ⟨oc7,od7,.func (PySem.W.fnOf "_law_spoiled" "_law_spoiled" (defArgs s__law_spoiled) (defBody s__law_spoiled) (defScope s__law_spoiled) .none kV7 dc7 pm7 an7 cd7 ct7),sl7⟩) (c7:PySem.W.codeIn K cd7 "_law_spoiled" = true) (k7:PySem.W.keepIn K (.ref f7) = true)
    (a8:PySem.W.nsIn K mainGlobals "_law_own" = some (some (.ref f8))) (l8:K.lookup f8 = some ⟨oc8,od8,.func (PySem.W.fnOf "_law_own" "_law_own" (defArgs s__law_own) (defBody s__law_own) (defScope s__law_own) .none kV8 dc8 pm8 an8 cd8 ct8),sl8⟩) (c8:PySem.W.codeIn K cd8 "_law_own" = true) (k8:PySem.W.keepIn K (.ref f8) = true)
    (a9:PySem.W.nsIn K mainGlobals "part_many" = some (some (.ref f9))) (l9:K.lookup f9 = some ⟨oc9,od9,.func (PySem.W.fnOf "part_many" "part_many" (defArgs s_part_many) (defBody s_part_many) (defScope s_part_many) .none kV9 dc9 pm9 an9 cd9 ct9),sl9⟩) (c9:PySem.W.codeIn K cd9 "part_many" = true) (k9:PySem.W.keepIn K (.ref f9) = true)
    (a10:PySem.W.nsIn K mainGlobals "parts_of" = some (some (.ref f10))) (l10:K.lookup f10 = some ⟨oc10,od10,.func (PySem.W.fnOf "parts_of" "parts_of" (defArgs s_parts_of) (defBody s_parts_of) (defScope s_parts_of) .none kV10 dc10 pm10 an10 cd10 ct10),sl10⟩) (c10:PySem.W.codeIn K cd10 "parts_of" = true) (k10:PySem.W.keepIn K (.ref f10) = true)
    (a11:PySem.W.nsIn K mainGlobals "level_below" = some (some (.ref f11))) (l11:K.lookup f11 = some ⟨oc11,od11,.func (PySem.W.fnOf "level_below" "level_below" (defArgs s_level_below) (defBody s_level_below) (defScope s_level_below) .none kV11 dc11 pm11 an11 cd11 ct11),sl11⟩) (c11:PySem.W.codeIn K cd11 "level_below" = true) (k11:PySem.W.keepIn K (.ref f11) = true)
    (a12:PySem.W.nsIn K mainGlobals "has_area" = some (some (.ref f12))) (l12:K.lookup f12 = some ⟨oc12,od12,.func (PySem.W.fnOf "has_area" "has_area" (defArgs s_has_area) (defBody s_has_area) (defScope s_has_area) .none kV12 dc12 pm12 an12 cd12 ct12),sl12⟩) (c12:PySem.W.codeIn K cd12 "has_area" = true) (k12:PySem.W.keepIn K (.ref f12) = true)
    (a13:PySem.W.nsIn K mainGlobals "is_whole" = some (some (.ref f13))) (l13:K.lookup f13 = some ⟨oc13,od13,.func (PySem.W.fnOf "is_whole" "is_whole" (defArgs s_is_whole) (defBody s_is_whole) (defScope s_is_whole) .none kV13 dc13 pm13 an13 cd13 ct13),sl13⟩) (c13:PySem.W.codeIn K cd13 "is_whole" = true) (k13:PySem.W.keepIn K (.ref f13) = true)
    (a14:PySem.W.nsIn K mainGlobals "is_text_sign" = some (some (.ref f14))) (l14:K.lookup f14 = some ⟨oc14,od14,.func (PySem.W.fnOf "is_text_sign" "is_text_sign" (defArgs s_is_text_sign) (defBody s_is_text_sign) (defScope s_is_text_sign) .none kV14 dc14 pm14 an14 cd14 ct14),sl14⟩) (c14:PySem.W.codeIn K cd14 "is_text_sign" = true) (k14:PySem.W.keepIn K (.ref f14) = true)
    (a15:PySem.W.nsIn K mainGlobals "has_text_signs" = some (some (.ref f15))) (l15:K.lookup f15 = some ⟨oc15,od15,.func (PySem.W.fnOf "has_text_signs" "has_text_signs" (defArgs s_has_text_signs) (defBody s_has_text_signs) (defScope s_has_text_signs) .none kV15 dc15 pm15 an15 cd15 ct15),sl15⟩) (c15:PySem.W.codeIn K cd15 "has_text_signs" = true) (k15:PySem.W.keepIn K (.ref f15) = true)
    (a16:PySem.W.nsIn K mainGlobals "is_text" = some (some (.ref f16))) (l16:K.lookup f16 = some ⟨oc16,od16,.func (PySem.W.fnOf "is_text" "is_text" (defArgs s_is_text) (defBody s_is_text) (defScope s_is_text) .none kV16 dc16 pm16 an16 cd16 ct16),sl16⟩) (c16:PySem.W.codeIn K cd16 "is_text" = true) (k16:PySem.W.keepIn K (.ref f16) = true)
    (a17:PySem.W.nsIn K mainGlobals "is_number_row" = some (some (.ref f17))) (l17:K.lookup f17 = some ⟨oc17,od17,.func (PySem.W.fnOf "is_number_row" "is_number_row" (defArgs s_is_number_row) (defBody s_is_number_row) (defScope s_is_number_row) .none kV17 dc17 pm17 an17 cd17 ct17),sl17⟩) (c17:PySem.W.codeIn K cd17 "is_number_row" = true) (k17:PySem.W.keepIn K (.ref f17) = true)
    (a18:PySem.W.nsIn K mainGlobals "is_place" = some (some (.ref f18))) (l18:K.lookup f18 = some ⟨oc18,od18,.func (PySem.W.fnOf "is_place" "is_place" (defArgs s_is_place) (defBody s_is_place) (defScope s_is_place) .none kV18 dc18 pm18 an18 cd18 ct18),sl18⟩) (c18:PySem.W.codeIn K cd18 "is_place" = true) (k18:PySem.W.keepIn K (.ref f18) = true)
    (a19:PySem.W.nsIn K mainGlobals "are_pins" = some (some (.ref f19))) (l19:K.lookup f19 = some ⟨oc19,od19,.func (PySem.W.fnOf "are_pins" "are_pins" (defArgs s_are_pins) (defBody s_are_pins) (defScope s_are_pins) .none kV19 dc19 pm19 an19 cd19 ct19),sl19⟩) (c19:PySem.W.codeIn K cd19 "are_pins" = true) (k19:PySem.W.keepIn K (.ref f19) = true)
    (a20:PySem.W.nsIn K mainGlobals "has_corners" = some (some (.ref f20))) (l20:K.lookup f20 = some ⟨oc20,od20,.func (PySem.W.fnOf "has_corners" "has_corners" (defArgs s_has_corners) (defBody s_has_corners) (defScope s_has_corners) .none kV20 dc20 pm20 an20 cd20 ct20),sl20⟩) (c20:PySem.W.codeIn K cd20 "has_corners" = true) (k20:PySem.W.keepIn K (.ref f20) = true)
    (a21:PySem.W.nsIn K mainGlobals "area_many" = some (some (.ref f21))) (l21:K.lookup f21 = some ⟨oc21,od21,.func (PySem.W.fnOf "area_many" "area_many" (defArgs s_area_many) (defBody s_area_many) (defScope s_area_many) .none kV21 dc21 pm21 an21 cd21 ct21),sl21⟩) (c21:PySem.W.codeIn K cd21 "area_many" = true) (k21:PySem.W.keepIn K (.ref f21) = true)
    (a22:PySem.W.nsIn K mainGlobals "is_area" = some (some (.ref f22))) (l22:K.lookup f22 = some ⟨oc22,od22,.func (PySem.W.fnOf "is_area" "is_area" (defArgs s_is_area) (defBody s_is_area) (defScope s_is_area) .none kV22 dc22 pm22 an22 cd22 ct22),sl22⟩) (c22:PySem.W.codeIn K cd22 "is_area" = true) (k22:PySem.W.keepIn K (.ref f22) = true)
    (a23:PySem.W.nsIn K mainGlobals "is_tail" = some (some (.ref f23))) (l23:K.lookup f23 = some ⟨oc23,od23,.func (PySem.W.fnOf "is_tail" "is_tail" (defArgs s_is_tail) (defBody s_is_tail) (defScope s_is_tail) .none kV23 dc23 pm23 an23 cd23 ct23),sl23⟩) (c23:PySem.W.codeIn K cd23 "is_tail" = true) (k23:PySem.W.keepIn K (.ref f23) = true)
    (a24:PySem.W.nsIn K mainGlobals "tail_of" = some (some (.ref f24))) (l24:K.lookup f24 = some ⟨oc24,od24,.func (PySem.W.fnOf "tail_of" "tail_of" (defArgs s_tail_of) (defBody s_tail_of) (defScope s_tail_of) .none kV24 dc24 pm24 an24 cd24 ct24),sl24⟩) (c24:PySem.W.codeIn K cd24 "tail_of" = true) (k24:PySem.W.keepIn K (.ref f24) = true)
    (a25:PySem.W.nsIn K mainGlobals "is_piece" = some (some (.ref f25))) (l25:K.lookup f25 = some ⟨oc25,od25,.func (PySem.W.fnOf "is_piece" "is_piece" (defArgs s_is_piece) (defBody s_is_piece) (defScope s_is_piece) .none kV25 dc25 pm25 an25 cd25 ct25),sl25⟩) (c25:PySem.W.codeIn K cd25 "is_piece" = true) (k25:PySem.W.keepIn K (.ref f25) = true)
    (a26:PySem.W.nsIn K mainGlobals "made_formula" = some (some (.ref f26))) (l26:K.lookup f26 = some ⟨oc26,od26,.func (PySem.W.fnOf "made_formula" "made_formula" (defArgs s_made_formula) (defBody s_made_formula) (defScope s_made_formula) .none kV26 dc26 pm26 an26 cd26 ct26),sl26⟩) (c26:PySem.W.codeIn K cd26 "made_formula" = true) (k26:PySem.W.keepIn K (.ref f26) = true)
    (a27:PySem.W.nsIn K mainGlobals "_law_kind" = some (some (.ref f27))) (l27:K.lookup f27 = some ⟨oc27,od27,.func (PySem.W.fnOf "_law_kind" "_law_kind" (defArgs s__law_kind) (defBody s__law_kind) (defScope s__law_kind) .none kV27 dc27 pm27 an27 cd27 ct27),sl27⟩) (c27:PySem.W.codeIn K cd27 "_law_kind" = true) (k27:PySem.W.keepIn K (.ref f27) = true)
    (a28:PySem.W.nsIn K mainGlobals "_law_refused" = some (some (.ref f28))) (l28:K.lookup f28 = some ⟨oc28,od28,.func (PySem.W.fnOf "_law_refused" "_law_refused" (defArgs s__law_refused) (defBody s__law_refused) (defScope s__law_refused) .none kV28 dc28 pm28 an28 cd28 ct28),sl28⟩) (c28:PySem.W.codeIn K cd28 "_law_refused" = true) (k28:PySem.W.keepIn K (.ref f28) = true)
    (a29:PySem.W.nsIn K mainGlobals "law" = some (some (.ref f29))) (l29:K.lookup f29 = some ⟨oc29,od29,.func (PySem.W.fnOf "law" "law" (defArgs s_law) (defBody s_law) (defScope s_law) .none kV29 dc29 pm29 an29 cd29 ct29),sl29⟩) (c29:PySem.W.codeIn K cd29 "law" = true) (k29:PySem.W.keepIn K (.ref f29) = true)
    (z0:PySem.W.nsIn K mainGlobals "min" = some none)
    (z1:PySem.W.nsIn K mainGlobals "tuple" = some none)
    (z2:PySem.W.nsIn K mainGlobals "range" = some none)
    (z3:PySem.W.nsIn K mainGlobals "len" = some none)
    (z4:PySem.W.nsIn K mainGlobals "isinstance" = some none)
    (z5:PySem.W.nsIn K mainGlobals "str" = some none)
    (z6:PySem.W.nsIn K mainGlobals "abs" = some none)
    (z7:PySem.W.nsIn K mainGlobals "int" = some none)
    (z8:PySem.W.nsIn K mainGlobals "bool" = some none)
    (z9:PySem.W.nsIn K mainGlobals "all" = some none)
    (z10:PySem.W.nsIn K mainGlobals "ord" = some none)
    (z11:PySem.W.nsIn K mainGlobals "ValueError" = some none)
    (v0:PySem.W.nsIn K mainGlobals "AREA_WORDS" = some (some (.ref ca0))) (w0:K.lookup ca0 = some ⟨.type "tuple",cd0_,.seq #[.str "sum" tk0_0,.str "count" tk0_1,.str "least" tk0_2,.str "greatest" tk0_3,.str "find" tk0_4] cn0,cs0⟩)
    (v1:PySem.W.nsIn K mainGlobals "MOST_SIGNS" = some (some (.int 40 tk1)))
    (v2:PySem.W.nsIn K mainGlobals "ROWS" = some (some (.int 99 tk2)))
    (v3:PySem.W.nsIn K mainGlobals "COLUMNS" = some (some (.int 26 tk3)))
    (v4:PySem.W.nsIn K mainGlobals "MOST_PLACES" = some (some (.int 300 tk4)))
    (v5:PySem.W.nsIn K mainGlobals "MOST_PIECES" = some (some (.int 60 tk5)))
    (v6:PySem.W.nsIn K mainGlobals "MOST_DEEP" = some (some (.int 12 tk6)))
    (dv0:PySem.W.nsIn K mainGlobals "PART_COUNTS" = some (some (.ref da0))) (dw0:K.lookup da0 = some ⟨.type "dict",none,.dict #[⟨dh0_0,.str "num" dk0_0,.int 0 dt0_0⟩,⟨dh0_1,.str "text" dk0_1,.int 0 dt0_1⟩,⟨dh0_2,.str "lost" dk0_2,.int 0 dt0_2⟩,⟨dh0_3,.str "at" dk0_3,.int 0 dt0_3⟩,⟨dh0_4,.str "minus" dk0_4,.int 1 dt0_4⟩,⟨dh0_5,.str "not" dk0_5,.int 1 dt0_5⟩,⟨dh0_6,.str "+" dk0_6,.int 2 dt0_6⟩,⟨dh0_7,.str "-" dk0_7,.int 2 dt0_7⟩,⟨dh0_8,.str "*" dk0_8,.int 2 dt0_8⟩,⟨dh0_9,.str "/" dk0_9,.int 2 dt0_9⟩,⟨dh0_10,.str "&" dk0_10,.int 2 dt0_10⟩,⟨dh0_11,.str "<" dk0_11,.int 2 dt0_11⟩,⟨dh0_12,.str "=" dk0_12,.int 2 dt0_12⟩,⟨dh0_13,.str "rest" dk0_13,.int 2 dt0_13⟩,⟨dh0_14,.str "if" dk0_14,.int 3 dt0_14⟩,⟨dh0_15,.str "else" dk0_15,.int 2 dt0_15⟩,⟨dh0_16,.str "sum" dk0_16,.int 0 dt0_16⟩,⟨dh0_17,.str "count" dk0_17,.int 0 dt0_17⟩,⟨dh0_18,.str "least" dk0_18,.int 0 dt0_18⟩,⟨dh0_19,.str "greatest" dk0_19,.int 0 dt0_19⟩,⟨dh0_20,.str "find" dk0_20,.int 1 dt0_20⟩] de0,#[]⟩) (dm0:(da0 == sysModules) = false) (dx0_0:dh0_0 = hashStr w "num") (dx0_1:dh0_1 = hashStr w "text") (dx0_2:dh0_2 = hashStr w "lost") (dx0_3:dh0_3 = hashStr w "at") (dx0_4:dh0_4 = hashStr w "minus") (dx0_5:dh0_5 = hashStr w "not") (dx0_6:dh0_6 = hashStr w "+") (dx0_7:dh0_7 = hashStr w "-") (dx0_8:dh0_8 = hashStr w "*") (dx0_9:dh0_9 = hashStr w "/") (dx0_10:dh0_10 = hashStr w "&") (dx0_11:dh0_11 = hashStr w "<") (dx0_12:dh0_12 = hashStr w "=") (dx0_13:dh0_13 = hashStr w "rest") (dx0_14:dh0_14 = hashStr w "if") (dx0_15:dh0_15 = hashStr w "else") (dx0_16:dh0_16 = hashStr w "sum") (dx0_17:dh0_17 = hashStr w "count") (dx0_18:dh0_18 = hashStr w "least") (dx0_19:dh0_19 = hashStr w "greatest") (dx0_20:dh0_20 = hashStr w "find")
    (xa0:PySem.W.nsIn K mainGlobals "BadFormula" = some (some (.ref X0))) (xe0:PySem.W.excIn K X0 bmV nwV = true) (xg0:PySem.W.findIn K (.ref X0) "__getattribute__" = some (some (.builtin "BaseException.__getattribute__"))) (xx0:PySem.W.findIn K (.ref X0) "__getattr__" = some none) (xc0:PySem.W.findIn K (.ref X0) "__class__" = some (some (.builtin "object.__class__")))
    (xa1:PySem.W.nsIn K mainGlobals "BadArea" = some (some (.ref X1)))
    (xa2:PySem.W.nsIn K mainGlobals "BadContent" = some (some (.ref X2)))
    (xa3:PySem.W.nsIn K mainGlobals "BadCount" = some (some (.ref X3)))
    (xa4:PySem.W.nsIn K mainGlobals "BadPlace" = some (some (.ref X4)))
    (xa5:PySem.W.nsIn K mainGlobals "BadTable" = some (some (.ref X5)))
    (xa6:PySem.W.nsIn K mainGlobals "Clash" = some (some (.ref X6)))
    (xa7:PySem.W.nsIn K mainGlobals "Full" = some (some (.ref X7)))
    (xa8:PySem.W.nsIn K mainGlobals "NoCell" = some (some (.ref X8)))
    (xa9:PySem.W.nsIn K mainGlobals "NoColumn" = some (some (.ref X9)))
    (xa10:PySem.W.nsIn K mainGlobals "BadText" = some (some (.ref X10)))
    (xa11:PySem.W.nsIn K mainGlobals "NoDeed" = some (some (.ref X11)))
    (xa12:PySem.W.nsIn K mainGlobals "NoRoom" = some (some (.ref X12)))
    (xa13:PySem.W.nsIn K mainGlobals "NoTable" = some (some (.ref X13)))
    (xa14:PySem.W.nsIn K mainGlobals "NotWaiting" = some (some (.ref X14)))
    (xa15:PySem.W.nsIn K mainGlobals "SheetError" = some (some (.ref X15))) (xe15:PySem.W.excIn K X15 bmV nwV = true)
    (pk0:PySem.W.kitOne K (.ref X0) (.ref X0) = some true)
    (pk1:PySem.W.kitOne K (.ref X0) (.ref X1) = some false)
    (pk2:PySem.W.kitOne K (.ref X0) (.ref X2) = some false)
    (pk3:PySem.W.kitOne K (.ref X0) (.ref X3) = some false)
    (pk4:PySem.W.kitOne K (.ref X0) (.ref X4) = some false)
    (pk5:PySem.W.kitOne K (.ref X0) (.ref X5) = some false)
    (pk6:PySem.W.kitOne K (.ref X0) (.ref X6) = some false)
    (pk7:PySem.W.kitOne K (.ref X0) (.ref X7) = some false)
    (pk8:PySem.W.kitOne K (.ref X0) (.ref X8) = some false)
    (pk9:PySem.W.kitOne K (.ref X0) (.ref X9) = some false)
    (pk10:PySem.W.kitOne K (.ref X0) (.ref X10) = some false)
    (pk11:PySem.W.kitOne K (.ref X0) (.ref X11) = some false)
    (pk12:PySem.W.kitOne K (.ref X0) (.ref X12) = some false)
    (pk13:PySem.W.kitOne K (.ref X0) (.ref X13) = some false)
    (pk14:PySem.W.kitOne K (.ref X0) (.ref X14) = some false)
    (pk15:PySem.W.kitOne K (.ref X0) (.ref X15) = some true)
    (pm0:PySem.W.mroIn K X0 (.ref X15) = some true)
    (pt0:PySem.W.kitOne K (.ref X0) (.type "ValueError") = some true)
     :
    ∃ fd:FuncData,(∀ (s:Shared) (u:Value),BindsTo s fd ⟨[u],[]⟩ [("script",u)]) ∧ ∀ base:Heap,K.In base → base.Ns mainGlobals mg → FnOk l.prog w K mg base (CXJ l.prog w) 18 fa fd ["script"] (spW K 1 F_law):=by
  refine J.law_has X G hfa (J.def_at a29 l29 c29 k29) (fun _ _ _ _ _ _ s u => .of_eq rfl) (fun f fd Fu base kb nb => ?_)
  have Z0:=PySem.W.mg_none_of kb nb z0
  have Z1:=PySem.W.mg_none_of kb nb z1
  have Z2:=PySem.W.mg_none_of kb nb z2
  have Z3:=PySem.W.mg_none_of kb nb z3
  have Z4:=PySem.W.mg_none_of kb nb z4
  have Z5:=PySem.W.mg_none_of kb nb z5
  have Z6:=PySem.W.mg_none_of kb nb z6
  have Z7:=PySem.W.mg_none_of kb nb z7
  have Z8:=PySem.W.mg_none_of kb nb z8
  have Z9:=PySem.W.mg_none_of kb nb z9
  have Z10:=PySem.W.mg_none_of kb nb z10
  have Z11:=PySem.W.mg_none_of kb nb z11
  have V0:=PySem.W.mg_of kb nb v0
  have V1:=PySem.W.mg_of kb nb v1
  have V2:=PySem.W.mg_of kb nb v2
  have V3:=PySem.W.mg_of kb nb v3
  have V4:=PySem.W.mg_of kb nb v4
  have V5:=PySem.W.mg_of kb nb v5
  have V6:=PySem.W.mg_of kb nb v6
  have TB:TabOk K tbl tblT tblC:=J.tab_mk ⟨⟨X0,X0,xa0,xa0,⟨xe0,xg0,xx0,xc0⟩,pk0⟩,⟨X0,X1,xa0,xa1,⟨xe0,xg0,xx0,xc0⟩,pk1⟩,⟨X0,X2,xa0,xa2,⟨xe0,xg0,xx0,xc0⟩,pk2⟩,⟨X0,X3,xa0,xa3,⟨xe0,xg0,xx0,xc0⟩,pk3⟩,⟨X0,X4,xa0,xa4,⟨xe0,xg0,xx0,xc0⟩,pk4⟩,⟨X0,X5,xa0,xa5,⟨xe0,xg0,xx0,xc0⟩,pk5⟩,⟨X0,X6,xa0,xa6,⟨xe0,xg0,xx0,xc0⟩,pk6⟩,⟨X0,X7,xa0,xa7,⟨xe0,xg0,xx0,xc0⟩,pk7⟩,⟨X0,X8,xa0,xa8,⟨xe0,xg0,xx0,xc0⟩,pk8⟩,⟨X0,X9,xa0,xa9,⟨xe0,xg0,xx0,xc0⟩,pk9⟩,⟨X0,X10,xa0,xa10,⟨xe0,xg0,xx0,xc0⟩,pk10⟩,⟨X0,X11,xa0,xa11,⟨xe0,xg0,xx0,xc0⟩,pk11⟩,⟨X0,X12,xa0,xa12,⟨xe0,xg0,xx0,xc0⟩,pk12⟩,⟨X0,X13,xa0,xa13,⟨xe0,xg0,xx0,xc0⟩,pk13⟩,⟨X0,X14,xa0,xa14,⟨xe0,xg0,xx0,xc0⟩,pk14⟩,⟨X0,X15,xa0,xa15,⟨xe0,xg0,xx0,xc0⟩,pk15⟩,trivial⟩ ⟨⟨X0,xa0,⟨xe0,xg0,xx0,xc0⟩,pt0⟩,trivial⟩ ⟨⟨X0,X15,xa0,xa15,xe0,xe15,pm0⟩,trivial⟩
  have H1:J.Has l.prog w K mg base 1 "_law_digit" 2 F__law_digit:=J.has_def (ps:=["own","many"]) kb nb (J.def_at a1 l1 c1 k1) (J.topOk_mk (c:=c__law_digit) (k:=0) trivial trivial trivial TB trivial trivial trivial) sc__law_digit rfl r__law_digit (fun _ _ _ _ _ _ us hl => J.ln2 us hl fun _ _ => rfl)
  have H2:J.Has l.prog w K mg base 2 "_law_area" 1 F__law_area:=J.has_def (ps:=["own"]) kb nb (J.def_at a2 l2 c2 k2) (J.topOk_mk (c:=c__law_area) (k:=1) trivial ⟨Z0,trivial⟩ ⟨H1.mono (by decide),trivial⟩ TB trivial trivial trivial) sc__law_area rfl r__law_area (fun _ _ _ _ _ _ us hl => J.ln1 us hl fun _ => rfl)
  have H3:J.Has l.prog w K mg base 2 "_law_pins" 2 F__law_pins:=J.has_def (ps:=["own","many"]) kb nb (J.def_at a3 l3 c3 k3) (J.topOk_mk (c:=c__law_pins) (k:=1) trivial ⟨Z1,Z2,trivial⟩ ⟨H1.mono (by decide),trivial⟩ TB trivial trivial trivial) sc__law_pins rfl r__law_pins (fun _ _ _ _ _ _ us hl => J.ln2 us hl fun _ _ => rfl)
  have H4:J.Has l.prog w K mg base 3 "_law_leaf" 2 F__law_leaf:=J.has_def (ps:=["own","kind"]) kb nb (J.def_at a4 l4 c4 k4) (J.topOk_mk (c:=c__law_leaf) (k:=2) trivial ⟨Z2,Z3,trivial⟩ ⟨H2.mono (by decide),H1.mono (by decide),H3.mono (by decide),trivial⟩ TB trivial trivial trivial) sc__law_leaf rfl r__law_leaf (fun _ _ _ _ _ _ us hl => J.ln2 us hl fun _ _ => rfl)
  have G5:∀ n:Nat,J.Has l.prog w K mg base (3 + n) "_law_formula" 3 (R__law_formula n):=fun n => by
    induction n with
    | zero => exact J.has_bad (ps:=["own","deep","room"]) kb nb (J.def_at a5 l5 c5 k5) (fun _ _ _ _ _ _ us hl => J.ln3 us hl fun _ _ _ => rfl)
    | succ n ih => exact J.has_def (ps:=["own","deep","room"]) kb nb (J.def_at a5 l5 c5 k5) (J.topOk_mk (c:=(c__law_formula (R__law_formula n))) (k:=(3 + n)) trivial ⟨Z1,Z2,trivial⟩ ⟨H1.mono (by omega),ih,H4.mono (by omega),H2.mono (by omega),H3.mono (by omega),trivial⟩ TB trivial trivial trivial) (sc__law_formula (R__law_formula n)) rfl (r__law_formula (R__law_formula n)) (fun _ _ _ _ _ _ us hl => J.ln3 us hl fun _ _ _ => rfl)
  have H5:J.Has l.prog w K mg base 17 "_law_formula" 3 F__law_formula:=(G5 14)
  have H6:J.Has l.prog w K mg base 2 "_law_odd" 1 F__law_odd:=J.has_def (ps:=["own"]) kb nb (J.def_at a6 l6 c6 k6) (J.topOk_mk (c:=c__law_odd) (k:=1) trivial ⟨Z3,trivial⟩ ⟨H1.mono (by decide),trivial⟩ TB trivial trivial trivial) sc__law_odd rfl r__law_odd (fun _ _ _ _ _ _ us hl => J.ln1 us hl fun _ => rfl)
  have G7:∀ n:Nat,J.Has l.prog w K mg base (2 + n) "_law_spoiled" 2 (R__law_spoiled n):=fun n => by
    induction n with
    | zero => exact J.has_bad (ps:=["formula","own"]) kb nb (J.def_at a7 l7 c7 k7) (fun _ _ _ _ _ _ us hl => J.ln2 us hl fun _ _ => rfl)
    | succ n ih => exact J.has_def (ps:=["formula","own"]) kb nb (J.def_at a7 l7 c7 k7) (J.topOk_mk (c:=(c__law_spoiled (R__law_spoiled n))) (k:=(2 + n)) trivial ⟨Z2,Z4,Z5,Z3,Z1,trivial⟩ ⟨H1.mono (by omega),ih,H6.mono (by omega),trivial⟩ TB trivial trivial trivial) (sc__law_spoiled (R__law_spoiled n)) rfl (r__law_spoiled (R__law_spoiled n)) (fun _ _ _ _ _ _ us hl => J.ln2 us hl fun _ _ => rfl)
  have H7:J.Has l.prog w K mg base 16 "_law_spoiled" 2 F__law_spoiled:=(G7 14)
  have H8:J.Has l.prog w K mg base 1 "_law_own" 1 F__law_own:=J.has_def (ps:=["cell"]) kb nb (J.def_at a8 l8 c8 k8) (J.topOk_mk (c:=c__law_own) (k:=0) trivial ⟨Z6,Z2,trivial⟩ trivial TB trivial trivial trivial) sc__law_own rfl r__law_own (fun _ _ _ _ _ _ us hl => J.ln1 us hl fun _ => rfl)
  have H9:J.Has l.prog w K mg base 1 "part_many" 1 F_part_many:=J.has_def (ps:=["word"]) kb nb (J.def_at a9 l9 c9 k9) (J.topOk_mk (c:=c_part_many) (k:=0) trivial trivial trivial TB trivial trivial ⟨⟨_,_,_,PySem.W.mg_of kb nb dv0,dw0,dm0,⟨⟨dx0_0,⟨_,rfl⟩,⟨_,rfl⟩⟩,⟨dx0_1,⟨_,rfl⟩,⟨_,rfl⟩⟩,⟨dx0_2,⟨_,rfl⟩,⟨_,rfl⟩⟩,⟨dx0_3,⟨_,rfl⟩,⟨_,rfl⟩⟩,⟨dx0_4,⟨_,rfl⟩,⟨_,rfl⟩⟩,⟨dx0_5,⟨_,rfl⟩,⟨_,rfl⟩⟩,⟨dx0_6,⟨_,rfl⟩,⟨_,rfl⟩⟩,⟨dx0_7,⟨_,rfl⟩,⟨_,rfl⟩⟩,⟨dx0_8,⟨_,rfl⟩,⟨_,rfl⟩⟩,⟨dx0_9,⟨_,rfl⟩,⟨_,rfl⟩⟩,⟨dx0_10,⟨_,rfl⟩,⟨_,rfl⟩⟩,⟨dx0_11,⟨_,rfl⟩,⟨_,rfl⟩⟩,⟨dx0_12,⟨_,rfl⟩,⟨_,rfl⟩⟩,⟨dx0_13,⟨_,rfl⟩,⟨_,rfl⟩⟩,⟨dx0_14,⟨_,rfl⟩,⟨_,rfl⟩⟩,⟨dx0_15,⟨_,rfl⟩,⟨_,rfl⟩⟩,⟨dx0_16,⟨_,rfl⟩,⟨_,rfl⟩⟩,⟨dx0_17,⟨_,rfl⟩,⟨_,rfl⟩⟩,⟨dx0_18,⟨_,rfl⟩,⟨_,rfl⟩⟩,⟨dx0_19,⟨_,rfl⟩,⟨_,rfl⟩⟩,⟨dx0_20,⟨_,rfl⟩,⟨_,rfl⟩⟩,trivial⟩,by decide +kernel⟩,trivial⟩) sc_part_many rfl r_part_many (fun _ _ _ _ _ _ us hl => J.ln1 us hl fun _ => rfl)
  have H10:J.Has l.prog w K mg base 2 "parts_of" 1 F_parts_of:=J.has_def (ps:=["formula"]) kb nb (J.def_at a10 l10 c10 k10) (J.topOk_mk (c:=c_parts_of) (k:=1) trivial trivial ⟨H9.mono (by decide),trivial⟩ TB trivial trivial trivial) sc_parts_of rfl r_parts_of (fun _ _ _ _ _ _ us hl => J.ln1 us hl fun _ => rfl)
  have H11:J.Has l.prog w K mg base 3 "level_below" 1 F_level_below:=J.has_def (ps:=["level"]) kb nb (J.def_at a11 l11 c11 k11) (J.topOk_mk (c:=c_level_below) (k:=2) trivial trivial ⟨H10.mono (by decide),trivial⟩ TB trivial trivial trivial) sc_level_below rfl r_level_below (fun _ _ _ _ _ _ us hl => J.ln1 us hl fun _ => rfl)
  have H12:J.Has l.prog w K mg base 1 "has_area" 1 F_has_area:=J.has_def (ps:=["word"]) kb nb (J.def_at a12 l12 c12 k12) (J.topOk_mk (c:=c_has_area) (k:=0) ⟨⟨_,[.str "sum",.str "count",.str "least",.str "greatest",.str "find"],_,_,_,V0,w0,rfl,rfl,(show (5:Nat) ≤ sizeLine by decide),(.cons ⟨_,rfl⟩ (.cons ⟨_,rfl⟩ (.cons ⟨_,rfl⟩ (.cons ⟨_,rfl⟩ (.cons ⟨_,rfl⟩ .nil))))),⟨⟨rfl,by decide +kernel⟩,⟨⟨rfl,by decide +kernel⟩,⟨⟨rfl,by decide +kernel⟩,⟨⟨rfl,by decide +kernel⟩,⟨⟨rfl,by decide +kernel⟩,trivial⟩⟩⟩⟩⟩⟩,trivial⟩ trivial trivial TB trivial trivial trivial) sc_has_area rfl r_has_area (fun _ _ _ _ _ _ us hl => J.ln1 us hl fun _ => rfl)
  have H13:J.Has l.prog w K mg base 1 "is_whole" 1 F_is_whole:=J.has_def (ps:=["thing"]) kb nb (J.def_at a13 l13 c13 k13) (J.topOk_mk (c:=c_is_whole) (k:=0) trivial ⟨Z4,Z7,Z8,trivial⟩ trivial TB trivial trivial trivial) sc_is_whole rfl r_is_whole (fun _ _ _ _ _ _ us hl => J.ln1 us hl fun _ => rfl)
  have H14:J.Has l.prog w K mg base 1 "is_text_sign" 1 F_is_text_sign:=J.has_def (ps:=["number"]) kb nb (J.def_at a14 l14 c14 k14) (J.topOk_mk (c:=c_is_text_sign) (k:=0) trivial trivial trivial TB trivial trivial trivial) sc_is_text_sign rfl r_is_text_sign (fun _ _ _ _ _ _ us hl => J.ln1 us hl fun _ => rfl)
  have H15:J.Has l.prog w K mg base 2 "has_text_signs" 1 F_has_text_signs:=J.has_def (ps:=["text"]) kb nb (J.def_at a15 l15 c15 k15) (J.topOk_mk (c:=c_has_text_signs) (k:=1) trivial ⟨Z9,Z10,trivial⟩ ⟨H14.mono (by decide),trivial⟩ TB trivial trivial trivial) sc_has_text_signs rfl r_has_text_signs (fun _ _ _ _ _ _ us hl => J.ln1 us hl fun _ => rfl)
  have H16:J.Has l.prog w K mg base 3 "is_text" 1 F_is_text:=J.has_def (ps:=["thing"]) kb nb (J.def_at a16 l16 c16 k16) (J.topOk_mk (c:=c_is_text) (k:=2) ⟨⟨_,V1⟩,trivial⟩ ⟨Z4,Z5,Z3,trivial⟩ ⟨H15.mono (by decide),trivial⟩ TB trivial trivial trivial) sc_is_text rfl r_is_text (fun _ _ _ _ _ _ us hl => J.ln1 us hl fun _ => rfl)
  have H17:J.Has l.prog w K mg base 2 "is_number_row" 2 F_is_number_row:=J.has_def (ps:=["thing","many"]) kb nb (J.def_at a17 l17 c17 k17) (J.topOk_mk (c:=c_is_number_row) (k:=1) trivial ⟨Z4,Z1,Z9,Z3,trivial⟩ ⟨H13.mono (by decide),trivial⟩ TB trivial trivial trivial) sc_is_number_row rfl r_is_number_row (fun _ _ _ _ _ _ us hl => J.ln2 us hl fun _ _ => rfl)
  have H18:J.Has l.prog w K mg base 1 "is_place" 1 F_is_place:=J.has_def (ps:=["place"]) kb nb (J.def_at a18 l18 c18 k18) (J.topOk_mk (c:=c_is_place) (k:=0) ⟨⟨_,V2⟩,⟨_,V3⟩,trivial⟩ trivial trivial TB trivial trivial trivial) sc_is_place rfl r_is_place (fun _ _ _ _ _ _ us hl => J.ln1 us hl fun _ => rfl)
  have H19:J.Has l.prog w K mg base 3 "are_pins" 2 F_are_pins:=J.has_def (ps:=["thing","many"]) kb nb (J.def_at a19 l19 c19 k19) (J.topOk_mk (c:=c_are_pins) (k:=2) trivial ⟨Z9,trivial⟩ ⟨H17.mono (by decide),trivial⟩ TB trivial trivial trivial) sc_are_pins rfl r_are_pins (fun _ _ _ _ _ _ us hl => J.ln2 us hl fun _ _ => rfl)
  have H20:J.Has l.prog w K mg base 2 "has_corners" 1 F_has_corners:=J.has_def (ps:=["area"]) kb nb (J.def_at a20 l20 c20 k20) (J.topOk_mk (c:=c_has_corners) (k:=1) trivial trivial ⟨H18.mono (by decide),trivial⟩ TB trivial trivial trivial) sc_has_corners rfl r_has_corners (fun _ _ _ _ _ _ us hl => J.ln1 us hl fun _ => rfl)
  have H21:J.Has l.prog w K mg base 1 "area_many" 1 F_area_many:=J.has_def (ps:=["area"]) kb nb (J.def_at a21 l21 c21 k21) (J.topOk_mk (c:=c_area_many) (k:=0) trivial trivial trivial TB trivial trivial trivial) sc_area_many rfl r_area_many (fun _ _ _ _ _ _ us hl => J.ln1 us hl fun _ => rfl)
  have H22:J.Has l.prog w K mg base 3 "is_area" 1 F_is_area:=J.has_def (ps:=["area"]) kb nb (J.def_at a22 l22 c22 k22) (J.topOk_mk (c:=c_is_area) (k:=2) ⟨⟨_,V4⟩,trivial⟩ trivial ⟨H20.mono (by decide),H21.mono (by decide),trivial⟩ TB trivial trivial trivial) sc_is_area rfl r_is_area (fun _ _ _ _ _ _ us hl => J.ln1 us hl fun _ => rfl)
  have H23:J.Has l.prog w K mg base 4 "is_tail" 2 F_is_tail:=J.has_def (ps:=["word","tail"]) kb nb (J.def_at a23 l23 c23 k23) (J.topOk_mk (c:=c_is_tail) (k:=3) trivial ⟨Z3,trivial⟩ ⟨H12.mono (by decide),H13.mono (by decide),H16.mono (by decide),H17.mono (by decide),H18.mono (by decide),H19.mono (by decide),H22.mono (by decide),trivial⟩ TB trivial trivial trivial) sc_is_tail rfl r_is_tail (fun _ _ _ _ _ _ us hl => J.ln2 us hl fun _ _ => rfl)
  have H24:J.Has l.prog w K mg base 2 "tail_of" 1 F_tail_of:=J.has_def (ps:=["formula"]) kb nb (J.def_at a24 l24 c24 k24) (J.topOk_mk (c:=c_tail_of) (k:=1) trivial trivial ⟨H9.mono (by decide),trivial⟩ TB trivial trivial trivial) sc_tail_of rfl r_tail_of (fun _ _ _ _ _ _ us hl => J.ln1 us hl fun _ => rfl)
  have H25:J.Has l.prog w K mg base 5 "is_piece" 1 F_is_piece:=J.has_def (ps:=["thing"]) kb nb (J.def_at a25 l25 c25 k25) (J.topOk_mk (c:=c_is_piece) (k:=4) trivial ⟨Z4,Z1,Z3,Z5,trivial⟩ ⟨H23.mono (by decide),H9.mono (by decide),H24.mono (by decide),H10.mono (by decide),trivial⟩ TB trivial trivial ⟨⟨_,_,_,PySem.W.mg_of kb nb dv0,dw0,dm0,⟨⟨dx0_0,⟨_,rfl⟩,⟨_,rfl⟩⟩,⟨dx0_1,⟨_,rfl⟩,⟨_,rfl⟩⟩,⟨dx0_2,⟨_,rfl⟩,⟨_,rfl⟩⟩,⟨dx0_3,⟨_,rfl⟩,⟨_,rfl⟩⟩,⟨dx0_4,⟨_,rfl⟩,⟨_,rfl⟩⟩,⟨dx0_5,⟨_,rfl⟩,⟨_,rfl⟩⟩,⟨dx0_6,⟨_,rfl⟩,⟨_,rfl⟩⟩,⟨dx0_7,⟨_,rfl⟩,⟨_,rfl⟩⟩,⟨dx0_8,⟨_,rfl⟩,⟨_,rfl⟩⟩,⟨dx0_9,⟨_,rfl⟩,⟨_,rfl⟩⟩,⟨dx0_10,⟨_,rfl⟩,⟨_,rfl⟩⟩,⟨dx0_11,⟨_,rfl⟩,⟨_,rfl⟩⟩,⟨dx0_12,⟨_,rfl⟩,⟨_,rfl⟩⟩,⟨dx0_13,⟨_,rfl⟩,⟨_,rfl⟩⟩,⟨dx0_14,⟨_,rfl⟩,⟨_,rfl⟩⟩,⟨dx0_15,⟨_,rfl⟩,⟨_,rfl⟩⟩,⟨dx0_16,⟨_,rfl⟩,⟨_,rfl⟩⟩,⟨dx0_17,⟨_,rfl⟩,⟨_,rfl⟩⟩,⟨dx0_18,⟨_,rfl⟩,⟨_,rfl⟩⟩,⟨dx0_19,⟨_,rfl⟩,⟨_,rfl⟩⟩,⟨dx0_20,⟨_,rfl⟩,⟨_,rfl⟩⟩,trivial⟩,by decide +kernel⟩,trivial⟩) sc_is_piece rfl r_is_piece (fun _ _ _ _ _ _ us hl => J.ln1 us hl fun _ => rfl)
  have H26:J.Has l.prog w K mg base 6 "made_formula" 1 F_made_formula:=J.has_def (ps:=["formula"]) kb nb (J.def_at a26 l26 c26 k26) (J.topOk_mk (c:=c_made_formula) (k:=5) ⟨⟨_,V5⟩,⟨_,V6⟩,trivial⟩ ⟨Z3,Z9,trivial⟩ ⟨H11.mono (by decide),H25.mono (by decide),trivial⟩ TB ⟨⟨X0,PySem.W.mg_of kb nb xa0,⟨xa0,xe0⟩⟩,trivial⟩ trivial trivial) sc_made_formula rfl r_made_formula (fun _ _ _ _ _ _ us hl => J.ln1 us hl fun _ => rfl)
  have H27:J.Has l.prog w K mg base 1 "_law_kind" 1 F__law_kind:=J.has_def (ps:=["e"]) kb nb (J.def_at a27 l27 c27 k27) (J.topOk_mk (c:=c__law_kind) (k:=0) trivial ⟨Z4,Z11,trivial⟩ trivial TB trivial ⟨⟨X1,PySem.W.mg_of kb nb xa1,xa1⟩,⟨X2,PySem.W.mg_of kb nb xa2,xa2⟩,⟨X3,PySem.W.mg_of kb nb xa3,xa3⟩,⟨X4,PySem.W.mg_of kb nb xa4,xa4⟩,⟨X5,PySem.W.mg_of kb nb xa5,xa5⟩,⟨X6,PySem.W.mg_of kb nb xa6,xa6⟩,⟨X7,PySem.W.mg_of kb nb xa7,xa7⟩,⟨X8,PySem.W.mg_of kb nb xa8,xa8⟩,⟨X9,PySem.W.mg_of kb nb xa9,xa9⟩,⟨X10,PySem.W.mg_of kb nb xa10,xa10⟩,⟨X0,PySem.W.mg_of kb nb xa0,xa0⟩,⟨X11,PySem.W.mg_of kb nb xa11,xa11⟩,⟨X12,PySem.W.mg_of kb nb xa12,xa12⟩,⟨X13,PySem.W.mg_of kb nb xa13,xa13⟩,⟨X14,PySem.W.mg_of kb nb xa14,xa14⟩,trivial⟩ trivial) sc__law_kind rfl r__law_kind (fun _ _ _ _ _ _ us hl => J.ln1 us hl fun _ => rfl)
  have U27:J.HasU l.prog w K mg base 1 "_law_kind" 1 F__law_kind:=J.has_defU (ps:=["e"]) kb nb (J.def_at a27 l27 c27 k27) (J.topOk_mk (c:=c__law_kind) (k:=0) trivial ⟨Z4,Z11,trivial⟩ trivial TB trivial ⟨⟨X1,PySem.W.mg_of kb nb xa1,xa1⟩,⟨X2,PySem.W.mg_of kb nb xa2,xa2⟩,⟨X3,PySem.W.mg_of kb nb xa3,xa3⟩,⟨X4,PySem.W.mg_of kb nb xa4,xa4⟩,⟨X5,PySem.W.mg_of kb nb xa5,xa5⟩,⟨X6,PySem.W.mg_of kb nb xa6,xa6⟩,⟨X7,PySem.W.mg_of kb nb xa7,xa7⟩,⟨X8,PySem.W.mg_of kb nb xa8,xa8⟩,⟨X9,PySem.W.mg_of kb nb xa9,xa9⟩,⟨X10,PySem.W.mg_of kb nb xa10,xa10⟩,⟨X0,PySem.W.mg_of kb nb xa0,xa0⟩,⟨X11,PySem.W.mg_of kb nb xa11,xa11⟩,⟨X12,PySem.W.mg_of kb nb xa12,xa12⟩,⟨X13,PySem.W.mg_of kb nb xa13,xa13⟩,⟨X14,PySem.W.mg_of kb nb xa14,xa14⟩,trivial⟩ trivial) sc__law_kind rfl ru__law_kind (fun _ _ _ _ _ _ us hl => J.ln1 us hl fun _ => rfl)
  have H28:J.Has l.prog w K mg base 7 "_law_refused" 1 F__law_refused:=J.has_def (ps:=["formula"]) kb nb (J.def_at a28 l28 c28 k28) (J.topOk_mk (c:=c__law_refused) (k:=6) trivial trivial ⟨H26.mono (by decide),H27.mono (by decide),trivial⟩ TB ⟨⟨X15,PySem.W.mg_of kb nb xa15,⟨xa15,xe15⟩⟩,trivial⟩ trivial trivial ⟨(fun _ _ h => by cases h; exact U27.mono (by decide)),trivial⟩) sc__law_refused rfl r__law_refused (fun _ _ _ _ _ _ us hl => J.ln1 us hl fun _ => rfl)
  exact J.fn_def Fu (J.topOk_mk (c:=c_law) (k:=17) trivial trivial ⟨H5.mono (by decide),H7.mono (by decide),H8.mono (by decide),H28.mono (by decide),trivial⟩ TB trivial trivial trivial) sc_law rfl r_law
end K09
open PySem PySem.W PyProof.Rows
set_option maxRecDepth 100000 in
set_option maxHeartbeats 0 in
theorem PySem.Challenge.cw_onelook_k09_no_formulas_holds : PySem.Challenge.rw_onelook_k09_no_formulas.Holds := by
  refine K09.head ?_
  k_fill
  refine L2.walk_of (l:=PySem.Challenge.rw_onelook_k09_no_formulas) (n:=63) (k:=18) (x:="script") (CX:=fun w => J.CXJ PySem.Challenge.rw_onelook_k09_no_formulas.prog w) (sp:=fun w => J.spW _ 1 K09.F_law) rfl (by decide) rfl ⟨rfl,by decide,by decide⟩ (fun w h Y => PySem.W.kIn_of Y) ?F (fun w H a ns hl hO hS => J.law_sp K09.law_true H a ns hl (J.OnlyT.of hO) hS (J.tb_none ?Ta ?Tb ?Tc)) (fun _ _ _ _ _ z => z.elim fun _ y => y.elim fun _ x => x.2)
  case F =>
    intro w mg fa h KX G hmg
    refine' K09.all_mk KX G hmg ?a1 ?l1 ?c1 ?k1 ?a2 ?l2 ?c2 ?k2 ?a3 ?l3 ?c3 ?k3 ?a4 ?l4 ?c4 ?k4 ?a5 ?l5 ?c5 ?k5 ?a6 ?l6 ?c6 ?k6 ?a7 ?l7 ?c7 ?k7 ?a8 ?l8 ?c8 ?k8 ?a9 ?l9 ?c9 ?k9 ?a10 ?l10 ?c10 ?k10 ?a11 ?l11 ?c11 ?k11 ?a12 ?l12 ?c12 ?k12 ?a13 ?l13 ?c13 ?k13 ?a14 ?l14 ?c14 ?k14 ?a15 ?l15 ?c15 ?k15 ?a16 ?l16 ?c16 ?k16 ?a17 ?l17 ?c17 ?k17 ?a18 ?l18 ?c18 ?k18 ?a19 ?l19 ?c19 ?k19 ?a20 ?l20 ?c20 ?k20 ?a21 ?l21 ?c21 ?k21 ?a22 ?l22 ?c22 ?k22 ?a23 ?l23 ?c23 ?k23 ?a24 ?l24 ?c24 ?k24 ?a25 ?l25 ?c25 ?k25 ?a26 ?l26 ?c26 ?k26 ?a27 ?l27 ?c27 ?k27 ?a28 ?l28 ?c28 ?k28 ?a29 ?l29 ?c29 ?k29 ?z0 ?z1 ?z2 ?z3 ?z4 ?z5 ?z6 ?z7 ?z8 ?z9 ?z10 ?z11 ?v0 ?w0 ?v1 ?v2 ?v3 ?v4 ?v5 ?v6 ?dv0 ?dw0 ?dm0 ?dx0_0 ?dx0_1 ?dx0_2 ?dx0_3 ?dx0_4 ?dx0_5 ?dx0_6 ?dx0_7 ?dx0_8 ?dx0_9 ?dx0_10 ?dx0_11 ?dx0_12 ?dx0_13 ?dx0_14 ?dx0_15 ?dx0_16 ?dx0_17 ?dx0_18 ?dx0_19 ?dx0_20 ?xa0 ?xe0 ?xg0 ?xx0 ?xc0 ?xa1 ?xa2 ?xa3 ?xa4 ?xa5 ?xa6 ?xa7 ?xa8 ?xa9 ?xa10 ?xa11 ?xa12 ?xa13 ?xa14 ?xa15 ?xe15 ?pk0 ?pk1 ?pk2 ?pk3 ?pk4 ?pk5 ?pk6 ?pk7 ?pk8 ?pk9 ?pk10 ?pk11 ?pk12 ?pk13 ?pk14 ?pk15 ?pm0 ?pt0
    (case a1 => k_is)
    (case l1 => k_is)
    (case c1 => k_is)
    (case k1 => k_is)
    (case a2 => k_is)
    (case l2 => k_is)
    (case c2 => k_is)
    (case k2 => k_is)
    (case a3 => k_is)
    (case l3 => k_is)
    (case c3 => k_is)
    (case k3 => k_is)
    (case a4 => k_is)
    (case l4 => k_is)
    (case c4 => k_is)
    (case k4 => k_is)
    (case a5 => k_is)
    (case l5 => k_is)
    (case c5 => k_is)
    (case k5 => k_is)
    (case a6 => k_is)
    (case l6 => k_is)
    (case c6 => k_is)
    (case k6 => k_is)
    (case a7 => k_is)
    (case l7 => k_is)
    (case c7 => k_is)
    (case k7 => k_is)
    (case a8 => k_is)
    (case l8 => k_is)
    (case c8 => k_is)
    (case k8 => k_is)
    (case a9 => k_is)
    (case l9 => k_is)
    (case c9 => k_is)
    (case k9 => k_is)
    (case a10 => k_is)
    (case l10 => k_is)
    (case c10 => k_is)
    (case k10 => k_is)
    (case a11 => k_is)
    (case l11 => k_is)
    (case c11 => k_is)
    (case k11 => k_is)
    (case a12 => k_is)
    (case l12 => k_is)
    (case c12 => k_is)
    (case k12 => k_is)
    (case a13 => k_is)
    (case l13 => k_is)
    (case c13 => k_is)
    (case k13 => k_is)
    (case a14 => k_is)
    (case l14 => k_is)
    (case c14 => k_is)
    (case k14 => k_is)
    (case a15 => k_is)
    (case l15 => k_is)
    (case c15 => k_is)
    (case k15 => k_is)
    (case a16 => k_is)
    (case l16 => k_is)
    (case c16 => k_is)
    (case k16 => k_is)
    (case a17 => k_is)
    (case l17 => k_is)
    (case c17 => k_is)
    (case k17 => k_is)
    (case a18 => k_is)
    (case l18 => k_is)
    (case c18 => k_is)
    (case k18 => k_is)
    (case a19 => k_is)
    (case l19 => k_is)
    (case c19 => k_is)
    (case k19 => k_is)
    (case a20 => k_is)
    (case l20 => k_is)
    (case c20 => k_is)
    (case k20 => k_is)
    (case a21 => k_is)
    (case l21 => k_is)
    (case c21 => k_is)
    (case k21 => k_is)
    (case a22 => k_is)
    (case l22 => k_is)
    (case c22 => k_is)
    (case k22 => k_is)
    (case a23 => k_is)
    (case l23 => k_is)
    (case c23 => k_is)
    (case k23 => k_is)
    (case a24 => k_is)
    (case l24 => k_is)
    (case c24 => k_is)
    (case k24 => k_is)
    (case a25 => k_is)
    (case l25 => k_is)
    (case c25 => k_is)
    (case k25 => k_is)
    (case a26 => k_is)
    (case l26 => k_is)
    (case c26 => k_is)
    (case k26 => k_is)
    (case a27 => k_is)
    (case l27 => k_is)
    (case c27 => k_is)
    (case k27 => k_is)
    (case a28 => k_is)
    (case l28 => k_is)
    (case c28 => k_is)
    (case k28 => k_is)
    (case a29 => k_is)
    (case l29 => k_is)
    (case c29 => k_is)
    (case k29 => k_is)
    (case z0 => k_is)
    (case z1 => k_is)
    (case z2 => k_is)
    (case z3 => k_is)
    (case z4 => k_is)
    (case z5 => k_is)
    (case z6 => k_is)
    (case z7 => k_is)
    (case z8 => k_is)
    (case z9 => k_is)
    (case z10 => k_is)
    (case z11 => k_is)
    (case v0 => k_is)
    (case w0 => k_is)
    (case v1 => k_is)
    (case v2 => k_is)
    (case v3 => k_is)
    (case v4 => k_is)
    (case v5 => k_is)
    (case v6 => k_is)
    (case dv0 => k_is)
    (case dw0 => k_is)
    (case dm0 => rfl)
    (case dx0_0 => rfl)
    (case dx0_1 => rfl)
    (case dx0_2 => rfl)
    (case dx0_3 => rfl)
    (case dx0_4 => rfl)
    (case dx0_5 => rfl)
    (case dx0_6 => rfl)
    (case dx0_7 => rfl)
    (case dx0_8 => rfl)
    (case dx0_9 => rfl)
    (case dx0_10 => rfl)
    (case dx0_11 => rfl)
    (case dx0_12 => rfl)
    (case dx0_13 => rfl)
    (case dx0_14 => rfl)
    (case dx0_15 => rfl)
    (case dx0_16 => rfl)
    (case dx0_17 => rfl)
    (case dx0_18 => rfl)
    (case dx0_19 => rfl)
    (case dx0_20 => rfl)
    (case xa0 => k_is)
    (case xe0 => k_exc)
    (case xg0 => k_is)
    (case xx0 => k_is)
    (case xc0 => k_is)
    (case xa1 => k_is)
    (case xa2 => k_is)
    (case xa3 => k_is)
    (case xa4 => k_is)
    (case xa5 => k_is)
    (case xa6 => k_is)
    (case xa7 => k_is)
    (case xa8 => k_is)
    (case xa9 => k_is)
    (case xa10 => k_is)
    (case xa11 => k_is)
    (case xa12 => k_is)
    (case xa13 => k_is)
    (case xa14 => k_is)
    (case xa15 => k_is)
    (case xe15 => k_exc)
    (case pk0 => kit_is)
    (case pk1 => kit_is)
    (case pk2 => kit_is)
    (case pk3 => kit_is)
    (case pk4 => kit_is)
    (case pk5 => kit_is)
    (case pk6 => kit_is)
    (case pk7 => kit_is)
    (case pk8 => kit_is)
    (case pk9 => kit_is)
    (case pk10 => kit_is)
    (case pk11 => kit_is)
    (case pk12 => kit_is)
    (case pk13 => kit_is)
    (case pk14 => kit_is)
    (case pk15 => kit_is)
    (case pm0 => k_is)
    (case pt0 => kit_is)
  (case Ta => k_is)
  (case Tb => k_is)
  (case Tc => k_is)
