import PyProof.Rows.All
import Wide.All
import OpenK.AllK
import Wide.FinOn
import Lean
import PyProof.EqAt
import PyProof.EqKinds
import PyProof.TupleCall
import PySem.Challenge.RW_onelook_k58_forms
-- CHANGE: your row's module here, as the last of these rows
set_option Elab.async false
set_option linter.all false
set_option maxRecDepth 100000
namespace L2
open PySem PySem.Spec PyProof.Rows
abbrev Key := Sum Int Str
def keyIs : Key → Value → Bool
  | .inl k, v => Value.isInt k v
  | .inr x, v => Value.isStrOf x v
def keyH (w : World) : Key → Int
  | .inl k => hashInt k
  | .inr x => hashStr w x
theorem keyIs_shape : ∀ {k : Key} {v : Value}, keyIs k v = true → (∃ i t, k = Sum.inl i ∧ v = Value.int i t) ∨ (∃ x t, k = Sum.inr x ∧ v = Value.str x t)
  | .inl i, v, h => by
    obtain ⟨t, e⟩ := Value.isInt_shape (k := i) (v := v) h
    exact .inl ⟨i, t, rfl, e⟩
  | .inr x, v, h => by
    obtain ⟨t, e⟩ := Value.isStrOf_shape (x := x) (v := v) h
    exact .inr ⟨x, t, rfl, e⟩
theorem key_ll (a b : Int) : decide ((Sum.inl a : Key) = Sum.inl b) = (a == b) := by
  by_cases e : a = b
  · subst e; simp
  · have h : ¬ (Sum.inl a : Key) = Sum.inl b := fun q => e (Sum.inl.inj q)
    rw [decide_eq_false h]
    exact (beq_eq_false_iff_ne.mpr e).symm
theorem key_rr (a b : Str) : decide ((Sum.inr a : Key) = Sum.inr b) = decide (a = b) := by
  by_cases e : a = b
  · subst e; simp
  · have h : ¬ (Sum.inr a : Key) = Sum.inr b := fun q => e (Sum.inr.inj q)
    rw [decide_eq_false h, decide_eq_false e]
theorem key_lr (a : Int) (b : Str) : decide ((Sum.inl a : Key) = Sum.inr b) = false := decide_eq_false (fun q => nomatch q)
theorem key_rl (a : Str) (b : Int) : decide ((Sum.inr a : Key) = Sum.inl b) = false := decide_eq_false (fun q => nomatch q)
def mixKind (prog : Program) (w : World) : PySem.KeyKind prog w Key where
  is := keyIs
  hash := keyH w
  inj := fun v a b ha hb => by
    rcases keyIs_shape ha with ⟨i, t, rfl, rfl⟩ | ⟨x, t, rfl, rfl⟩
    · rcases keyIs_shape hb with ⟨j, u, rfl, e⟩ | ⟨y, u, rfl, e⟩
      · injection e with e1 _; rw [e1]
      · exact nomatch e
    · rcases keyIs_shape hb with ⟨j, u, rfl, e⟩ | ⟨y, u, rfl, e⟩
      · exact nomatch e
      · injection e with e1 _; rw [e1]
  byValue := fun k v h => by
    rcases keyIs_shape h with ⟨i, t, rfl, rfl⟩ | ⟨x, t, rfl, rfl⟩ <;> rfl
  pyHash := fun hv h => by
    rcases keyIs_shape hv with ⟨i, t, rfl, rfl⟩ | ⟨x, t, rfl, rfl⟩
    · exact wpAny_pyHash_int h
    · exact wpAny_pyHash_str h
  eqBool := fun hu hv h => by
    rcases keyIs_shape hu with ⟨i, t, rfl, rfl⟩ | ⟨x, t, rfl, rfl⟩
    · rcases keyIs_shape hv with ⟨j, u, rfl, rfl⟩ | ⟨y, u, rfl, rfl⟩
      · rw [key_ll] at h; exact wpAny_eqBool_int h
      · rw [key_lr] at h; exact SeqAt.EqAt.int_str i t y u _ _ _ _ h
    · rcases keyIs_shape hv with ⟨j, u, rfl, rfl⟩ | ⟨y, u, rfl, rfl⟩
      · rw [key_rl] at h; exact SeqAt.EqAt.str_int x t j u _ _ _ _ h
      · rw [key_rr] at h; exact wpAny_eqBool_str h
  «strs» := fun k x t v h => by
    rcases keyIs_shape h with ⟨i, u, rfl, e⟩ | ⟨y, u, rfl, e⟩
    · exact nomatch e
    · injection e with e1 _
      subst e1
      cases v <;> rfl
end L2
namespace L2
open PySem PySem.Spec PyProof.Rows
inductive V where
  | non | bl (b : Bool) | int (i : Int) | str (x : Str) | byt (b : Array UInt8) | flt (b : UInt64) | ref (a : Addr) | ty (n : String)
  deriving DecidableEq
def RelV : V → Value → Prop
  | .non, u => u = Value.none
  | .bl b, u => u = Value.bool b
  | .int i, u => ∃ t, u = Value.int i t
  | .str x, u => ∃ t, u = Value.str x t
  | .byt b, u => ∃ t, u = Value.bytes b t
  | .flt b, u => ∃ t, u = Value.float b t
  | .ref a, u => u = Value.ref a
  | .ty n, u => u = Value.type n
abbrev Vals : List V → List Value → Prop := Paired RelV
theorem Vals.length {xs : List V} {us : List Value} (r : Vals xs us) : xs.length = us.length := Paired.length r
theorem Vals.get : ∀ {xs : List V} {us : List Value} {i : Nat} {x : V}, Vals xs us → xs[i]? = some x → ∃ u, us[i]? = some u ∧ RelV x u
  | _, _, _, _, .nil, e => by simp at e
  | _, _, 0, _, .cons r _, e => by simp at e; subst e; exact ⟨_, rfl, r⟩
  | _, _, i + 1, x, .cons _ t, e => by
    obtain ⟨u, h1, h2⟩ := Vals.get (i := i) (x := x) t (by simpa using e)
    exact ⟨u, by simpa using h1, h2⟩
theorem Vals.set {x : V} {u : Value} (r : RelV x u) : ∀ {xs : List V} {us : List Value} (i : Nat), Vals xs us → Vals (xs.set i x) (us.set i u)
  | _, _, _, .nil => .nil
  | _, _, 0, .cons _ t => .cons r t
  | _, _, i + 1, .cons q t => .cons q (Vals.set r i t)
theorem Vals.append : ∀ {xs ys : List V} {us ws : List Value}, Vals xs us → Vals ys ws → Vals (xs ++ ys) (us ++ ws)
  | _, _, _, _, .nil, s => s
  | _, _, _, _, .cons r t, s => .cons r (Vals.append t s)
theorem Vals.take : ∀ {xs : List V} {us : List Value} (n : Nat), Vals xs us → Vals (xs.take n) (us.take n)
  | _, _, 0, _ => .nil
  | _, _, _ + 1, .nil => .nil
  | _, _, n + 1, .cons r t => .cons r (Vals.take n t)
theorem Vals.drop : ∀ {xs : List V} {us : List Value} (n : Nat), Vals xs us → Vals (xs.drop n) (us.drop n)
  | _, _, 0, r => r
  | _, _, _ + 1, .nil => .nil
  | _, _, n + 1, .cons _ t => Vals.drop n t
def RelO : Option V → Option Value → Prop
  | some v, some u => RelV v u
  | none, none => True
  | _, _ => False
def KV {κ : Type} : List (κ × V) → List (κ × Value) → Prop := Paired fun (p : κ × V) (q : κ × Value) => p.1 = q.1 ∧ RelV p.2 q.2
def kV : Key → V
  | .inl i => .int i
  | .inr x => .str x
inductive HO where
    | lst (xs : List V)
    | tup (xs : List V)
    | dK (kvs : List (Key × V)) | dT (kvs : List (List Key × V))
    | set (S : Int → Bool) (n : Nat)
    | ins (C dx : Addr) (fs : List (Str × V))
    | own (x : Addr)
    | xd (fs : List (Str × V))
    | met (f x : Addr)
    | rng (lo hi : Int)
    | frz (o : Obj) (u : HO)
    | tbl (ps : Array Value)
    | ext (φ : Heap → Prop)
abbrev Hp := Addr → Option HO
def upd (H : Hp) (a : Addr) (o : HO) : Hp := fun b => if b = a then some o else H b
theorem upd_same {H : Hp} {a : Addr} {o : HO} : upd H a o a = some o := by unfold upd; rw [if_pos rfl]
theorem upd_ne {H : Hp} {a b : Addr} {o : HO} (h : b ≠ a) : upd H a o b = H b := by unfold upd; rw [if_neg h]
theorem ne_of_none {H : Hp} {a b : Addr} {o : HO} (h : H a = some o) (h' : H b = none) : a ≠ b := by
  intro e; subst e; rw [h] at h'; cases h'
def NoDi (h : Heap) (a : Addr) : Prop := ∀ o, h.get? a = some o → o.dict = none
theorem NoDi.new (h : Heap) (us : Array Value) : NoDi (h.push { cls := .type "tuple", data := .seq us }) h.objs.size := fun o q => by
  rw [Heap.get?_push_size _ rfl] at q
  cases q
  rfl
section
variable (P : Program) (w : World)
def ObjOk (H : Hp) (h : Heap) (a : Addr) : HO → Prop
  | .lst xs => xs.length ≤ sizeLine ∧ ∃ (its : List Value) (n : Nat), Vals xs its ∧ h.get? a = some { cls := .type "list", data := .seq its.toArray n }
  | .tup xs => xs.length ≤ sizeLine ∧ ∃ its : List Value, Vals xs its ∧ IsTup h a its.toArray ∧ NoDi h a
  | .dK kvs => kvs.length ≤ sizeLine ∧ (a == sysModules) = false ∧ ∃ vs, KV kvs vs ∧ h.DictOf (mixKind P w) a vs
  | .dT kvs => kvs.length ≤ sizeLine ∧ (a == sysModules) = false ∧ ∃ xs : List (List Key × Addr × Value),
      Paired (fun (p : List Key × V) (q : List Key × Addr × Value) => p.1 = q.1 ∧ H q.2.1 = some (.tup (p.1.map kV)) ∧ RelV p.2 q.2.2) kvs xs ∧
      ∃ o es ep, h.get? a = some o ∧ o.ExactDict ∧ o.data = .dict es ep ∧ es.toList = xs.map (entryOfKey (tupleKind (mixKind P w))) ∧ (xs.map (·.1)).Nodup
  | .set S n => h.SetOf (intKind P w) a S n
  | .ins C dx fs => H dx = some (.own a) ∧ fs.length ≤ 1000 ∧ dx ≠ a ∧ h.get? a = some (PySem.W.instObj C dx) ∧
      ∃ mA, h.Ns1 dx mA ∧ (∀ f, RelO (fs.lookup f) (mA f)) ∧ PySem.Within mA (fs.map (·.1))
  | .own _ => ∃ o, h.get? a = some o
  | .xd fs => ∃ mA, h.Ns1 a mA ∧ ∀ f, RelO (fs.lookup f) (mA f)
  | .rng lo hi => ∃ t u v, h.get? a = some { cls := .type "range", data := .fields #[.int lo t, .int hi u, .int 1 v] }
  | .frz o u => h.get? a = some o ∧ ObjOk H h a u
  | .tbl ps => h.get? a = some { cls := .none, data := .fields ps }
  | .met f x => h.get? a = some (PySem.W.methodObj (.ref f) (.ref x))
  | .ext φ => φ h ∧ (∃ o, h.get? a = some o) ∧ ∀ h1 h2 : Heap, φ h1 → (∀ o, h1.get? a = some o → h2.get? a = some o) → φ h2
def HOk (H : Hp) (h : Heap) : Prop := ∀ a o, H a = some o → ObjOk P w H h a o
end
section
variable {P : Program} {w : World} {H H' : Hp} {h h' : Heap} {a : Addr} {o : HO}
theorem ObjOk.lt (x : ObjOk P w H h a o) : a < h.objs.size := by
  cases o with
  | lst xs => obtain ⟨_, _, _, _, e⟩ := x; exact Heap.lt_size e
  | tup xs => obtain ⟨_, _, _, p, _⟩ := x; exact p.lt
  | dK kvs => obtain ⟨_, _, _, _, o, _, _, e, _⟩ := x; exact Heap.lt_size e
  | dT kvs => obtain ⟨_, _, _, _, o, _, _, e, _⟩ := x; exact Heap.lt_size e
  | set S n => obtain ⟨o, _, _, _, e, _⟩ := x; exact Heap.lt_size e
  | ins C dx fs => obtain ⟨_, _, _, e, _⟩ := x; exact Heap.lt_size e
  | own y => obtain ⟨_, e⟩ := x; exact Heap.lt_size e
  | xd fs => obtain ⟨_, ⟨_, _, _, e, _⟩, _⟩ := x; exact Heap.lt_size e
  | rng lo hi => obtain ⟨_, _, _, e⟩ := x; exact Heap.lt_size e
  | frz ob u => obtain ⟨e, _⟩ := x; exact Heap.lt_size e
  | tbl ps => exact Heap.lt_size (show h.get? a = some _ from x)
  | met f y => exact Heap.lt_size (show h.get? a = some _ from x)
  | ext φ => obtain ⟨_, ⟨_, e⟩, _⟩ := x; exact Heap.lt_size e
theorem Paired.mapP {α β : Type} {F G : α → β → Prop} : ∀ {l₁ : List α} {l₂ : List β}, Paired F l₁ l₂ → (∀ a b, F a b → G a b) → Paired G l₁ l₂
  | _, _, .nil, _ => .nil
  | _, _, .cons r t, f => .cons (f _ _ r) (Paired.mapP t f)
theorem ObjOk.stay (x : ObjOk P w H h a o) (k : ∀ b u, (b = a ∨ H b = some (.own a)) → h.get? b = some u → h'.get? b = some u)
    (ho : ∀ b, H b = some (.own a) → H' b = some (.own a)) (ht : ∀ b xs, H b = some (.tup xs) → H' b = some (.tup xs)) : ObjOk P w H' h' a o := by
  induction o with
  | lst xs => obtain ⟨z, its, n, r, e⟩ := x; exact ⟨z, its, n, r, k _ _ (.inl rfl) e⟩
  | tup xs => obtain ⟨z, us, r, ⟨ob, e, c⟩, nd⟩ := x; exact ⟨z, us, r, ⟨ob, k _ _ (.inl rfl) e, c⟩, fun o q => by rw [k _ _ (.inl rfl) e] at q; cases q; exact nd _ e⟩
  | dK kvs => obtain ⟨z, y, vs, r, ob, es, ep, e, c⟩ := x; exact ⟨z, y, vs, r, ob, es, ep, k _ _ (.inl rfl) e, c⟩
  | dT kvs =>
    obtain ⟨z, y, xs, r, ob, es, ep, e, c⟩ := x
    exact ⟨z, y, xs, Paired.mapP r fun p q z => ⟨z.1, ht _ _ z.2.1, z.2.2⟩, ob, es, ep, k _ _ (.inl rfl) e, c⟩
  | set S n => obtain ⟨ob, es, ep, t, e, c⟩ := x; exact ⟨ob, es, ep, t, k _ _ (.inl rfl) e, c⟩
  | ins C dx fs =>
    obtain ⟨d, z, ne, e, mA, ⟨od, es, ep, e2, c⟩, r⟩ := x
    exact ⟨ho _ d, z, ne, k _ _ (.inl rfl) e, mA, ⟨od, es, ep, k _ _ (.inr d) e2, c⟩, r⟩
  | own y => obtain ⟨ob, e⟩ := x; exact ⟨ob, k _ _ (.inl rfl) e⟩
  | xd fs => obtain ⟨mA, ⟨od, es, ep, e, c⟩, r⟩ := x; exact ⟨mA, ⟨od, es, ep, k _ _ (.inl rfl) e, c⟩, r⟩
  | rng lo hi => obtain ⟨t, u, v, e⟩ := x; exact ⟨t, u, v, k _ _ (.inl rfl) e⟩
  | frz ob u ih => obtain ⟨e, q⟩ := x; exact ⟨k _ _ (.inl rfl) e, ih q⟩
  | tbl ps =>
    have e : h.get? a = some { cls := .none, data := .fields ps } := x
    show h'.get? a = some { cls := .none, data := .fields ps }
    exact k a _ (.inl rfl) e
  | met f y =>
    have e : h.get? a = some (PySem.W.methodObj (.ref f) (.ref y)) := x
    show h'.get? a = some (PySem.W.methodObj (.ref f) (.ref y))
    exact k a _ (.inl rfl) e
  | ext φ => obtain ⟨p, ⟨o, e⟩, st⟩ := x; exact ⟨st _ _ p fun o q => k _ _ (.inl rfl) q, ⟨o, k _ _ (.inl rfl) e⟩, st⟩
theorem HOk.lt (x : HOk P w H h) (e : H a = some o) : a < h.objs.size := (x a o e).lt
theorem HOk.fresh (x : HOk P w H h) (e : h.objs.size ≤ a) : H a = none := by
  cases q : H a with
  | none => rfl
  | some u => exact absurd (Nat.lt_of_lt_of_le (x.lt q) e) (Nat.lt_irrefl _)
theorem HOk.kept (x : HOk P w H h) (k : ∀ b u, h.get? b = some u → h'.get? b = some u) : HOk P w H h' := fun a o e =>
  (x a o e).stay (fun b u _ q => k b u q) (fun _ q => q) fun _ _ q => q
theorem HOk.laid (x : HOk P w H h) (k : ∀ b u, h.get? b = some u → h'.get? b = some u) (hp : h.objs.size ≤ a) (new : ObjOk P w (upd H a o) h' a o) : HOk P w (upd H a o) h' := fun b u e => by
  have hn := x.fresh hp
  by_cases hb : b = a
  · subst hb; rw [upd_same] at e; cases e; exact new
  · rw [upd_ne hb] at e
    exact (x b u e).stay (fun c v _ q => k c v q) (fun c q => by rw [upd_ne (ne_of_none q hn)]; exact q) fun c xs q => by rw [upd_ne (ne_of_none q hn)]; exact q
end
def Rd (H : Hp) (a : Addr) (u : HO) : Prop := H a = some u ∨ ∃ o, H a = some (.frz o u)
theorem Rd.ok {P : Program} {w : World} {H : Hp} {h : Heap} {a : Addr} {u : HO} (r : Rd H a u) (x : HOk P w H h) : ObjOk P w H h a u := by
  rcases r with r | ⟨o, r⟩
  · exact x a u r
  · obtain ⟨_, q⟩ := x a _ r
    exact q
def Mut : Option HO → Prop
  | some (.lst _) => True
  | some (.dK _) => True
  | some (.dT _) => True
  | some (.set _ _) => True
  | some (.ins _ _ _) => True
  | some (.ext _) => True
  | _ => False
section
variable {P : Program} {w : World} {H : Hp} {h h' : Heap} {x e : Addr} {o' : HO}
theorem HOk.write (ok : HOk P w H h) (mu : Mut (H x)) (he : e = x ∨ H e = some (.own x)) (k : ∀ b u, b ≠ e → h.get? b = some u → h'.get? b = some u) (heo : ∃ u, h'.get? e = some u)
    (new : ObjOk P w (upd H x o') h' x o') : HOk P w (upd H x o') h' := fun b u q => by
  have nown : ∀ c y, H c = some (.own y) → c ≠ x := fun c y r z => by subst z; rw [r] at mu; exact mu
  have ntup : ∀ c xs, H c = some (.tup xs) → c ≠ x := fun c xs r z => by subst z; rw [r] at mu; exact mu
  by_cases hb : b = x
  · subst hb; rw [upd_same] at q; cases q; exact new
  · rw [upd_ne hb] at q
    by_cases hbe : b = e
    · have q' : H b = some (.own x) := by
        rcases he with z | z
        · exact absurd (hbe.trans z) hb
        · rw [hbe]; exact z
      rw [q] at q'; cases q'
      obtain ⟨v, hv⟩ := heo
      exact ⟨v, by rw [hbe]; exact hv⟩
    · refine (ok b u q).stay (fun c v hc r => k c v ?_ r) (fun c r => by rw [upd_ne (nown c b r)]; exact r) fun c xs r => by rw [upd_ne (ntup c xs r)]; exact r
      rcases hc with rfl | hc
      · exact hbe
      · rintro rfl
        rcases he with z | z
        · exact nown c b hc z
        · rw [hc] at z; cases z; exact hb rfl
end
structure Un (fs ex : List Addr) (H H' : Hp) (h h' : Heap) : Prop where
  keep : ∀ b o, h.get? b = some o → H b = none → b ∉ fs → b ∉ ex → h'.get? b = some o
  slot : ∀ b o, h.get? b = some o → H b = none → b ∈ fs → b ∉ ex → ∃ sl, h'.get? b = some { o with slots := sl }
  free : ∀ b o, h.get? b = some o → H b = none → b ∉ ex → H' b = none
  there : ∀ b o, h.get? b = some o → b ∉ ex → ∃ o', h'.get? b = some o'
  tups : ∀ b xs, H b = some (.tup xs) → H' b = some (.tup xs)
  frzs : ∀ b o u, H b = some (.frz o u) → H' b = some (.frz o u)
  tbls : ∀ b ps, H b = some (.tbl ps) → ∃ more, H' b = some (.tbl (ps ++ more))
section
variable {fs fs' ex ex' : List Addr} {H H1 H2 : Hp} {h h1 h2 h' : Heap} {a x e : Addr} {o : HO}
theorem Un.any (u : Un fs ex H H1 h h1) {b : Addr} {ob : Obj} (q : h.get? b = some ob) (n : H b = none) (hx : b ∉ ex) : ∃ sl, h1.get? b = some { ob with slots := sl } := by
  by_cases hb : b ∈ fs
  · exact u.slot b ob q n hb hx
  · exact ⟨ob.slots, u.keep b ob q n hb hx⟩
theorem Un.kept (k : ∀ b u, h.get? b = some u → h'.get? b = some u) : Un fs ex H H h h' :=
  ⟨fun b ob q _ _ _ => k b ob q, fun b ob q _ _ _ => ⟨ob.slots, k b ob q⟩, fun _ _ _ n _ => n, fun b ob q _ => ⟨ob, k b ob q⟩, fun _ _ q => q, fun _ _ _ q => q, fun _ ps q => ⟨#[], by rw [q]; simp⟩⟩
theorem Un.refl : Un fs ex H H h h := Un.kept fun _ _ q => q
theorem Un.laid (k : ∀ b u, h.get? b = some u → h'.get? b = some u) (hp : h.objs.size ≤ a) (hn : H a = none) : Un fs ex H (upd H a o) h h' where
  keep := fun b u q _ _ _ => k b u q
  slot := fun b u q _ _ _ => ⟨u.slots, k b u q⟩
  free := fun b u q n _ => by rw [upd_ne (Nat.ne_of_lt (Nat.lt_of_lt_of_le (Heap.lt_size q) hp))]; exact n
  there := fun b u q _ => ⟨u, k b u q⟩
  tups := fun b xs q => by rw [upd_ne (ne_of_none q hn)]; exact q
  frzs := fun b u xs q => by rw [upd_ne (ne_of_none q hn)]; exact q
  tbls := fun b ps q => ⟨#[], by rw [upd_ne (ne_of_none q hn), q]; simp⟩
theorem Un.write (mu : Mut (H x)) (he : e = x ∨ H e = some (.own x)) (k : ∀ b u, b ≠ e → h.get? b = some u → h'.get? b = some u) (heo : ∃ u, h'.get? e = some u) : Un fs ex H (upd H x o) h h' := by
  have hx : ∀ b, H b = none → b ≠ x := fun b n z => by subst z; rw [n] at mu; exact mu
  have hb : ∀ b, H b = none → b ≠ e := fun b n z => by
    subst z
    rcases he with r | r
    · exact hx b n r
    · rw [n] at r; cases r
  have hm : ∀ b u, H b = some u → ¬ Mut (some u) → b ≠ x := fun b u q nm z => by subst z; rw [q] at mu; exact nm mu
  refine ⟨fun b u q n _ _ => k b u (hb b n) q, fun b u q n _ _ => ⟨u.slots, k b u (hb b n) q⟩, fun b u q n _ => by rw [upd_ne (hx b n)]; exact n, fun b u q _ => ?_,
    fun b xs q => by rw [upd_ne (hm b _ q fun z => z)]; exact q, fun b u xs q => by rw [upd_ne (hm b _ q fun z => z)]; exact q, fun b ps q => ⟨#[], by rw [upd_ne (hm b _ q fun z => z), q]; simp⟩⟩
  by_cases hbe : b = e
  · subst hbe; exact heo
  · exact ⟨u, k b u hbe q⟩
end
def trk (h : Heap) (H : Hp) : List Addr := (List.range h.objs.size).filter fun a => (H a).isSome
def hidT (h : Heap) (H : Hp) : Heap := PySem.W.hideAll h (trk h H)
theorem hidT_size (h : Heap) (H : Hp) : (hidT h H).objs.size = h.objs.size := PySem.W.hideAll_size _ _
theorem hidT_get {h : Heap} {H : Hp} {b : Addr} {o : Obj} (e : h.get? b = some o) (n : H b = none) : (hidT h H).get? b = some o :=
  PySem.W.hideAll_get _ e fun hm => by
    have q : (H b).isSome = true := (List.mem_filter.mp hm).2
    rw [n] at q; simp at q
theorem of_hidT {h : Heap} {H : Hp} {b : Addr} {o : Obj} (e : (hidT h H).get? b = some o) : h.get? b = some o ∧ H b = none := by
  have e' : h.get? b = some o := PySem.W.of_hideAll (trk h H) e
  refine ⟨e', ?_⟩
  cases q : H b with
  | none => rfl
  | some x =>
    have hm : b ∈ trk h H := List.mem_filter.mpr ⟨List.mem_range.mpr (Heap.lt_size e'), by simp [q]⟩
    have z : (hidT h H).get? b = none := PySem.W.hideAll_none (trk h H) hm
    rw [z] at e; cases e
end L2
namespace L2
open PySem PySem.Spec PyProof.Rows
structure Mod (K : PySem.W.Frag) (mg : Str → Option Value) (base : Heap) : Prop where
  kin : K.In base
  glob : base.Ns mainGlobals mg
  blt : ∃ mb, base.Ns builtinsNs mb ∧ ∀ x : Str, x ≠ "__name__" → mb x = bootBuiltins x
  nolimit : base.NoLimit
structure Cx where
  prog : Program
  w : World
  K : PySem.W.Frag
  mg : Str → Option Value
  base : Heap
  A : Around
  N : List Str
  s₀ : Shared
  H₀ : Hp
  env : Env
  outer : List Env
  stack : List Env
  ex : List Addr
  fn : Str → Bool
  calm : Bool
  pn : List (Addr × Obj)
  xe : Value → Shared → Prop
def frs (l : List Env) : List Addr := l.filterMap (·.frame)
abbrev Cx.fs (X : Cx) : List Addr := frs X.outer
def Vis (sc : Scope) (x : Str) : Prop := sc.names.lookup x = some .local ∨ sc.names.lookup x = some .cell ∨ sc.names.lookup x = some .free
def Loc (sc : Scope) (x : Str) : Prop := sc.names.lookup x = some .local ∨ sc.names.lookup x = some .cell
def Look (env : Env) (h : Heap) (m : Str → Option Value) (x : Str) (u : Value) : Prop :=
  (env.kindOf x = some .local ∧ m x = some u) ∨ ((env.kindOf x = some .cell ∨ env.kindOf x = some .free) ∧ ∃ c, env.cells.lookup x = some c ∧ h.IsCell c (some u))
structure Cx.Ok (X : Cx) : Prop where
  mod : Mod X.K X.mg X.base
  kind : X.env.scope.kind = .function
  glob : X.env.globals = mainGlobals
  blt : X.env.builtins = builtinsNs
  above : X.s₀.heap.objs.size ≤ X.env.locals
  inj : ∀ x y c, X.env.cells.lookup x = some c → X.env.cells.lookup y = some c → x = y
  has : ∀ x, (X.env.kindOf x = some .cell ∨ X.env.kindOf x = some .free) → ∃ c, X.env.cells.lookup x = some c
  cab : ∀ x c, X.fn x = true → X.env.cells.lookup x = some c → X.s₀.heap.objs.size ≤ c
  hd : X.calm = true → X.A.handled = none
  frames : X.A.frames = some X.stack
  stk : X.stack = X.outer ∨ (X.stack = X.env :: X.outer ∧ X.env.frame = some X.env.locals)
  exf : ∀ b ∈ X.ex, b ≠ X.env.locals ∧ ∀ x c, X.env.cells.lookup x = some c → c ≠ b
  bs : ∀ b o, X.base.get? b = some o → X.s₀.heap.get? b = some o ∧ X.H₀ b = none
  bsz : X.base.objs.size ≤ X.s₀.heap.objs.size
  noex : ∀ b o, X.base.get? b = some o → b ∉ X.ex
  exfs : ∀ b ∈ X.ex, b ∉ X.fs
  funs : X.s₀.heap.FunFrames X.base X.outer
  frf : ∀ b ∈ X.fs, X.H₀ b = none
structure Inv (X : Cx) (pins : List (Addr × Obj)) (σ : List (Option V)) (H : Hp) (s : Shared) : Prop where
  ok : X.Ok
  os : s.os = X.s₀.os
  bare : AllBare s.gens
  base : Un X.fs X.ex X.H₀ H X.s₀.heap s.heap
  loc : ∃ m, s.heap.Ns X.env.locals m ∧ ∀ (i : Nat) (x : Str) (v : V), X.N[i]? = some x → σ[i]? = some (some v) → Vis X.env.scope x → ∃ u, RelV v u ∧ Look X.env s.heap m x u
  cell : ∀ x c, X.env.cells.lookup x = some c → ∃ v, s.heap.IsCell c v
  free : H X.env.locals = none
  freeC : ∀ x c, X.env.cells.lookup x = some c → H c = none
  pin : ∀ p ∈ X.pn ++ pins, s.heap.get? p.1 = some p.2 ∧ H p.1 = none ∧ p.1 ≠ X.env.locals ∧ p.1 ∉ X.fs ∧ ∀ v, p.2.data ≠ .cell v
  hok : HOk X.prog X.w H s.heap
  len : σ.length = X.N.length
section
variable {X : Cx} {pins : List (Addr × Obj)} {σ : List (Option V)} {H H' : Hp} {s : Shared} {h' : Heap}
theorem Cx.Ok.nofr (ok : X.Ok) {b : Addr} {o : Obj} (e : X.base.get? b = some o) : b ∉ X.fs := fun hb => by
  have := (ok.funs.mem hb).1
  rw [e] at this; cases this
theorem Inv.bs (I : Inv X pins σ H s) : ∀ b o, X.base.get? b = some o → s.heap.get? b = some o ∧ H b = none := fun b o e =>
  ⟨I.base.keep b o (I.ok.bs b o e).1 (I.ok.bs b o e).2 (I.ok.nofr e) (I.ok.noex b o e), I.base.free b o (I.ok.bs b o e).1 (I.ok.bs b o e).2 (I.ok.noex b o e)⟩
theorem Inv.bk (I : Inv X pins σ H s) : ∀ b o, X.base.get? b = some o → s.heap.get? b = some o := fun b o e => (I.bs b o e).1
theorem Inv.mod (I : Inv X pins σ H s) : Mod X.K X.mg X.base := I.ok.mod
theorem Inv.kIn (I : Inv X pins σ H s) : X.K.In s.heap := I.ok.mod.kin.keeps I.bk
theorem Inv.lt (I : Inv X pins σ H s) : X.env.locals < s.heap.objs.size := let ⟨_, hn, _⟩ := I.loc; hn.lt
theorem Inv.sz (I : Inv X pins σ H s) : X.s₀.heap.objs.size ≤ s.heap.objs.size := Nat.le_trans I.ok.above (Nat.le_of_lt I.lt)
theorem Inv.nofs (I : Inv X pins σ H s) {a : Addr} (h : s.heap.objs.size ≤ a) : a ∉ X.fs := fun hb => by
  obtain ⟨_, o, ho, _⟩ := I.ok.funs.mem hb
  exact absurd (Nat.lt_of_lt_of_le (Heap.lt_size ho) (Nat.le_trans I.sz h)) (Nat.lt_irrefl _)
theorem Inv.cne (I : Inv X pins σ H s) : ∀ x c, X.env.cells.lookup x = some c → c ≠ X.env.locals := fun x c e z => by
  obtain ⟨v, o, ho, hd⟩ := I.cell x c e
  obtain ⟨m, ⟨o', es, ep, ho', hd', _⟩, _⟩ := I.loc
  rw [z, ho'] at ho; cases ho; rw [hd'] at hd; cases hd
theorem Inv.funs (I : Inv X pins σ H s) : s.heap.FunFrames X.base X.outer := by
  have all : ∀ (l : List Env), (∀ b ∈ frs l, b ∈ X.fs) → X.s₀.heap.FunFrames X.base l → s.heap.FunFrames X.base l := by
    intro l
    induction l with
    | nil => intro _ _; trivial
    | cons env r ih =>
      intro hs hl
      obtain ⟨hk, ⟨L, o, hf, hn, ho, hd⟩, hr⟩ := hl
      have hL : L ∈ X.fs := hs L (by unfold frs; rw [List.filterMap_cons, hf]; exact List.mem_cons_self)
      obtain ⟨sl, e⟩ := I.base.slot L o ho (I.ok.frf L hL) hL fun z => I.ok.exfs L z hL
      exact ⟨hk, ⟨L, _, hf, hn, e, hd⟩, ih (fun b hb => hs b (by unfold frs; rw [List.filterMap_cons, hf]; exact List.mem_cons_of_mem _ hb)) hr⟩
  exact all X.outer (fun _ hb => hb) I.ok.funs
theorem Inv.stack (I : Inv X pins σ H s) : s.heap.FunFrames X.base X.stack := by
  rcases I.ok.stk with e | ⟨e, hf⟩
  · rw [e]; exact I.funs
  · rw [e]
    obtain ⟨m, hn, _⟩ := I.loc
    refine .cons (by rw [I.ok.kind]; decide) hf hn ?_ I.funs
    exact Heap.get?_none_of_le (Nat.le_trans I.ok.bsz I.ok.above)
theorem Inv.stkSub (I : Inv X pins σ H s) : ∀ b ∈ frs X.stack, b ∈ X.env.locals :: X.fs := fun b hb => by
  rcases I.ok.stk with e | ⟨e, hf⟩
  · rw [e] at hb; exact List.mem_cons_of_mem _ hb
  · rw [e] at hb
    unfold frs at hb
    rw [List.filterMap_cons, hf] at hb
    exact hb
theorem Inv.stkFree (I : Inv X pins σ H s) : ∀ b ∈ frs X.stack, H b = none := fun b hb => by
  rcases List.mem_cons.mp (I.stkSub b hb) with e | hb
  · rw [e]; exact I.free
  · obtain ⟨_, o, ho, _⟩ := I.ok.funs.mem hb
    exact I.base.free b o ho (I.ok.frf b hb) fun z => I.ok.exfs b z hb
theorem Inv.step {g' : Array GenState} {t' : Nat} {d' : Drawn} {ch : List Addr} (I : Inv X pins σ H s)
    (hch : ∀ b ∈ ch, (b ∈ X.ex ∨ X.s₀.heap.objs.size ≤ b) ∧ b ≠ X.env.locals ∧ (∀ x c, X.env.cells.lookup x = some c → c ≠ b) ∧ ∀ p ∈ X.pn ++ pins, p.1 ≠ b)
    (keep : ∀ b o, b ≠ X.env.locals → b ∉ X.fs → b ∉ ch → s.heap.get? b = some o → H b = none → h'.get? b = some o)
    (slot : ∀ b o, b ≠ X.env.locals → b ∈ X.fs → b ∉ ch → s.heap.get? b = some o → H b = none → ∃ sl, h'.get? b = some { o with slots := sl }) (free : ∀ b o, b ∉ ch → s.heap.get? b = some o → H b = none → H' b = none)
    (there : ∀ b o, b ∉ ch → s.heap.get? b = some o → ∃ o', h'.get? b = some o')
    (tups : ∀ b xs, H b = some (.tup xs) → H' b = some (.tup xs)) (frzs : ∀ b o u, H b = some (.frz o u) → H' b = some (.frz o u)) (tbls : ∀ b ps, H b = some (.tbl ps) → ∃ more, H' b = some (.tbl (ps ++ more)))
    (ns : ∀ m, s.heap.Ns X.env.locals m → h'.Ns X.env.locals m) (hok : HOk X.prog X.w H' h') (hg : AllBare g') :
    Inv X pins σ H' { s with heap := h', gens := g', drawn := d', toks := t' } := by
  have neL : ∀ b o, X.s₀.heap.get? b = some o → b ≠ X.env.locals := fun b o e => Nat.ne_of_lt (Nat.lt_of_lt_of_le (Heap.lt_size e) I.ok.above)
  have neC : ∀ b o, X.s₀.heap.get? b = some o → b ∉ X.ex → b ∉ ch := fun b o e hx hb => by
    rcases (hch b hb).1 with z | z
    · exact hx z
    · exact absurd (Nat.lt_of_lt_of_le (Heap.lt_size e) z) (Nat.lt_irrefl _)
  have cellK : ∀ x c, X.env.cells.lookup x = some c → ∀ v, s.heap.IsCell c v → h'.IsCell c v := fun x c e v ⟨o, ho, hd⟩ => by
    have nch : c ∉ ch := fun z => (hch c z).2.2.1 x c e rfl
    by_cases hc : c ∈ X.fs
    · obtain ⟨sl, q⟩ := slot c o (I.cne x c e) hc nch ho (I.freeC x c e)
      exact ⟨_, q, hd⟩
    · exact ⟨o, keep c o (I.cne x c e) hc nch ho (I.freeC x c e), hd⟩
  refine ⟨I.ok, I.os, hg, ⟨fun b o e n hb hx => ?_, fun b o e n hb hx => ?_, fun b o e n hx => ?_, fun b o e hx => ?_, fun b xs e => tups b xs (I.base.tups b xs e), fun b o xs e => frzs b o xs (I.base.frzs b o xs e), fun b ps e => ?_⟩, ?_, fun x c e => ?_, ?_, fun x c e => ?_, fun p hp => ?_, hok, I.len⟩
  · exact keep b o (neL b o e) hb (neC b o e hx) (I.base.keep b o e n hb hx) (I.base.free b o e n hx)
  · obtain ⟨sl, e1⟩ := I.base.slot b o e n hb hx
    obtain ⟨sl', e2⟩ := slot b _ (neL b o e) hb (neC b o e hx) e1 (I.base.free b o e n hx)
    exact ⟨sl', e2⟩
  · obtain ⟨o', e1⟩ := I.base.there b o e hx
    exact free b o' (neC b o e hx) e1 (I.base.free b o e n hx)
  · obtain ⟨o', e1⟩ := I.base.there b o e hx
    exact there b o' (neC b o e hx) e1
  · obtain ⟨m1, e1⟩ := I.base.tbls b ps e
    obtain ⟨m2, e2⟩ := tbls b _ e1
    exact ⟨m1 ++ m2, by rw [e2, Array.append_assoc]⟩
  · obtain ⟨m, hn, hl⟩ := I.loc
    refine ⟨m, ns m hn, fun i x v e1 e2 e3 => ?_⟩
    obtain ⟨u, r, l⟩ := hl i x v e1 e2 e3
    refine ⟨u, r, ?_⟩
    rcases l with l | ⟨k, c, e, z⟩
    · exact .inl l
    · exact .inr ⟨k, c, e, cellK x c e _ z⟩
  · obtain ⟨v, z⟩ := I.cell x c e
    exact ⟨v, cellK x c e v z⟩
  · obtain ⟨m, ⟨o, _, _, ho, _⟩, _⟩ := I.loc
    exact free _ o (fun z => (hch _ z).2.1 rfl) ho I.free
  · obtain ⟨v, o, ho, hd⟩ := I.cell x c e
    exact free c o (fun z => (hch c z).2.2.1 x c e rfl) ho (I.freeC x c e)
  · obtain ⟨e, n, ne, nf, d⟩ := I.pin p hp
    have nch : p.1 ∉ ch := fun z => (hch p.1 z).2.2.2 p hp rfl
    exact ⟨keep p.1 p.2 ne nf nch e n, free p.1 p.2 nch e n, ne, nf, d⟩
theorem Inv.un {t' : Nat} (I : Inv X pins σ H s) (u : Un X.fs [] H H' s.heap h') (hok : HOk X.prog X.w H' h') : Inv X pins σ H' { s with heap := h', toks := t' } := by
  obtain ⟨m, ⟨o, es, ep, ho, r⟩, _⟩ := id I.loc
  obtain ⟨sl, hL⟩ := u.any ho I.free (by simp)
  exact I.step (g' := s.gens) (d' := s.drawn) (ch := []) (fun _ z => nomatch z) (fun b o _ hb _ e n => u.keep b o e n hb (by simp)) (fun b o _ hb _ e n => u.slot b o e n hb (by simp)) (fun b o _ e n => u.free b o e n (by simp)) (fun b o _ e => u.there b o e (by simp)) u.tups u.frzs u.tbls (fun m' hm => by
    obtain ⟨o', es', ep', ho', r'⟩ := hm
    rw [ho] at ho'; cases ho'
    exact ⟨_, es', ep', hL, r'⟩) hok I.bare
theorem Inv.call {g' : Array GenState} {t' : Nat} {d' : Drawn} {ch : List Addr} (I : Inv X pins σ H s) (u : Un (frs X.stack) ch H H' s.heap h') (hok : HOk X.prog X.w H' h') (hg : AllBare g')
    (hch : ∀ b ∈ ch, (b ∈ X.ex ∨ X.s₀.heap.objs.size ≤ b) ∧ b ≠ X.env.locals ∧ (∀ x c, X.env.cells.lookup x = some c → c ≠ b) ∧ ∀ p ∈ X.pn ++ pins, p.1 ≠ b) :
    Inv X pins σ H' { s with heap := h', gens := g', drawn := d', toks := t' } := by
  obtain ⟨m, ⟨o, es, ep, ho, r⟩, _⟩ := id I.loc
  obtain ⟨sl, hL⟩ := u.any ho I.free fun z => (hch _ z).2.1 rfl
  exact I.step (ch := ch) hch (fun b o hL hb hc e n => u.keep b o e n (fun z => (List.mem_cons.mp (I.stkSub b z)).elim hL hb) hc) (fun b o _ _ hc e n => u.any e n hc) (fun b o hc e n => u.free b o e n hc) (fun b o hc e => u.there b o e hc) u.tups u.frzs u.tbls (fun m' hm => by
    obtain ⟨o', es', ep', ho', r'⟩ := hm
    rw [ho] at ho'; cases ho'
    exact ⟨_, es', ep', hL, r'⟩) hok hg
theorem Inv.turned {t' : Nat} {it : Addr} (I : Inv X pins σ H s) (k : ∀ b o, b ≠ it → s.heap.get? b = some o → h'.get? b = some o) (hn : H it = none) (hL : it ≠ X.env.locals)
    (h1 : it ∈ X.ex ∨ X.s₀.heap.objs.size ≤ it) (h2 : ∀ x c, X.env.cells.lookup x = some c → c ≠ it) (h3 : ∀ p ∈ X.pn ++ pins, p.1 ≠ it) : Inv X pins σ H { s with heap := h', toks := t' } := by
  have nit : ∀ b u, H b = some u → b ≠ it := fun b u e z => by rw [z, hn] at e; cases e
  refine I.step (g' := s.gens) (d' := s.drawn) (ch := [it]) (fun b hb => ?_) (fun b o _ _ hc e _ => k b o (fun z => hc (by simp [z])) e) (fun b o _ _ hc e _ => ⟨o.slots, k b o (fun z => hc (by simp [z])) e⟩) (fun _ _ _ _ n => n)
    (fun b o hc e => ⟨o, k b o (fun z => hc (by simp [z])) e⟩) (fun _ _ e => e) (fun _ _ _ e => e) (fun b ps e => ⟨#[], by rw [e]; simp⟩) (fun m hm => ?_) (fun b u e => ?_) I.bare
  · have e : b = it := by simpa using hb
    subst e
    exact ⟨h1, hL, h2, h3⟩
  · obtain ⟨o, es, ep, ho, r⟩ := hm
    exact ⟨o, es, ep, k _ o (Ne.symm hL) ho, r⟩
  · refine (I.hok b u e).stay (fun c v hc q => k c v ?_ q) (fun _ q => q) fun _ _ q => q
    rcases hc with z | z
    · rw [z]; exact nit b u e
    · exact nit c _ z
theorem Inv.tok (I : Inv X pins σ H s) (t : Nat) : Inv X pins σ H { s with toks := t } := I.un (h' := s.heap) (t' := t) Un.refl I.hok
theorem Inv.kept {t' : Nat} (I : Inv X pins σ H s) (k : ∀ b u, s.heap.get? b = some u → h'.get? b = some u) : Inv X pins σ H { s with heap := h', toks := t' } := I.un (Un.kept k) (I.hok.kept k)
theorem Inv.laid {a : Addr} {o : HO} {t' : Nat} (I : Inv X pins σ H s) (k : ∀ b u, s.heap.get? b = some u → h'.get? b = some u) (hp : s.heap.objs.size ≤ a) (new : ObjOk X.prog X.w (upd H a o) h' a o) :
    Inv X pins σ (upd H a o) { s with heap := h', toks := t' } := I.un (Un.laid k hp (I.hok.fresh hp)) (I.hok.laid k hp new)
theorem Inv.write {x e : Addr} {o : HO} {t' : Nat} (I : Inv X pins σ H s) (mu : Mut (H x)) (he : e = x ∨ H e = some (.own x)) (k : ∀ b u, b ≠ e → s.heap.get? b = some u → h'.get? b = some u) (heo : ∃ u, h'.get? e = some u)
    (new : ObjOk X.prog X.w (upd H x o) h' x o) : Inv X pins σ (upd H x o) { s with heap := h', toks := t' } := I.un (Un.write mu he k heo) (I.hok.write mu he k heo new)
theorem Inv.pins_of {pins' : List (Addr × Obj)} (I : Inv X pins σ H s) (h : ∀ p ∈ pins', s.heap.get? p.1 = some p.2 ∧ H p.1 = none ∧ p.1 ≠ X.env.locals ∧ p.1 ∉ X.fs ∧ ∀ v, p.2.data ≠ .cell v) : Inv X pins' σ H s :=
  ⟨I.ok, I.os, I.bare, I.base, I.loc, I.cell, I.free, I.freeC, fun p hp => (List.mem_append.mp hp).elim (fun z => I.pin p (List.mem_append_left _ z)) (h p), I.hok, I.len⟩
theorem nodup_ix {N : List Str} (hN : N.Nodup) {i j : Nat} {x : Str} (a : N[i]? = some x) (b : N[j]? = some x) : i = j := by
  obtain ⟨h1, e1⟩ := List.getElem?_eq_some_iff.mp a
  obtain ⟨h2, e2⟩ := List.getElem?_eq_some_iff.mp b
  exact (List.getElem_inj hN).mp (e1.trans e2.symm)
theorem store_ok2 {M : Model} {A : Around} {E : Value → Shared → Prop} {i : Nat} {x : Str} {v : V} {u : Value} {Q : Unit → Shared → Prop} (I : Inv X pins σ H s) (hN : X.N.Nodup) (hi : X.N[i]? = some x) (hx : Loc X.env.scope x) (r : RelV v u)
    (h : ∀ s', Inv X pins (σ.set i (some v)) H s' → (∃ a, Heap.SameBut a s.heap s'.heap ∧ (a = X.env.locals ∨ X.env.cells.lookup x = some a)) → Q () s') (hf : X.fn x = true ∨ X.env.scope.names.lookup x = some .local := by first | exact .inl rfl | exact .inr rfl | assumption) : wpAny M A (storeName X.env x u) Q E s := by
  obtain ⟨m, hn, hl⟩ := id I.loc
  have hcls : (X.env.scope.kind == .class || (X.env.scope.kind == .module && X.env.locals != X.env.globals)) = false := by rw [I.ok.kind]; rfl
  have hiσ : i < σ.length := by rw [I.len]; exact (List.getElem?_eq_some_iff.mp hi).1
  have cne := I.cne
  have tracked : ∀ {a : Addr} {h' : Heap}, (∃ o, s.heap.get? a = some o ∧ H a = none) → Heap.SameBut a s.heap h' → HOk X.prog X.w H h' := fun {a h'} ha hs b ob e => by
    obtain ⟨_, _, hfree⟩ := ha
    refine (I.hok b ob e).stay (fun c w' hc q => (hs.2 c ?_).trans q) (fun _ q => q) fun _ _ q => q
    rintro rfl
    rcases hc with rfl | hc
    · rw [hfree] at e; cases e
    · rw [hfree] at hc; cases hc
  rcases hx with hk | hk
  · refine wpAny_storeName_local hk hn (fun h' hn' hs => ?_) hcls
    obtain ⟨oL, _, _, hoL, _⟩ := id hn
    refine h _ ⟨I.ok, I.os, I.bare, ⟨fun b o e n hb hx => ?_, fun b o e n hb hx => ?_, I.base.free, fun b o e hx => ?_, I.base.tups, I.base.frzs, I.base.tbls⟩, ⟨_, hn', fun j y v' e1 e2 e3 => ?_⟩, fun y c e => ?_, I.free, I.freeC, fun p hp => ?_, tracked ⟨oL, hoL, I.free⟩ hs, by simpa using I.len⟩ ⟨_, hs, .inl rfl⟩
    · exact (hs.2 b (Nat.ne_of_lt (Nat.lt_of_lt_of_le (Heap.lt_size e) I.ok.above))).trans (I.base.keep b o e n hb hx)
    · obtain ⟨sl, e1⟩ := I.base.slot b o e n hb hx
      exact ⟨sl, (hs.2 b (Nat.ne_of_lt (Nat.lt_of_lt_of_le (Heap.lt_size e) I.ok.above))).trans e1⟩
    · obtain ⟨o', e1⟩ := I.base.there b o e hx
      exact ⟨o', (hs.2 b (Nat.ne_of_lt (Nat.lt_of_lt_of_le (Heap.lt_size e) I.ok.above))).trans e1⟩
    · by_cases hj : j = i
      · subst hj
        rw [hi] at e1; cases e1
        rw [List.getElem?_set_self hiσ] at e2
        cases e2
        exact ⟨u, r, .inl ⟨hk, by simp⟩⟩
      · rw [List.getElem?_set_ne (Ne.symm hj)] at e2
        obtain ⟨u', r', q⟩ := hl j y v' e1 e2 e3
        refine ⟨u', r', ?_⟩
        rcases q with ⟨k, e⟩ | ⟨k, c, e, z⟩
        · refine .inl ⟨k, ?_⟩
          have : y ≠ x := fun e => hj (nodup_ix hN e1 (e ▸ hi))
          simp [this, e]
        · exact .inr ⟨k, c, e, z.sameBut hs (cne y c e)⟩
    · obtain ⟨w', z⟩ := I.cell y c e
      exact ⟨w', z.sameBut hs (cne y c e)⟩
    · obtain ⟨e, n, ne, nf, d⟩ := I.pin p hp
      exact ⟨(hs.2 p.1 ne).trans e, n, ne, nf, d⟩
  · have hfn : X.fn x = true := by
      rcases hf with z | z
      · exact z
      · rw [z] at hk; cases hk
    obtain ⟨c, hc⟩ := I.ok.has x (.inl hk)
    obtain ⟨w', z⟩ := I.cell x c hc
    refine wpAny_storeName_cell I.ok.kind hk hc z (fun h' hc' hs => ?_)
    obtain ⟨oc, hoc, hocd⟩ := id z
    refine h { s with heap := h' } ⟨I.ok, I.os, I.bare, ⟨fun b o e n hb hx => ?_, fun b o e n hb hx => ?_, I.base.free, fun b o e hx => ?_, I.base.tups, I.base.frzs, I.base.tbls⟩, ⟨m, hn.sameBut hs (Ne.symm (cne x c hc)), fun j y v' e1 e2 e3 => ?_⟩, fun y c' e => ?_, I.free, I.freeC, fun p hp => ?_, tracked ⟨oc, hoc, I.freeC x c hc⟩ hs, by simpa using I.len⟩ ⟨c, hs, .inr hc⟩
    · exact (hs.2 b (Nat.ne_of_lt (Nat.lt_of_lt_of_le (Heap.lt_size e) (I.ok.cab x c hfn hc)))).trans (I.base.keep b o e n hb hx)
    · obtain ⟨sl, e1⟩ := I.base.slot b o e n hb hx
      exact ⟨sl, (hs.2 b (Nat.ne_of_lt (Nat.lt_of_lt_of_le (Heap.lt_size e) (I.ok.cab x c hfn hc)))).trans e1⟩
    · obtain ⟨o', e1⟩ := I.base.there b o e hx
      exact ⟨o', (hs.2 b (Nat.ne_of_lt (Nat.lt_of_lt_of_le (Heap.lt_size e) (I.ok.cab x c hfn hc)))).trans e1⟩
    · by_cases hj : j = i
      · subst hj
        rw [hi] at e1; cases e1
        rw [List.getElem?_set_self hiσ] at e2
        cases e2
        exact ⟨u, r, .inr ⟨.inl hk, c, hc, hc'⟩⟩
      · rw [List.getElem?_set_ne (Ne.symm hj)] at e2
        obtain ⟨u', r', q⟩ := hl j y v' e1 e2 e3
        refine ⟨u', r', ?_⟩
        rcases q with q | ⟨k, c', e, z'⟩
        · exact .inl q
        · refine .inr ⟨k, c', e, z'.sameBut hs ?_⟩
          rintro rfl
          exact hj (nodup_ix hN e1 (I.ok.inj _ _ _ e hc ▸ hi))
    · by_cases hcc : c' = c
      · subst hcc; exact ⟨_, hc'⟩
      · obtain ⟨w2, z2⟩ := I.cell y c' e
        exact ⟨w2, z2.sameBut hs hcc⟩
    · obtain ⟨e, n, ne, nf, d⟩ := I.pin p hp
      refine ⟨(hs.2 p.1 ?_).trans e, n, ne, nf, d⟩
      intro q
      rw [q, hoc] at e
      have q' : oc = p.2 := Option.some.inj e
      exact d w' (by rw [← q']; exact hocd)
theorem store_ok {M : Model} {A : Around} {E : Value → Shared → Prop} {i : Nat} {x : Str} {v : V} {u : Value} {Q : Unit → Shared → Prop} (I : Inv X pins σ H s) (hN : X.N.Nodup) (hi : X.N[i]? = some x) (hx : Loc X.env.scope x) (r : RelV v u)
    (h : ∀ s', Inv X pins (σ.set i (some v)) H s' → Q () s') (hf : X.fn x = true ∨ X.env.scope.names.lookup x = some .local := by first | exact .inl rfl | exact .inr rfl | assumption) : wpAny M A (storeName X.env x u) Q E s :=
  store_ok2 I hN hi hx r (fun s' I' _ => h s' I') hf
theorem Inv.call' {s' : Shared} {ch : List Addr} (I : Inv X pins σ H s) (ho : s'.os = s.os) (u : Un (frs X.stack) ch H H' s.heap s'.heap) (hok : HOk X.prog X.w H' s'.heap) (hg : AllBare s'.gens)
    (hch : ∀ b ∈ ch, (b ∈ X.ex ∨ X.s₀.heap.objs.size ≤ b) ∧ b ≠ X.env.locals ∧ (∀ x c, X.env.cells.lookup x = some c → c ≠ b) ∧ ∀ p ∈ X.pn ++ pins, p.1 ≠ b) : Inv X pins σ H' s' := by
  obtain ⟨h', g', d', t', o'⟩ := s'
  have e : o' = s.os := ho
  subst e
  exact I.call (g' := g') (t' := t') (d' := d') u hok hg hch
end
abbrev XK := Value → Option Addr → Hp → Prop
abbrev St := List (Option V)
abbrev VK := V → Hp → Prop
abbrev TE := St → Hp → VK → Prop
abbrev TT := St → Hp → (Bool → Hp → Prop) → Prop
abbrev TA := St → Hp → (List V → Hp → Prop) → Prop
structure Ends where
  nx : St → Hp → Prop
  rt : VK
  bk : St → Hp → Prop := fun _ _ => False
  ct : St → Hp → Prop := fun _ _ => False
abbrev TS := Ends → St → Hp → Prop
def EP (X : Cx) (pins : List (Addr × Obj)) (σ : St) (Q : VK) (u : Value) (s' : Shared) : Prop := ∃ v H', Inv X pins σ H' s' ∧ RelV v u ∧ Q v H'
def TP (X : Cx) (pins : List (Addr × Obj)) (σ : St) (Q : Bool → Hp → Prop) (b : Bool) (s' : Shared) : Prop := ∃ H', Inv X pins σ H' s' ∧ Q b H'
def AP (X : Cx) (pins : List (Addr × Obj)) (σ : St) (Q : List V → Hp → Prop) (us : List Value) (s' : Shared) : Prop := ∃ vs H', Inv X pins σ H' s' ∧ Vals vs us ∧ Q vs H'
def SP (X : Cx) (pins : List (Addr × Obj)) (D : Ends) (f : Flow) (s' : Shared) : Prop :=
  match f with
  | .next => ∃ σ' H', Inv X pins σ' H' s' ∧ D.nx σ' H'
  | .brk => ∃ σ' H', Inv X pins σ' H' s' ∧ D.bk σ' H'
  | .cont => ∃ σ' H', Inv X pins σ' H' s' ∧ D.ct σ' H'
  | .ret u => ∃ v σ' H', Inv X pins σ' H' s' ∧ RelV v u ∧ D.rt v H'
def PE (X : Cx) (e : Expr) (t : TE) : Prop :=
  ∀ (pins : List (Addr × Obj)) (s : Shared) (σ : St) (H : Hp) (Q : VK), Inv X pins σ H s → t σ H Q → wpAny (model X.prog X.w) X.A (eval e X.env) (EP X pins σ Q) X.xe s
def PT (X : Cx) (e : Expr) (t : TT) : Prop :=
  ∀ (pins : List (Addr × Obj)) (s : Shared) (σ : St) (H : Hp) (Q : Bool → Hp → Prop), Inv X pins σ H s → t σ H Q → wpAny (model X.prog X.w) X.A (isTrue e X.env (eval e X.env)) (TP X pins σ Q) X.xe s
def PW (X : Cx) (e : Expr) (t : TT) : Prop :=
  ∀ (whole : Sem Value) (pins : List (Addr × Obj)) (s : Shared) (σ : St) (H : Hp) (Q : Bool → Hp → Prop), Inv X pins σ H s → t σ H Q → wpAny (model X.prog X.w) X.A (isTrue e X.env whole) (TP X pins σ Q) X.xe s
def PA (X : Cx) (es : List Expr) (t : TA) : Prop :=
  ∀ (pos : Pos) (pins : List (Addr × Obj)) (s : Shared) (σ : St) (H : Hp) (Q : List V → Hp → Prop), Inv X pins σ H s → t σ H Q → wpAny (model X.prog X.w) X.A (spliced (backTo pos (starEach es X.env))) (AP X pins σ Q) X.xe s
def PS (X : Cx) (st : Stmt) (t : TS) : Prop :=
  ∀ (pins : List (Addr × Obj)) (s : Shared) (σ : St) (H : Hp) (D : Ends), Inv X pins σ H s → t D σ H → wpAny (model X.prog X.w) X.A (exec st X.env) (SP X pins D) X.xe s
def PSs (X : Cx) (st : List Stmt) (t : TS) : Prop :=
  ∀ (pins : List (Addr × Obj)) (s : Shared) (σ : St) (H : Hp) (D : Ends), Inv X pins σ H s → t D σ H → wpAny (model X.prog X.w) X.A (execs st X.env) (SP X pins D) X.xe s
theorem thn {α : Type} {t : Sem α} {Q Q' : α → Shared → Prop} {M : Model} {A : Around} {E : Value → Shared → Prop} {s : Shared} (h : wpAny M A t Q E s) (hQ : ∀ a s, Q a s → Q' a s) : wpAny M A t Q' E s := wpAny_mono h hQ fun _ _ x => x
end L2
namespace L2
open PySem PySem.Spec PyProof.Rows
section
variable {X : Cx}
def tVar (i : Nat) : TE := fun σ H Q => ∃ v, σ[i]? = some (some v) ∧ Q v H
def tC (v : V) : TE := fun _ H Q => Q v H
theorem pe_var {i : Nat} {x : Str} {pos : Pos} (hN : X.N[i]? = some x) (hv : Vis X.env.scope x) (hd : (x == ("__debug__" : Str)) = false := by decide) (hcd : (x == ("__classdict__" : Str)) = false := by decide) : PE X (.Name x pos) (tVar i) := by
  intro pins s σ H Q I h
  obtain ⟨v, e, h⟩ := h
  obtain ⟨m, hn, hl⟩ := I.loc
  obtain ⟨u, r, l⟩ := hl i x v hN e hv
  have fin : EP X pins σ Q u s := ⟨v, H, I, r, h⟩
  rcases l with ⟨hk, hm⟩ | ⟨hk, c, hc, hcell⟩
  · exact wpAny_Name (wpAny_loadName_local I.ok.kind hk hn hm fin) hd
  · rcases hk with hk | hk
    · exact wpAny_Name (wpAny_loadName_cell I.ok.kind hk hc hcell fin) hd
    · exact wpAny_Name (wpAny_loadName_free I.ok.kind hk hc hcell fin hcd) hd
theorem pe_int {i j pos} : PE X (.Constant (.int i) j pos) (tC (.int i)) := fun _ _ _ H _ I h => wpAny_Constant_int ⟨.int i, H, I.tok _, ⟨_, rfl⟩, h⟩
theorem pe_bl {b j pos} : PE X (.Constant (.bool b) j pos) (tC (.bl b)) := fun _ _ _ H _ I h => Constant_bool ⟨.bl b, H, I, rfl, h⟩
theorem pe_non {j pos} : PE X (.Constant .none j pos) (tC .non) := fun _ _ _ H _ I h => Constant_none ⟨.non, H, I, rfl, h⟩
theorem pe_str {x j pos} : PE X (.Constant (.str x) j pos) (tC (.str x)) := fun _ _ _ H _ I h => Calls.Constant_str ⟨.str x, H, I.tok _, ⟨_, rfl⟩, h⟩
def Gl (X : Cx) (x : Str) : Prop := X.env.kindOf x = some .globalImplicit
theorem ld_glob {E : Value → Shared → Prop} {pins : List (Addr × Obj)} {s : Shared} {σ : St} {H : Hp} {x : Str} {u : Value} {pos : Pos} {Q : Value → Shared → Prop} (I : Inv X pins σ H s) (hg : Gl X x) (hm : X.mg x = some u) (h : Q u s)
    (hd : (x == ("__debug__" : Str)) = false := by decide) : wpAny (model X.prog X.w) X.A (eval (.Name x pos) X.env) Q E s :=
  Calls.Name_function_global I.ok.kind hg (Calls.loadGlobal_global (by rw [I.ok.glob]; exact I.mod.glob.keeps I.bk) hm h) hd
theorem ld_blt {E : Value → Shared → Prop} {pins : List (Addr × Obj)} {s : Shared} {σ : St} {H : Hp} {x : Str} {u : Value} {pos : Pos} {Q : Value → Shared → Prop} (I : Inv X pins σ H s) (hg : Gl X x) (hm : X.mg x = none) (hv : bootBuiltins x = some u) (h : Q u s)
    (hn : x ≠ "__name__" := by decide) (hd : (x == ("__debug__" : Str)) = false := by decide) : wpAny (model X.prog X.w) X.A (eval (.Name x pos) X.env) Q E s := by
  obtain ⟨mb, h1, h2⟩ := I.mod.blt
  exact Calls.Name_function_global I.ok.kind hg (Calls.loadGlobal_builtin (by rw [I.ok.glob]; exact I.mod.glob.keeps I.bk) hm (by rw [I.ok.blt]; exact h1.keeps I.bk) ((h2 x hn).trans hv) h) hd
theorem pe_glob {x : Str} {v : V} {u : Value} {pos : Pos} (hg : Gl X x) (hm : X.mg x = some u) (r : RelV v u) (hd : (x == ("__debug__" : Str)) = false := by decide) : PE X (.Name x pos) (tC v) :=
  fun _ _ _ H _ I h => ld_glob I hg hm ⟨v, H, I, r, h⟩ hd
theorem pe_bltn {x : Str} {v : V} {u : Value} {pos : Pos} (hg : Gl X x) (hm : X.mg x = none) (hv : bootBuiltins x = some u) (r : RelV v u) (hn : x ≠ "__name__" := by decide) (hd : (x == ("__debug__" : Str)) = false := by decide) : PE X (.Name x pos) (tC v) :=
  fun _ _ _ H _ I h => ld_blt I hg hm hv ⟨v, H, I, r, h⟩ hn hd
variable {a b : Expr} {ta tb : TE} {pos : Pos}
variable {tA tB' : TT} {rest : List Expr}
def tAnd (t u : TT) : TT := fun σ H Q => t σ H fun c H1 => if c = true then u σ H1 Q else Q false H1
def tOr (t u : TT) : TT := fun σ H Q => t σ H fun c H1 => if c = true then Q true H1 else u σ H1 Q
def tNot (t : TT) : TT := fun σ H Q => t σ H fun c H1 => Q (!c) H1
theorem pw_and1 (ha : PT X a tA) : PW X (.BoolOp .And [a] pos) tA := by
  intro wh pins s σ H Q I h
  refine isTrue_and (thn (ha pins s σ H Q I h) fun c s1 e => ?_)
  cases c with
  | true => exact isTrue_and_nil e
  | false => exact e
theorem pw_or1 (ha : PT X a tA) : PW X (.BoolOp .Or [a] pos) tA := by
  intro wh pins s σ H Q I h
  refine isTrue_or (thn (ha pins s σ H Q I h) fun c s1 e => ?_)
  cases c with
  | false => exact isTrue_or_nil e
  | true => exact e
theorem pw_and (ha : PT X a tA) (hb : PW X (.BoolOp .And (b :: rest) pos) tB') : PW X (.BoolOp .And (a :: b :: rest) pos) (tAnd tA tB') := by
  intro wh pins s σ H Q I h
  refine isTrue_and (thn (ha pins s σ H _ I h) fun c s1 ⟨H1, I1, q1⟩ => ?_)
  cases c with
  | true => exact hb wh pins s1 σ H1 Q I1 q1
  | false => exact ⟨H1, I1, q1⟩
theorem pw_or (ha : PT X a tA) (hb : PW X (.BoolOp .Or (b :: rest) pos) tB') : PW X (.BoolOp .Or (a :: b :: rest) pos) (tOr tA tB') := by
  intro wh pins s σ H Q I h
  refine isTrue_or (thn (ha pins s σ H _ I h) fun c s1 ⟨H1, I1, q1⟩ => ?_)
  cases c with
  | true => exact ⟨H1, I1, q1⟩
  | false => exact hb wh pins s1 σ H1 Q I1 q1
theorem pt_not (ha : PT X a tA) : PT X (.UnaryOp .Not a pos) (tNot tA) := by
  intro pins s σ H Q I h
  exact isTrue_not (ha pins s σ H (fun c H1 => Q (!c) H1) I h)
def tAndV (ta tb : TE) : TE := fun σ H Q => ta σ H fun x H1 => ∃ c, x = .bl c ∧ if c = true then tb σ H1 Q else Q (.bl false) H1
def tOrV (ta tb : TE) : TE := fun σ H Q => ta σ H fun x H1 => ∃ c, x = .bl c ∧ if c = true then Q (.bl true) H1 else tb σ H1 Q
def tNotV (ta : TE) : TE := fun σ H Q => ta σ H fun x H1 => ∃ c, x = .bl c ∧ Q (.bl (!c)) H1
theorem pe_one {op} {t : TE} (h : PE X a t) : PE X (.BoolOp op [a] pos) t := fun pins s σ H Q I hw => BoolOp_one (h pins s σ H Q I hw)
theorem pe_and (ha : PE X a ta) (hb : PE X (.BoolOp .And (b :: rest) pos) tb) : PE X (.BoolOp .And (a :: b :: rest) pos) (tAndV ta tb) := by
  intro pins s σ H Q I h
  refine BoolOp_and (thn (ha pins s σ H _ I h) fun v s1 ⟨x, H1, I1, r1, q1⟩ => ?_)
  obtain ⟨c, rfl, q1⟩ := q1
  cases r1
  refine wpAny_truthy_bool ?_
  cases c with
  | true => exact hb pins s1 σ H1 Q I1 q1
  | false => exact ⟨.bl false, H1, I1, rfl, q1⟩
theorem pe_or (ha : PE X a ta) (hb : PE X (.BoolOp .Or (b :: rest) pos) tb) : PE X (.BoolOp .Or (a :: b :: rest) pos) (tOrV ta tb) := by
  intro pins s σ H Q I h
  refine BoolOp_or (thn (ha pins s σ H _ I h) fun v s1 ⟨x, H1, I1, r1, q1⟩ => ?_)
  obtain ⟨c, rfl, q1⟩ := q1
  cases r1
  refine wpAny_truthy_bool ?_
  cases c with
  | false => exact hb pins s1 σ H1 Q I1 q1
  | true => exact ⟨.bl true, H1, I1, rfl, q1⟩
theorem pe_not (ha : PE X a ta) : PE X (.UnaryOp .Not a pos) (tNotV ta) := by
  intro pins s σ H Q I h
  refine UnaryOp_ (thn (ha pins s σ H _ I h) fun v s1 ⟨x, H1, I1, r1, q1⟩ => ?_)
  obtain ⟨c, rfl, q1⟩ := q1
  cases r1
  exact not_of (wpAny_truthy_bool ⟨.bl (!c), H1, I1, rfl, q1⟩)
def tIf (t : TT) (ta tb : TE) : TE := fun σ H Q => t σ H fun c H1 => if c = true then ta σ H1 Q else tb σ H1 Q
theorem pe_ifExp {c : Expr} (hc : PT X c tA) (ha : PE X a ta) (hb : PE X b tb) : PE X (.IfExp c a b pos) (tIf tA ta tb) := by
  intro pins s σ H Q I h
  refine wpAny_IfExp (thn (hc pins s σ H _ I h) fun d s1 ⟨H1, I1, q1⟩ => ?_)
  cases d with
  | true => exact ha pins s1 σ H1 Q I1 q1
  | false => exact hb pins s1 σ H1 Q I1 q1
end
end L2
namespace L2
open PySem PySem.Spec PyProof.Rows
def SqL (K : PySem.W.Frag) (H : Hp) (a : Addr) (xs : List V) : Prop :=
  Rd H a (.lst xs) ∨
    ∃ (o : Obj) (its : Array Value) (n : Nat), K.lookup a = some o ∧ o.cls = .type "list" ∧ o.dict = none ∧ o.data = .seq its n ∧ its.size ≤ sizeLine ∧ Vals xs its.toList
def SqT (K : PySem.W.Frag) (H : Hp) (a : Addr) (xs : List V) : Prop :=
  Rd H a (.tup xs) ∨
    ∃ (o : Obj) (its : Array Value) (n : Nat), K.lookup a = some o ∧ o.cls = .type "tuple" ∧ o.data = .seq its n ∧ its.size ≤ sizeLine ∧ Vals xs its.toList
def absV : Value → Option V
  | .none => some .non
  | .bool b => some (.bl b)
  | .int i _ => some (.int i)
  | .str x _ => some (.str x)
  | .bytes b _ => some (.byt b)
  | .float b _ => some (.flt b)
  | .ref a => some (.ref a)
  | .type n => some (.ty n)
  | _ => none
theorem RelV.abs {x : V} {u : Value} (r : RelV x u) : absV u = some x := by
  cases x with
  | non => cases r; rfl
  | bl _ => cases r; rfl
  | int _ => obtain ⟨t, rfl⟩ := r; rfl
  | str _ => obtain ⟨t, rfl⟩ := r; rfl
  | byt _ => obtain ⟨t, rfl⟩ := r; rfl
  | flt _ => obtain ⟨t, rfl⟩ := r; rfl
  | ref _ => cases r; rfl
  | ty _ => cases r; rfl
theorem RelV.inj {x y : V} {u : Value} (r : RelV x u) (q : RelV y u) : x = y := Option.some.inj (r.abs.symm.trans q.abs)
theorem Vals.inj : ∀ {xs ys : List V} {us : List Value}, Vals xs us → Vals ys us → xs = ys
  | _, _, _, .nil, .nil => rfl
  | _, _, _, .cons r t, .cons r' t' => by rw [r.inj r', Vals.inj t t']
section
variable {X : Cx} {pins : List (Addr × Obj)} {σ : St} {H : Hp} {s : Shared} {a : Addr} {xs ys : List V}
theorem SqL.of {K : PySem.W.Frag} (h : H a = some (.lst xs)) : SqL K H a xs := .inl (.inl h)
theorem SqT.of {K : PySem.W.Frag} (h : H a = some (.tup xs)) : SqT K H a xs := .inl (.inl h)
theorem Inv.list (I : Inv X pins σ H s) (h : SqL X.K H a xs) : ∃ its : List Value, Vals xs its ∧ PlainL s.heap a its.toArray ∧ xs.length ≤ sizeLine := by
  rcases h with h | ⟨o, its, n, hk, hc, hd, hs, hz, r⟩
  · obtain ⟨z, its, n, r, e⟩ := h.ok I.hok
    exact ⟨its, r, ⟨_, n, e, rfl, rfl, rfl⟩, z⟩
  · refine ⟨its.toList, r, ⟨o, n, I.kIn a o hk, hc, hd, by simpa using hs⟩, ?_⟩
    have e := r.length
    simp only [Array.length_toList] at e
    omega
theorem Inv.tuple (I : Inv X pins σ H s) (h : SqT X.K H a xs) : ∃ its : List Value, Vals xs its ∧ IsTup s.heap a its.toArray ∧ xs.length ≤ sizeLine := by
  rcases h with h | ⟨o, its, n, hk, hc, hs, hz, r⟩
  · obtain ⟨z, its, r, p, _⟩ := h.ok I.hok
    exact ⟨its, r, p, z⟩
  · refine ⟨its.toList, r, ⟨o, I.kIn a o hk, hc, n, by simpa using hs⟩, ?_⟩
    have e := r.length
    simp only [Array.length_toList] at e
    omega
theorem Inv.list_inj (I : Inv X pins σ H s) (h : SqL X.K H a xs) (h' : SqL X.K H a ys) : xs = ys := by
  obtain ⟨its, r, ⟨o, n, e, _, _, d⟩, _⟩ := I.list h
  obtain ⟨its', r', ⟨o', n', e', _, _, d'⟩, _⟩ := I.list h'
  rw [e] at e'; cases e'
  rw [d] at d'
  injection d' with d1 _
  have : its = its' := by simpa using congrArg Array.toList d1
  subst this
  exact r.inj r'
theorem Inv.tuple_inj (I : Inv X pins σ H s) (h : SqT X.K H a xs) (h' : SqT X.K H a ys) : xs = ys := by
  obtain ⟨its, r, ⟨o, e, _, n, d⟩, _⟩ := I.tuple h
  obtain ⟨its', r', ⟨o', e', _, n', d'⟩, _⟩ := I.tuple h'
  rw [e] at e'; cases e'
  rw [d] at d'
  injection d' with d1 _
  have : its = its' := by simpa using congrArg Array.toList d1
  subst this
  exact r.inj r'
end
abbrev Cx.wish (X : Cx) (E : Value → Shared → Prop) : Cx := { X with xe := E }
abbrev Cx.nox (X : Cx) : Cx := X.wish fun _ _ => False
section
variable {X : Cx} {pins : List (Addr × Obj)} {σ : St} {H : Hp} {s : Shared} {E : Value → Shared → Prop}
end
section
variable {X : Cx} {st : Stmt} {rest : List Stmt} {t u : TS} {e : Expr} {te : TE} {pos : Pos}
def tNext : TS := fun D σ H => D.nx σ H
def tSeq (t u : TS) : TS := fun D σ H => t { D with nx := u D } σ H
theorem pss_nil : PSs X [] tNext := fun _ _ σ H _ I h => wpAny_execs_nil ⟨σ, H, I, h⟩
theorem pss_cons (h1 : PS X st t) (h2 : PSs X rest u) : PSs X (st :: rest) (tSeq t u) := by
  intro pins s σ H D I h
  refine wpAny_execs_cons (thn (h1 pins s σ H { D with nx := u D } I h) fun f s1 q => ?_)
  cases f with
  | next =>
    obtain ⟨σ', H', I', q⟩ := q
    exact h2 pins s1 σ' H' D I' q
  | ret v => exact q
  | brk => exact q
  | cont => exact q
theorem pss_one (h1 : PS X st t) : PSs X [st] t := by
  intro pins s σ H D I h
  refine wpAny_execs_cons (thn (h1 pins s σ H D I h) fun f s1 q => ?_)
  cases f with
  | next => exact wpAny_execs_nil q
  | ret v => exact q
  | brk => exact q
  | cont => exact q
theorem Inv.quiet {pins : List (Addr × Obj)} {σ : St} {H : Hp} {s : Shared} (I : Inv X pins σ H s) : interactive X.env = false := by simp [interactive, I.ok.kind]
def tDrop (te : TE) : TS := fun D σ H => te σ H fun _ H1 => D.nx σ H1
theorem ps_expr (he : PE X e te) (hs : swapsWith e none pos.line X.env = pure false := by rfl) : PS X (.Expr e pos) (tDrop te) := by
  intro pins s σ H D I h
  exact wpAny_Expr_any (thn (he pins s σ H _ I h) fun v s1 ⟨x, H1, I1, r1, q1⟩ => ⟨σ, H1, I1, q1⟩) I.quiet hs
def tRet (te : TE) : TS := fun D σ H => te σ H D.rt
theorem ps_ret (he : PE X e te) : PS X (.Return (some e) pos) (tRet te) := by
  intro pins s σ H D I h
  exact wpAny_Return_some (thn (he pins s σ H _ I h) fun v s1 ⟨x, H1, I1, r1, q1⟩ => ⟨x, σ, H1, I1, r1, q1⟩)
def tRetN : TS := fun D _ H => D.rt .non H
theorem ps_retN : PS X (.Return none pos) tRetN := fun _ _ σ H _ I h => wpAny_Return_none ⟨.non, σ, H, I, rfl, h⟩
def tIfS (c : TT) (t u : TS) : TS := fun D σ H => c σ H fun b H1 => if b = true then t D σ H1 else u D σ H1
theorem ps_if {c : Expr} {a b : List Stmt} {tc : TT} (hc : PT X c tc) (ha : PSs X a t) (hb : PSs X b u) : PS X (.If c a b pos) (tIfS tc t u) := by
  intro pins s σ H D I h
  refine wpAny_If (thn (hc pins s σ H _ I h) fun d s1 ⟨H1, I1, q1⟩ => ?_)
  cases d with
  | true => exact ha pins s1 σ H1 D I1 q1
  | false => exact hb pins s1 σ H1 D I1 q1
def tNever : TS := fun _ _ _ => False
theorem ps_never : PS X st tNever := fun _ _ _ _ _ _ h => h.elim
theorem pss_never {sts : List Stmt} : PSs X sts tNever := fun _ _ _ _ _ _ h => h.elim
end
abbrev TG := V → St → Hp → (St → Hp → Prop) → Prop
abbrev TGs := List V → St → Hp → (St → Hp → Prop) → Prop
def PG (X : Cx) (target : Expr) (t : TG) : Prop :=
  ∀ (pins : List (Addr × Obj)) (s : Shared) (σ : St) (H : Hp) (v : V) (u : Value) (Q : St → Hp → Prop), Inv X pins σ H s → RelV v u → t v σ H Q →
    wpAny (model X.prog X.w) X.A (assign target X.env u) (fun _ s' => ∃ σ' H', Inv X pins σ' H' s' ∧ Q σ' H') X.xe s
def PGs (X : Cx) (ts : List Expr) (t : TGs) : Prop :=
  ∀ (pins : List (Addr × Obj)) (s : Shared) (σ : St) (H : Hp) (vs : List V) (us : List Value) (Q : St → Hp → Prop), Inv X pins σ H s → Vals vs us → t vs σ H Q →
    wpAny (model X.prog X.w) X.A (assignInOrder ((assignEach ts X.env).map (·.2)) us) (fun _ s' => ∃ σ' H', Inv X pins σ' H' s' ∧ Q σ' H') X.xe s
abbrev TSet := V → V → V → Hp → (Hp → Prop) → Prop
def PSet (X : Cx) (t : TSet) : Prop :=
  ∀ (pins : List (Addr × Obj)) (s : Shared) (σ : St) (H : Hp) (o i v : V) (ov iv u : Value) (Q : Hp → Prop), Inv X pins σ H s → RelV o ov → RelV i iv → RelV v u → t o i v H Q →
    wpAny (model X.prog X.w) X.A (setItem ov iv u) (fun _ s' => ∃ H', Inv X pins σ H' s' ∧ Q H') X.xe s
section
variable {X : Cx} {pos : Pos}
def gName (i : Nat) : TG := fun v σ H Q => Q (σ.set i (some v)) H
theorem pg_name {i : Nat} {x : Str} (hN : X.N.Nodup) (hi : X.N[i]? = some x) (hx : Loc X.env.scope x) (hf : X.fn x = true ∨ X.env.scope.names.lookup x = some .local := by first | exact .inl rfl | exact .inr rfl | assumption) : PG X (.Name x pos) (gName i) := by
  intro pins s σ H v u Q I r h
  exact wpAny_assign_Name (store_ok I hN hi hx r (fun s' I' => ⟨_, H, I', h⟩) hf)
def gNil : TGs := fun vs σ H Q => vs = [] ∧ Q σ H
def gCons (t : TG) (u : TGs) : TGs := fun vs σ H Q => ∃ v r, vs = v :: r ∧ t v σ H fun σ' H' => u r σ' H' Q
theorem pgs_nil : PGs X [] gNil := by
  intro pins s σ H vs us Q I r h
  obtain ⟨e, h⟩ := h
  subst e
  cases r
  exact assignInOrder_nil ⟨σ, H, I, h⟩
theorem pgs_cons {e : Expr} {es : List Expr} {t : TG} {u : TGs} (h1 : PG X e t) (h2 : PGs X es u)
    (hs : (assignEach (e :: es) X.env).map (·.2) = assign e X.env :: (assignEach es X.env).map (·.2) := by rfl) : PGs X (e :: es) (gCons t u) := by
  intro pins s σ H vs us Q I r h
  obtain ⟨v, vr, e1, h⟩ := h
  subst e1
  cases r with
  | cons r rr =>
    rw [hs]
    refine assignInOrder_cons (thn (h1 pins s σ H _ _ _ I r h) fun _ s1 ⟨σ1, H1, I1, q1⟩ => ?_)
    exact h2 pins s1 σ1 H1 _ _ Q I1 rr q1
def gTup (K : PySem.W.Frag) (n : Nat) (t : TGs) : TG := fun v σ H Q => ∃ a xs, v = .ref a ∧ SqT K H a xs ∧ xs.length = n ∧ t xs σ H Q
theorem pg_tup {es : List Expr} {k : Nat} {t : TGs} {n : Nat} (hc : X.calm = true) (h : PGs X es t)
    (hn : (assignEach es X.env).length = n := by rfl) (hst : (assignEach es X.env).findIdx? (·.1) = none := by rfl) : PG X (.Tuple es k pos) (gTup X.K n t) := by
  intro pins s σ H v u Q I r hw
  obtain ⟨a, xs, e1, hq, hl, hw⟩ := hw
  subst e1
  cases r
  obtain ⟨its, rv, ht, hz⟩ := I.tuple hq
  refine assign_Tuple_tuple (I.ok.hd hc) ht (by simp [hn, ← hl, rv.length]) hst fun h' hx => ?_
  have I1 : Inv X pins σ H { s with heap := h' } := I.kept (t' := s.toks) fun b o e => hx b o (Nat.ne_of_lt (Heap.lt_size e)) e
  exact h pins _ σ H xs _ Q I1 (by simpa using rv) hw
def gSub (to ti : TE) (t : TSet) : TG := fun v σ H Q => to σ H fun o H1 => ti σ H1 fun i H2 => t o i v H2 fun H3 => Q σ H3
theorem pg_sub {o i : Expr} {to ti : TE} {t : TSet} (ho : PE X o to) (hi : PE X i ti) (hs : PSet X t)
    (ha : ∀ v, assign (.Subscript o i pos) X.env v = (do
      let ov ← holding [v] (eval o X.env)
      let iv ← holding [v, ov] (eval i X.env)
      standAt pos
      holding [v, ov, iv] (setItem ov iv v)
      release [v, ov, iv] []) := by intro _; rfl) : PG X (.Subscript o i pos) (gSub to ti t) := by
  intro pins s σ H v u Q I r h
  rw [ha]
  refine wpAny_bind (wpAny_holding (thn (ho pins s σ H _ I h) fun ov s1 ⟨x, H1, I1, r1, q1⟩ => ?_))
  refine wpAny_bind (wpAny_holding (thn (hi pins s1 σ H1 _ I1 q1) fun iv s2 ⟨y, H2, I2, r2, q2⟩ => ?_))
  refine wpAny_bind (wpAny_standAt (wpAny_bind (wpAny_holding (thn (hs pins s2 σ H2 x y v ov iv u _ I2 r1 r2 r q2) fun _ s3 ⟨H3, I3, q3⟩ => ?_))))
  exact wpAny_release ⟨σ, H3, I3, q3⟩
def tAsg (te : TE) (g : TG) : TS := fun D σ H => te σ H fun x H1 => g x σ H1 D.nx
theorem ps_asg {tg e : Expr} {te : TE} {g : TG} (he : PE X e te) (hg : PG X tg g) (hs : swapsWithSole [tg] e pos.line X.env = pure false := by rfl) (hw : swappedStores [tg] e X.env = pure none := by rfl)
    (h1 : (assignEach [tg] X.env).map (·.2) = [assign tg X.env] := by rfl) : PS X (.Assign [tg] e pos) (tAsg te g) := by
  intro pins s σ H D I h
  refine wpAny_Assign_stores (thn (he pins s σ H _ I h) fun v s1 ⟨x, H1, I1, r1, q1⟩ => ?_) hs hw
  rw [h1]
  exact thn (hg pins s1 σ H1 x v _ I1 r1 q1) fun _ s2 q => q
theorem ps_set {i : Nat} {x : Str} {e : Expr} {te : TE} {pos' : Pos} (hN : X.N.Nodup) (hi : X.N[i]? = some x) (hx : Loc X.env.scope x) (he : PE X e te) (hs : swapsWith e (some (.Name x pos')) pos.line X.env = pure false := by rfl) (hf : X.fn x = true ∨ X.env.scope.names.lookup x = some .local := by first | exact .inl rfl | exact .inr rfl | assumption) :
    PS X (.Assign [.Name x pos'] e pos) (tAsg te (gName i)) := by
  intro pins s σ H D I h
  refine wpAny_Assign_Name (thn (he pins s σ H _ I h) fun v s1 ⟨y, H1, I1, r1, q1⟩ => ?_) hs
  exact store_ok I1 hN hi hx r1 (fun s2 I2 => ⟨_, H1, I2, q1⟩) hf
end
section
variable {X : Cx} {pos : Pos}
end
structure It where
  go : Nat → Hp → Prop
  yld : Nat → Hp → V → Hp → Prop
  stop : Nat → Hp → Prop
def FpOk (X : Cx) (pins : List (Addr × Obj)) (H : Hp) (b : Addr) : Prop :=
  H b = none ∧ b ≠ X.env.locals ∧ b ∉ X.fs ∧ (b ∈ X.ex ∨ X.s₀.heap.objs.size ≤ b) ∧ (∀ x c, X.env.cells.lookup x = some c → c ≠ b) ∧ ∀ p ∈ X.pn ++ pins, p.1 ≠ b
theorem Inv.fpOk {X : Cx} {pins : List (Addr × Obj)} {σ : St} {H H' : Hp} {s : Shared} {b : Addr} (I : Inv X pins σ H s) (hb : s.heap.objs.size ≤ b) (hn : H' b = none) : FpOk X pins H' b := by
  refine ⟨hn, Nat.ne_of_gt (Nat.lt_of_lt_of_le I.lt hb), I.nofs hb, .inr (Nat.le_trans I.sz hb), fun x c e z => ?_, fun p hp z => ?_⟩
  · obtain ⟨v, q⟩ := I.cell x c e
    exact absurd (Nat.lt_of_lt_of_le q.lt (by rw [z]; exact hb)) (Nat.lt_irrefl _)
  · exact absurd (Nat.lt_of_lt_of_le (Heap.lt_size (I.pin p hp).1) (by rw [z]; exact hb)) (Nat.lt_irrefl _)
structure Turn (P : Program) (w : World) (K : PySem.W.Frag) (tg : Expr) (J : It) (fp : List Addr) (it : Addr) (tn : Nat → Heap → Prop) : Prop where
  mem : it ∈ fp
  obj : ∀ i h, tn i h → ∀ b ∈ fp, ∃ o, h.get? b = some o ∧ ∀ v, o.data ≠ .cell v
  keep : ∀ i h h', tn i h → (∀ b ∈ fp, ∀ o, h.get? b = some o → h'.get? b = some o) → tn i h'
  item : ∀ (X : Cx), X.prog = P → X.w = w → X.K = K → X.calm = true → ∀ (i : Nat) (pins : List (Addr × Obj)) (s : Shared) (σ : St) (H : Hp) (E : Value → Shared → Prop), Inv X pins σ H s → (∀ b ∈ fp, FpOk X pins H b) → tn i s.heap → J.go i H →
    wpAny (model P w) X.A (pyNext (.ref it)) (fun r s1 => ∃ u, r = some u ∧
      wpAny (model P w) X.A (letOwnedTupleGo tg (.ref it) u) (fun _ s2 => ∃ x H', Inv X pins σ H' s2 ∧ RelV x u ∧ J.yld i H x H' ∧ tn (i + 1) s2.heap ∧ ∀ b ∈ fp, H' b = none) E s1) E s
  done : ∀ (X : Cx), X.prog = P → X.w = w → X.K = K → X.calm = true → ∀ (i : Nat) (pins : List (Addr × Obj)) (s : Shared) (σ : St) (H : Hp) (E : Value → Shared → Prop), Inv X pins σ H s → (∀ b ∈ fp, FpOk X pins H b) → tn i s.heap → J.stop i H →
    wpAny (model P w) X.A (pyNext (.ref it)) (fun r s1 => r = none ∧ Inv X pins σ H s1) E s
  self : ∀ (A : Around) (i : Nat) (s : Shared) (Q : Value → Shared → Prop) (E : Value → Shared → Prop), tn i s.heap → Q (.ref it) s → wpAny (model P w) A (pyIter (.ref it)) Q E s
abbrev TI := St → Hp → (It → Hp → Prop) → Prop
def PIE (X : Cx) (pins : List (Addr × Obj)) (σ : St) (tg : Expr) (R : It → Hp → Prop) (itv : Value) (s2 : Shared) : Prop :=
  ∃ (it : Addr) (fp : List Addr) (tn : Nat → Heap → Prop) (J : It) (H' : Hp), itv = .ref it ∧ Inv X pins σ H' s2 ∧ Turn X.prog X.w X.K tg J fp it tn ∧ tn 0 s2.heap ∧ (∀ b ∈ fp, FpOk X pins H' b) ∧ R J H'
def PI (X : Cx) (tg iter : Expr) (wi : TI) : Prop :=
  ∀ (pins : List (Addr × Obj)) (s : Shared) (σ : St) (H : Hp) (R : It → Hp → Prop), Inv X pins σ H s → wi σ H R →
    wpAny (model X.prog X.w) X.A (eval iter X.env) (fun v s1 => wpAny (model X.prog X.w) X.A (pyIter v) (PIE X pins σ tg R) X.xe s1) X.xe s
theorem go_of {M : Model} {A : Around} {E : Value → Shared → Prop} {s : Shared} {tg : Expr} {it : Addr} {u : Value} {o : Obj} {n : String} {vs : Array Value} {Q : Unit → Shared → Prop} (ho : s.heap.get? it = some o) (hc : o.cls = .type n) (hd : o.data = .fields vs)
    (hn : ["enumerate", "zip", "dict_itemiterator", "dict_reverseitemiterator", "odict_iterator", "itertools.zip_longest", "itertools.pairwise"].contains n = false) (hQ : Q () s) : wpAny M A (letOwnedTupleGo tg (.ref it) u) Q E s := by
  unfold letOwnedTupleGo
  cases tg <;> first
    | exact wpAny_pure hQ
    | (cases u <;> first
        | exact wpAny_pure hQ
        | (refine wpAny_bind (wpAny_load ho ?_)
           rw [hc, hd]
           show wpAny M A (if (["enumerate", "zip", "dict_itemiterator", "dict_reverseitemiterator", "odict_iterator", "itertools.zip_longest", "itertools.pairwise"].contains n && vs[0]? == some (rawInt _)) = true then _ else _) Q E s
           rw [if_neg (by intro h; rw [hn, Bool.false_and] at h; cases h)]
           exact wpAny_pure hQ))
def Itl (K : PySem.W.Frag) (a : Addr) : It :=
  ⟨fun i H => ∃ xs x, SqL K H a xs ∧ xs[i]? = some x, fun i H x H' => H' = H ∧ ∀ xs, SqL K H a xs → xs[i]? = some x, fun i H => ∃ xs, SqL K H a xs ∧ xs.length ≤ i⟩
def Itt (K : PySem.W.Frag) (a : Addr) : It :=
  ⟨fun i H => ∃ xs x, SqT K H a xs ∧ xs[i]? = some x, fun i H x H' => H' = H ∧ ∀ xs, SqT K H a xs → xs[i]? = some x, fun i H => ∃ xs, SqT K H a xs ∧ xs.length ≤ i⟩
def Itr (lo : Int) (n : Nat) : It := ⟨fun i _ => i < n, fun i H x H' => H' = H ∧ x = .int (lo + i), fun i _ => n ≤ i⟩
theorem turn_list {P : Program} {w : World} {K : PySem.W.Frag} {tg : Expr} (a it : Addr) : Turn P w K tg (Itl K a) [it] it (fun i h => h.IsListIter it a i) where
  mem := by simp
  obj := fun i h st b hb => by
    have e : b = it := by simpa using hb
    subst e
    obtain ⟨o, e, c, d⟩ := st
    exact ⟨o, e, fun v z => by rw [d] at z; cases z⟩
  keep := fun i h h' st k => st.at fun o e => k it (by simp) o e
  item := by
    intro X hP hw hK hc i pins s σ H E I hf st hg
    subst hP hw hK
    obtain ⟨xs, x, hq, hx⟩ := hg
    obtain ⟨its, rv, p, hz⟩ := I.list hq
    obtain ⟨u, hu, ru⟩ := rv.get hx
    obtain ⟨f0, f1, f2, f3, f4, f5⟩ := hf it (by simp)
    refine wpAny_pyNext_list_item st p.isList (x := u) (by simpa using hu) fun h' st' sb => ?_
    have I1 : Inv X pins σ H { s with heap := h' } := I.turned (t' := s.toks) (fun b o hb e => (sb.2 b hb).trans e) f0 f1 f3 f4 f5
    obtain ⟨o, e, c, d⟩ := id st'
    exact ⟨u, rfl, go_of (s := { s with heap := h' }) e c d (by decide) ⟨x, H, I1, ru, ⟨rfl, fun ys hy => by rw [I.list_inj hy hq]; exact hx⟩, st', fun b hb => (hf b hb).1⟩⟩
  done := by
    intro X hP hw hK hc i pins s σ H E I hf st hg
    subst hP hw hK
    obtain ⟨xs, hq, hx⟩ := hg
    obtain ⟨its, rv, p, hz⟩ := I.list hq
    obtain ⟨f0, f1, f2, f3, f4, f5⟩ := hf it (by simp)
    have hl := rv.length
    exact wpAny_pyNext_list_end (I.ok.hd hc) st p.isList (by simp; omega) fun h' eb => ⟨rfl, I.turned (t' := s.toks) (fun b o hb e => eb b o hb e) f0 f1 f3 f4 f5⟩
  self := fun _ _ _ _ _ st h => wpAny_pyIter_listiter st h
theorem turn_tuple {P : Program} {w : World} {K : PySem.W.Frag} {tg : Expr} (a it : Addr) : Turn P w K tg (Itt K a) [it] it (fun i h => h.IsTupleIter it a i) where
  mem := by simp
  obj := fun i h st b hb => by
    have e : b = it := by simpa using hb
    subst e
    obtain ⟨o, e, c, d⟩ := st
    exact ⟨o, e, fun v z => by rw [d] at z; cases z⟩
  keep := fun i h h' st k => st.at fun o e => k it (by simp) o e
  item := by
    intro X hP hw hK hc i pins s σ H E I hf st hg
    subst hP hw hK
    obtain ⟨xs, x, hq, hx⟩ := hg
    obtain ⟨its, rv, p, hz⟩ := I.tuple hq
    obtain ⟨u, hu, ru⟩ := rv.get hx
    obtain ⟨f0, f1, f2, f3, f4, f5⟩ := hf it (by simp)
    refine wpAny_pyNext_tuple_item st (show s.heap.IsTuple a its.toArray from p) (x := u) (by simpa using hu) fun h' st' sb => ?_
    have I1 : Inv X pins σ H { s with heap := h' } := I.turned (t' := s.toks) (fun b o hb e => (sb.2 b hb).trans e) f0 f1 f3 f4 f5
    obtain ⟨o, e, c, d⟩ := id st'
    exact ⟨u, rfl, go_of (s := { s with heap := h' }) e c d (by decide) ⟨x, H, I1, ru, ⟨rfl, fun ys hy => by rw [I.tuple_inj hy hq]; exact hx⟩, st', fun b hb => (hf b hb).1⟩⟩
  done := by
    intro X hP hw hK hc i pins s σ H E I hf st hg
    subst hP hw hK
    obtain ⟨xs, hq, hx⟩ := hg
    obtain ⟨its, rv, p, hz⟩ := I.tuple hq
    obtain ⟨f0, f1, f2, f3, f4, f5⟩ := hf it (by simp)
    have hl := rv.length
    exact wpAny_pyNext_tuple_end (I.ok.hd hc) st (show s.heap.IsTuple a its.toArray from p) (by simp; omega) fun h' eb => ⟨rfl, I.turned (t' := s.toks) (fun b o hb e => eb b o hb e) f0 f1 f3 f4 f5⟩
  self := fun _ _ _ _ _ st h => wpAny_pyIter_tupleiter st h
theorem turn_range {P : Program} {w : World} {K : PySem.W.Frag} {tg : Expr} (it : Addr) (lo : Int) (n : Nat) : Turn P w K tg (Itr lo n) [it] it (fun i h => IsRangeIter h it (lo + (i : Nat) * 1) ((n : Int) - (i : Nat)) 1) where
  mem := by simp
  obj := fun i h st b hb => by
    have e : b = it := by simpa using hb
    subst e
    exact ⟨_, st, fun v z => by
      have z' : Data.fields _ = Data.cell v := z
      cases z'⟩
  keep := fun i h h' st k => k it (by simp) _ st
  item := by
    intro X hP hw hK hc i pins s σ H E I hf st hg
    subst hP hw hK
    obtain ⟨f0, f1, f2, f3, f4, f5⟩ := hf it (by simp)
    have W := Walks.range (prog := X.prog) (w := X.w) (I.ok.hd hc) it lo 1 n
    refine W.item i s _ _ hg st fun v h' tk hv st' kk => ?_
    obtain ⟨t, rfl⟩ := hv
    have I1 : Inv X pins σ H { s with heap := h', toks := tk } := I.turned (fun b o hb e => kk b o (by simpa using hb) e) f0 f1 f3 f4 f5
    refine ⟨_, rfl, go_of (s := { s with heap := h', toks := tk }) (n := "range_iterator") st' rfl rfl (by decide) ⟨.int (lo + i), H, I1, ⟨t, ?_⟩, ⟨rfl, rfl⟩, st', fun b hb => (hf b hb).1⟩⟩
    rw [Int.mul_one]
  done := by
    intro X hP hw hK hc i pins s σ H E I hf st hg
    subst hP hw hK
    obtain ⟨f0, f1, f2, f3, f4, f5⟩ := hf it (by simp)
    exact wpAny_pyNext_range_end (I.ok.hd hc) st (by have : n ≤ i := hg; omega) fun h' eb => ⟨rfl, I.turned (t' := s.toks) (fun b o hb e => eb b o hb e) f0 f1 f3 f4 f5⟩
  self := fun _ _ _ _ _ st h => wpAny_pyIter_rangeiter st h
end L2
namespace L2
open PySem PySem.Spec PyProof.Rows
section
variable {X : Cx} {tg : Expr}
theorem range_it {pins : List (Addr × Obj)} {σ : St} {H : Hp} {s : Shared} {R : It → Hp → Prop} {E : Value → Shared → Prop} {lo hi : Int} {t u v : Tok} {tk : Nat} (I : Inv X pins σ H s) (h1 : -(2 ^ 62) ≤ lo) (h2 : lo < 2 ^ 62) (h3 : -(2 ^ 62) ≤ hi) (h4 : hi < 2 ^ 62)
    (q : R (Itr lo (hi - lo).toNat) H) : wpAny (model X.prog X.w) X.A (pyIter (.ref s.heap.objs.size)) (PIE X pins σ tg R) E { s with heap := s.heap.push { cls := .type "range", data := .fields #[.int lo t, .int hi u, .int 1 v] }, toks := tk } := by
  refine wpAny_pyIter_range (IsRange.new ..) (small_one h1 h2 h3 h4) ?_
  have I1 : Inv X pins σ H { s with heap := s.heap.push { cls := .type "range", data := .fields #[.int lo t, .int hi u, .int 1 v] }, toks := tk } := I.kept fun b o e => Heap.get?_push_of_some _ e
  refine ⟨(s.heap.push { cls := .type "range", data := .fields #[.int lo t, .int hi u, .int 1 v] }).objs.size, [(s.heap.push { cls := .type "range", data := .fields #[.int lo t, .int hi u, .int 1 v] }).objs.size], _, _, H, rfl,
    I1.kept (t' := tk) fun b o e => Heap.get?_push_of_some _ e, turn_range _ lo (hi - lo).toNat, ?_, fun b hb => ?_, q⟩
  · have e1 : lo + ((0 : Nat) : Int) * 1 = lo := by simp
    have e2 : (((hi - lo).toNat : Nat) : Int) - ((0 : Nat) : Int) = Builtin.Range.rangeSize lo hi 1 := by rw [rangeSize_one]; split <;> omega
    show IsRangeIter _ _ (lo + ((0 : Nat) : Int) * 1) ((((hi - lo).toNat : Nat) : Int) - ((0 : Nat) : Int)) 1
    rw [e1, e2]
    exact Heap.get?_push_size _ rfl
  · have e : b = (s.heap.push { cls := .type "range", data := .fields #[.int lo t, .int hi u, .int 1 v] }).objs.size := by simpa using hb
    subst e
    exact I1.fpOk (Nat.le_refl _) (I1.hok.fresh (Nat.le_refl _))
def iRng1 (ta : TA) : TI := fun σ H R => ta σ H fun vs H1 => ∃ j : Int, vs = [.int j] ∧ -(2 ^ 62) ≤ j ∧ j < 2 ^ 62 ∧ R (Itr 0 j.toNat) H1
theorem pi_range1 {a : Expr} {ta : TA} {p pos : Pos} (hg : Gl X "range") (hm : X.mg "range" = none) (ha : PA X [a] ta) (hs : starEach [a] X.env = [(false, eval a X.env)] := by rfl) : PI X tg (.Call (.Name "range" p) [a] [] pos) (iRng1 ta) := by
  intro pins s σ H R I h
  refine Call_ (ld_blt I hg hm boot_range (PyProof.Rows.callWith_type1 (thn (ha pos pins s σ H _ I h) fun us s1 ⟨vs, H1, I1, r1, q1⟩ => ?_) hs rfl))
  obtain ⟨j, e, q1, q2, q⟩ := q1
  subst e
  cases r1 with
  | cons r rr =>
    cases rr
    obtain ⟨t, rfl⟩ := r
    exact call_range_1 (range_it I1 (by omega) (by omega) q1 q2 (by simpa using q))
def tFor (wi : TI) (g : TG) (tb : TS) : TS := fun D σ H => wi σ H fun J H1 => ∃ W : Nat → Nat → St → Hp → Prop, (∃ m, W 0 m σ H1) ∧ ∀ i m σ H, W i m σ H →
  (J.stop i H ∧ D.nx σ H) ∨ (J.go i H ∧ ∃ N : St → Hp → Prop, (∀ σ' H', N σ' H' → ∃ m', m' < m ∧ W (i + 1) m' σ' H') ∧ ∀ x H', J.yld i H x H' → g x σ H' fun σ2 H2 => tb { D with nx := N, ct := N, bk := D.nx } σ2 H2)
def pinsAt (fp : List Addr) (h : Heap) : List (Addr × Obj) := fp.filterMap fun b => (h.get? b).map fun o => (b, o)
theorem mem_pinsAt {fp : List Addr} {h : Heap} {b : Addr} {o : Obj} (hb : b ∈ fp) (e : h.get? b = some o) : (b, o) ∈ pinsAt fp h := List.mem_filterMap.mpr ⟨b, hb, by rw [e]; rfl⟩
theorem of_pinsAt {fp : List Addr} {h : Heap} {p : Addr × Obj} (hp : p ∈ pinsAt fp h) : p.1 ∈ fp ∧ h.get? p.1 = some p.2 := by
  obtain ⟨b, hb, e⟩ := List.mem_filterMap.mp hp
  cases q : h.get? b with
  | none => rw [q] at e; cases e
  | some o =>
    rw [q] at e
    have e' : (b, o) = p := Option.some.inj e
    subst e'
    exact ⟨hb, q⟩
theorem Inv.pinned {pins : List (Addr × Obj)} {σ : St} {H : Hp} {s : Shared} {fp : List Addr} (I : Inv X pins σ H s) (hf : ∀ b ∈ fp, FpOk X pins H b) (ho : ∀ b ∈ fp, ∃ o, s.heap.get? b = some o ∧ ∀ v, o.data ≠ .cell v) : Inv X (pins ++ pinsAt fp s.heap) σ H s :=
  I.pins_of fun p hp => (List.mem_append.mp hp).elim (fun z => I.pin p (List.mem_append_right _ z)) fun z => by
    obtain ⟨hb, e⟩ := of_pinsAt z
    obtain ⟨f0, f1, f2, _⟩ := hf p.1 hb
    obtain ⟨o, e', d⟩ := ho p.1 hb
    rw [e] at e'; cases e'
    exact ⟨e, f0, f1, f2, d⟩
theorem Inv.unpinned {pins pl : List (Addr × Obj)} {σ : St} {H : Hp} {s : Shared} (I : Inv X (pins ++ pl) σ H s) : Inv X pins σ H s := I.pins_of fun p hp => I.pin p (List.mem_append_right _ (List.mem_append_left _ hp))
theorem ps_for {iter : Expr} {body : List Stmt} {wi : TI} {g : TG} {tb : TS} {pos : Pos} (hp : PassesOwn (model X.prog X.w) X.A X.env X.xe) (hc : X.calm = true) (hi : PI X tg iter wi) (hg : PG X tg g) (hb : PSs X body tb)
    (hs : ∀ x, foldedSetIterable iter X.env x = pure x := by intro _; rfl) : PS X (.For tg iter body [] pos) (tFor wi g tb) := by
  intro pins s σ H D I h
  refine wpAny_For (thn (hi pins s σ H _ I h) fun v s1 h1 => thn h1 fun itv s2 h2 => ?_) hs
  obtain ⟨it, fp, tn, J, H2, e, I2, T, st2, f2, W, ⟨m0, w0⟩, turn⟩ := h2
  subst e
  -- what stays true of the iterator's objects through the loop
  have stat : ∀ {H' : Hp}, (∀ b ∈ fp, H' b = none) → ∀ b ∈ fp, FpOk X pins H' b := fun hn b hb => ⟨hn b hb, (f2 b hb).2⟩
  refine codeAny_forLoop_any (fun n s' => ∃ i σ' H', Inv X pins σ' H' s' ∧ tn i s'.heap ∧ (∀ b ∈ fp, H' b = none) ∧ W i n σ' H') ?_ m0 ⟨0, σ, H2, I2, st2, fun b hb => (f2 b hb).1, w0⟩
  rintro n s3 ⟨i, σ3, H3, I3, st3, fr3, w3⟩
  rcases turn i n σ3 H3 w3 with ⟨stop, qn⟩ | ⟨go, N, hN, step⟩
  · refine wpAny_passesOwn hp (thn (T.done X rfl rfl rfl hc i pins s3 σ3 H3 X.xe I3 (stat fr3) st3 stop) fun r s4 ⟨hr, I4⟩ => ?_)
    subst hr
    exact wpAny_execs_nil ⟨σ3, H3, I4, qn⟩
  · refine wpAny_passesOwn hp (thn (T.item X rfl rfl rfl hc i pins s3 σ3 H3 X.xe I3 (stat fr3) st3 go) fun r s4 ⟨u, hr, h4⟩ => ?_)
    subst hr
    refine wpAny_passesOwn hp (thn h4 fun _ s5 ⟨x, H5, I5, r5, y5, st5, fr5⟩ => ?_)
    have I5' := I5.pinned (stat fr5) (T.obj _ _ st5)
    refine wpAny_passesOwn hp (thn (hg _ s5 σ3 H5 x u _ I5' r5 (step x H5 y5)) fun _ s6 ⟨σ6, H6, I6, q6⟩ => ?_)
    refine wpAny_passesOwn hp (thn (hb _ s6 σ6 H6 _ I6 q6) fun f s7 q7 => ?_)
    have again : ∀ {σ7 : St} {H7 : Hp}, Inv X (pins ++ pinsAt fp s5.heap) σ7 H7 s7 → N σ7 H7 → ∃ m, m < n ∧ ∃ i σ' H', Inv X pins σ' H' s7 ∧ tn i s7.heap ∧ (∀ b ∈ fp, H' b = none) ∧ W i m σ' H' := fun {σ7 H7} I7 n7 => by
      obtain ⟨m', hm, w7⟩ := hN σ7 H7 n7
      refine ⟨m', hm, i + 1, σ7, H7, I7.unpinned, T.keep _ _ _ st5 fun b hb o e => (I7.pin (b, o) (List.mem_append_right _ (List.mem_append_right _ (mem_pinsAt hb e)))).1, fun b hb => ?_, w7⟩
      obtain ⟨o, e, d⟩ := T.obj _ _ st5 b hb
      exact (I7.pin (b, o) (List.mem_append_right _ (List.mem_append_right _ (mem_pinsAt hb e)))).2.1
    cases f with
    | next => obtain ⟨σ7, H7, I7, n7⟩ := q7; exact again I7 n7
    | cont => obtain ⟨σ7, H7, I7, n7⟩ := q7; exact again I7 n7
    | brk => obtain ⟨σ7, H7, I7, q7⟩ := q7; exact ⟨σ7, H7, I7.unpinned, q7⟩
    | ret v => obtain ⟨x7, σ7, H7, I7, r7, q7⟩ := q7; exact ⟨x7, σ7, H7, I7.unpinned, r7, q7⟩
end
end L2
namespace L2
open PySem PySem.Spec PyProof.Rows
abbrev R2 := V → V → Hp → VK → Prop
def OpR (X : Cx) (f : Value → Value → Sem Value) (r : R2) : Prop :=
  ∀ (pins : List (Addr × Obj)) (s : Shared) (σ : St) (H : Hp) (x y : V) (v u : Value) (Q : VK), Inv X pins σ H s → RelV x v → RelV y u → r x y H Q →
    wpAny (model X.prog X.w) X.A (f v u) (EP X pins σ Q) X.xe s
def UnR (X : Cx) (f : Value → Sem Value) (r : V → Hp → VK → Prop) : Prop :=
  ∀ (pins : List (Addr × Obj)) (s : Shared) (σ : St) (H : Hp) (x : V) (v : Value) (Q : VK), Inv X pins σ H s → RelV x v → r x H Q →
    wpAny (model X.prog X.w) X.A (f v) (EP X pins σ Q) X.xe s
def CallR (X : Cx) (f : Value) (r : List V → Hp → VK → Prop) : Prop :=
  ∀ (pins : List (Addr × Obj)) (s : Shared) (σ : St) (H : Hp) (xs : List V) (us : List Value) (Q : VK), Inv X pins σ H s → Vals xs us → r xs H Q →
    wpAny (model X.prog X.w) X.A (call f us) (EP X pins σ Q) X.xe s
def TruR (X : Cx) (r : V → Hp → (Bool → Hp → Prop) → Prop) : Prop :=
  ∀ (pins : List (Addr × Obj)) (s : Shared) (σ : St) (H : Hp) (x : V) (v : Value) (Q : Bool → Hp → Prop), Inv X pins σ H s → RelV x v → r x H Q →
    wpAny (model X.prog X.w) X.A (truthy v) (TP X pins σ Q) X.xe s
def tOp (r : R2) (ta tb : TE) : TE := fun σ H Q => ta σ H fun x H1 => tb σ H1 fun y H2 => r x y H2 Q
def tUn (r : V → Hp → VK → Prop) (ta : TE) : TE := fun σ H Q => ta σ H fun x H1 => r x H1 Q
def rI (C : Int → Int → Prop) (g : Int → Int → V) : R2 := fun x y H Q => ∃ i j, x = .int i ∧ y = .int j ∧ C i j ∧ Q (g i j) H
def rI0 (g : Int → Int → V) : R2 := fun x y H Q => ∃ i j, x = .int i ∧ y = .int j ∧ Q (g i j) H
def rU (g : Int → V) : V → Hp → VK → Prop := fun x H Q => ∃ i, x = .int i ∧ Q (g i) H
section
variable {X : Cx} {a b c : Expr} {ta tb tc : TE} {pos : Pos}
theorem binT (ha : PE X a ta) (hb : PE X b tb) {pins : List (Addr × Obj)} {s : Shared} {σ : St} {H : Hp} {R : V → V → Hp → Prop} (I : Inv X pins σ H s)
    (h : ta σ H fun x H1 => tb σ H1 fun y H2 => R x y H2) {Q : Value → Shared → Prop} {f : Value → Value → Sem Value}
    (hf : ∀ v u s2 x y H2, Inv X pins σ H2 s2 → RelV x v → RelV y u → R x y H2 → wpAny (model X.prog X.w) X.A (f v u) Q X.xe s2) :
    wpAny (model X.prog X.w) X.A (eval a X.env) (fun v s₁ => wpAny (model X.prog X.w) X.A (eval b X.env) (fun u s₂ => wpAny (model X.prog X.w) X.A (f v u) Q X.xe s₂) X.xe s₁) X.xe s := by
  refine thn (ha pins s σ H _ I h) fun v s1 ⟨x, H1, I1, r1, q1⟩ => ?_
  refine thn (hb pins s1 σ H1 _ I1 q1) fun u s2 ⟨y, H2, I2, r2, q2⟩ => ?_
  exact hf v u s2 x y H2 I2 r1 r2 q2
theorem pe_op {op : Operator} {r : R2} (ho : OpR X (binaryOp op) r) (ha : PE X a ta) (hb : PE X b tb) : PE X (.BinOp a op b pos) (tOp r ta tb) := by
  intro pins s σ H Q I h
  exact wpAny_BinOp (binT ha hb I h fun v u s2 x y H2 I2 rx ry q => ho pins s2 σ H2 x y v u Q I2 rx ry q)
theorem pe_un {op : UnaryOp} {r : V → Hp → VK → Prop} (ho : UnR X (unaryOp op) r) (ha : PE X a ta) : PE X (.UnaryOp op a pos) (tUn r ta) := by
  intro pins s σ H Q I h
  exact UnaryOp_ (thn (ha pins s σ H _ I h) fun v s1 ⟨x, H1, I1, r1, q1⟩ => ho pins s1 σ H1 x v Q I1 r1 q1)
theorem opI {f : Value → Value → Sem Value} {C : Int → Int → Prop} {g : Int → Int → Int}
    (rule : ∀ (i j : Int) (t u : Tok) (s : Shared) (Q : Value → Shared → Prop) (E : Value → Shared → Prop), C i j → Q (.int (g i j) s.toks) { s with toks := s.toks + 1 } → wpAny (model X.prog X.w) X.A (f (.int i t) (.int j u)) Q E s) :
    OpR X f (rI C fun i j => .int (g i j)) := by
  intro pins s σ H x y v u Q I rx ry h
  obtain ⟨i, j, rfl, rfl, hc, q⟩ := h
  obtain ⟨t, rfl⟩ := rx
  obtain ⟨t', rfl⟩ := ry
  exact rule i j t t' s _ _ hc ⟨.int (g i j), H, I.tok _, ⟨_, rfl⟩, q⟩
theorem opI0 {f : Value → Value → Sem Value} {g : Int → Int → Int}
    (rule : ∀ (i j : Int) (t u : Tok) (s : Shared) (Q : Value → Shared → Prop) (E : Value → Shared → Prop), Q (.int (g i j) s.toks) { s with toks := s.toks + 1 } → wpAny (model X.prog X.w) X.A (f (.int i t) (.int j u)) Q E s) :
    OpR X f (rI0 fun i j => .int (g i j)) := by
  intro pins s σ H x y v u Q I rx ry h
  obtain ⟨i, j, rfl, rfl, q⟩ := h
  obtain ⟨t, rfl⟩ := rx
  obtain ⟨t', rfl⟩ := ry
  exact rule i j t t' s _ _ ⟨.int (g i j), H, I.tok _, ⟨_, rfl⟩, q⟩
theorem opB0 {f : Value → Value → Sem Value} {g : Int → Int → Bool}
    (rule : ∀ (i j : Int) (t u : Tok) (s : Shared) (Q : Value → Shared → Prop) (E : Value → Shared → Prop), Q (.bool (g i j)) s → wpAny (model X.prog X.w) X.A (f (.int i t) (.int j u)) Q E s) :
    OpR X f (rI0 fun i j => .bl (g i j)) := by
  intro pins s σ H x y v u Q I rx ry h
  obtain ⟨i, j, rfl, rfl, q⟩ := h
  obtain ⟨t, rfl⟩ := rx
  obtain ⟨t', rfl⟩ := ry
  exact rule i j t t' s _ _ ⟨.bl (g i j), H, I, rfl, q⟩
def CPow (i j : Int) : Prop := 0 ≤ j ∧ j ≤ 1000000 ∧ i.natAbs < 2 ^ 64
theorem op_add : OpR X (binaryOp .Add) (rI0 fun i j => .int (i + j)) := opI0 fun _ _ _ _ _ _ _ q => add_int q
theorem op_sub : OpR X (binaryOp .Sub) (rI0 fun i j => .int (i - j)) := opI0 fun _ _ _ _ _ _ _ q => sub_int q
theorem op_pow : OpR X (binaryOp .Pow) (rI CPow fun i j => .int (i ^ j.toNat)) := opI fun _ _ _ _ _ _ _ hc q => pow_int_small hc.1 hc.2.1 hc.2.2 q
theorem unI {f : Value → Sem Value} {g : Int → Int}
    (rule : ∀ (i : Int) (t : Tok) (s : Shared) (Q : Value → Shared → Prop) (E : Value → Shared → Prop), Q (.int (g i) s.toks) { s with toks := s.toks + 1 } → wpAny (model X.prog X.w) X.A (f (.int i t)) Q E s) :
    UnR X f (rU fun i => .int (g i)) := by
  intro pins s σ H x v Q I rx h
  obtain ⟨i, rfl, q⟩ := h
  obtain ⟨t, rfl⟩ := rx
  exact rule i t s _ _ ⟨.int (g i), H, I.tok _, ⟨_, rfl⟩, q⟩
theorem un_neg : UnR X (unaryOp .USub) (rU fun i => .int (-i)) := unI fun _ _ _ _ _ q => neg_int q
end
section
variable {X : Cx} {a b c : Expr} {ta tb tc : TE} {pos : Pos}
theorem fin_bl {pins : List (Addr × Obj)} {σ : St} {H : Hp} {s : Shared} {Q : VK} {k k' : Bool} (I : Inv X pins σ H s) (q : Q (.bl k) H) (e : k = k') : EP X pins σ Q (.bool k') s := by
  subst e
  exact ⟨.bl k, H, I, rfl, q⟩
theorem op_lt : OpR X (compareOp .Lt) (rI0 fun i j => .bl (decide (i < j))) := opB0 fun _ _ _ _ _ _ _ q => lt_int q
theorem op_le : OpR X (compareOp .LtE) (rI0 fun i j => .bl (decide (i ≤ j))) := opB0 fun _ _ _ _ _ _ _ q => le_int q
theorem op_gt : OpR X (compareOp .Gt) (rI0 fun i j => .bl (decide (j < i))) := opB0 fun _ _ _ _ _ _ _ q => gt_int q
theorem op_ge : OpR X (compareOp .GtE) (rI0 fun i j => .bl (decide (j ≤ i))) := opB0 fun _ _ _ _ _ _ _ q => ge_int q
theorem op_lt_str : OpR X (compareOp .Lt) (fun x y H Q => ∃ i j, x = .str i ∧ y = .str j ∧ Q (.bl (decide (i.cps.toList < j.cps.toList))) H) := by
  intro pins s σ H x y v u Q I rx ry h
  obtain ⟨i, j, rfl, rfl, q⟩ := h
  obtain ⟨t, rfl⟩ := rx
  obtain ⟨t', rfl⟩ := ry
  exact lt_str (fin_bl I q rfl)
theorem op_in_str : OpR X (compareOp .In) (fun x y H Q => ∃ i j, x = .str i ∧ y = .str j ∧ Q (.bl (!(Builtin.Str.occurrences j i 0 j.length 1).isEmpty)) H) := by
  intro pins s σ H x y v u Q I rx ry h
  obtain ⟨i, j, rfl, rfl, q⟩ := h
  obtain ⟨t, rfl⟩ := rx
  obtain ⟨t', rfl⟩ := ry
  exact in_str (fin_bl I q rfl)
theorem op_isN : OpR X (compareOp .Is) (fun x y H Q => y = .non ∧ Q (.bl (decide (x = .non))) H) := by
  intro pins s σ H x y v u Q I rx ry h
  obtain ⟨rfl, q⟩ := h
  cases ry
  refine is_none_gen (fin_bl I q ?_)
  cases x <;> first
    | (cases rx; rfl)
    | (obtain ⟨t, rfl⟩ := rx; rfl)
theorem op_notN : OpR X (compareOp .IsNot) (fun x y H Q => y = .non ∧ Q (.bl (!decide (x = .non))) H) := by
  intro pins s σ H x y v u Q I rx ry h
  obtain ⟨rfl, q⟩ := h
  cases ry
  refine isnot_none_gen (fin_bl I q ?_)
  cases x <;> first
    | (cases rx; rfl)
    | (obtain ⟨t, rfl⟩ := rx; rfl)
theorem pe_cmpR {op : CmpOp} {r : R2} (ho : OpR X (compareOp op) r) (ha : PE X a ta) (hb : PE X b tb) (hm : behindInMarks op b = false) : PE X (.Compare a [op] [b] pos) (tOp r ta tb) := by
  intro pins s σ H Q I h
  exact wpAny_Compare1 (binT ha hb I h fun v u s2 x y H2 I2 rx ry q => ho pins s2 σ H2 x y v u Q I2 rx ry q) hm
def tTest (t : TE) : TT := fun σ H Q => t σ H fun x H' => ∃ k, x = .bl k ∧ Q k H'
theorem pt_cmpR {op : CmpOp} {r : R2} (ho : OpR X (compareOp op) r) (ha : PE X a ta) (hb : PE X b tb) (hm : behindInMarks op b = false) : PT X (.Compare a [op] [b] pos) (tTest (tOp r ta tb)) := by
  intro pins s σ H Q I h
  refine wpAny_isTrue_Compare1 (thn (ha pins s σ H _ I h) fun v s1 ⟨x, H1, I1, r1, q1⟩ => thn (hb pins s1 σ H1 _ I1 q1) fun u s2 ⟨y, H2, I2, r2, q2⟩ =>
    thn (ho pins s2 σ H2 x y v u _ I2 r1 r2 q2) fun c s3 ⟨z, H3, I3, r3, k, e, q3⟩ => ?_) hm
  subst e
  cases r3
  exact wpAny_truthy_bool ⟨H3, I3, q3⟩
def tChain (r r' : R2) (ta tb tc : TE) : TE := fun σ H Q => ta σ H fun x H1 => tb σ H1 fun y H2 => r x y H2 fun z H3 => ∃ k, z = .bl k ∧
  (if k = true then tc σ H3 fun w' H4 => r' y w' H4 Q else Q (.bl false) H3)
theorem pe_chain {op op' : CmpOp} {r r' : R2} (ho : OpR X (compareOp op) r) (ho' : OpR X (compareOp op') r') (ha : PE X a ta) (hb : PE X b tb) (hc : PE X c tc)
    (hm : lastMarks [op, op'] [b, c] = false := by with_unfolding_all rfl) : PE X (.Compare a [op, op'] [b, c] pos) (tChain r r' ta tb tc) := by
  intro pins s σ H Q I h
  refine Compare_chain (thn (ha pins s σ H _ I h) fun v s1 ⟨x, H1, I1, r1, q1⟩ => chain_link (thn (hb pins s1 σ H1 _ I1 q1) fun u s2 ⟨y, H2, I2, r2, q2⟩ =>
    thn (ho pins s2 σ H2 x y v u _ I2 r1 r2 q2) fun d s3 ⟨z, H3, I3, r3, k, e, q3⟩ => ?_)) hm
  subst e
  cases r3
  refine wpAny_truthy_bool ?_
  cases k with
  | false => exact ite_ff ⟨.bl false, H3, I3, rfl, q3⟩
  | true => exact ite_tt (chain_last (thn (hc pins s3 σ H3 _ I3 q3) fun w' s4 ⟨z', H4, I4, r4, q4⟩ => ho' pins s4 σ H4 y z' u w' Q I4 r2 r4 q4))
theorem pt_chain {op op' : CmpOp} {r r' : R2} (ho : OpR X (compareOp op) r) (ho' : OpR X (compareOp op') r') (ha : PE X a ta) (hb : PE X b tb) (hc : PE X c tc)
    (hm : lastMarks [op, op'] [b, c] = false := by with_unfolding_all rfl) : PT X (.Compare a [op, op'] [b, c] pos) (tTest (tChain r r' ta tb tc)) := by
  intro pins s σ H Q I h
  refine isTrue_chain (thn (ha pins s σ H _ I h) fun v s1 ⟨x, H1, I1, r1, q1⟩ => test_link (thn (hb pins s1 σ H1 _ I1 q1) fun u s2 ⟨y, H2, I2, r2, q2⟩ =>
    thn (ho pins s2 σ H2 x y v u _ I2 r1 r2 q2) fun d s3 ⟨z, H3, I3, r3, k, e, q3⟩ => ?_)) hm
  subst e
  cases r3
  refine wpAny_truthy_bool ?_
  cases k with
  | false =>
    obtain ⟨k', e', q'⟩ := q3
    cases e'
    exact ite_ff ⟨H3, I3, q'⟩
  | true =>
    refine ite_tt (test_last (thn (hc pins s3 σ H3 _ I3 q3) fun w' s4 ⟨z', H4, I4, r4, q4⟩ => thn (ho' pins s4 σ H4 y z' u w' _ I4 r2 r4 q4) fun d' s5 ⟨z2, H5, I5, r5, k2, e2, q5⟩ => ?_))
    subst e2
    cases r5
    exact wpAny_truthy_bool ⟨H5, I5, q5⟩
def TruV (K : PySem.W.Frag) (x : V) (H : Hp) (k : Bool) : Prop :=
  match x with
  | .non => k = false
  | .bl b => k = b
  | .int i => k = (i != 0)
  | .str y => y.length ≤ sizeLine ∧ k = ((y.length : Int) != 0)
  | .byt y => y.size ≤ sizeLine ∧ k = ((y.size : Int) != 0)
  | .ref p => (∃ xs, SqL K H p xs ∧ k = !xs.isEmpty) ∨ (∃ xs, SqT K H p xs ∧ k = !xs.isEmpty) ∨ ∃ kvs, H p = some (.dK kvs) ∧ k = !kvs.isEmpty
  | _ => False
theorem isEmpty_kv {κ : Type} {kvs : List (κ × V)} {vs : List (κ × Value)} (r : KV kvs vs) : (!vs.isEmpty) = !kvs.isEmpty := by
  cases r <;> rfl
theorem isEmpty_of {xs : List V} {its : List Value} (r : Vals xs its) : (!its.toArray.isEmpty) = !xs.isEmpty := by
  cases r <;> simp
theorem line63 : (sizeLine : Nat) < 2 ^ 63 := by rw [sizeLine_eq]; decide
theorem tru_ok : TruR X (fun x H Q => ∃ k, TruV X.K x H k ∧ Q k H) := by
  intro pins s σ H x v Q I rx h
  obtain ⟨k, e, q⟩ := h
  have hl := line63
  have hs : sizeLine = 16777216 := sizeLine_eq
  cases x with
  | non =>
    cases rx
    have e' : k = false := e
    subst e'
    exact truthy_none ⟨H, I, q⟩
  | bl b =>
    cases rx
    have e' : k = b := e
    subst e'
    exact wpAny_truthy_bool ⟨H, I, q⟩
  | int i =>
    obtain ⟨t, rfl⟩ := rx
    have e' : k = (i != 0) := e
    subst e'
    exact PySem.P.truthy_int ⟨H, I, q⟩
  | str y =>
    obtain ⟨t, rfl⟩ := rx
    obtain ⟨hy, e'⟩ : y.length ≤ sizeLine ∧ k = ((y.length : Int) != 0) := e
    subst e'
    exact PySem.P.truthy_str (by omega) ⟨H, I.tok _, q⟩
  | byt y =>
    obtain ⟨t, rfl⟩ := rx
    obtain ⟨hy, e'⟩ : y.size ≤ sizeLine ∧ k = ((y.size : Int) != 0) := e
    subst e'
    exact PySem.W.truthy_bytes (by omega) ⟨H, I.tok _, q⟩
  | ref p =>
    cases rx
    have e' : (∃ xs, SqL X.K H p xs ∧ k = !xs.isEmpty) ∨ (∃ xs, SqT X.K H p xs ∧ k = !xs.isEmpty) ∨ ∃ kvs, H p = some (.dK kvs) ∧ k = !kvs.isEmpty := e
    rcases e' with ⟨xs, hx, e'⟩ | ⟨xs, hx, e'⟩ | ⟨kvs, hx, e'⟩
    · subst e'
      obtain ⟨its, r, pl, hz⟩ := I.list hx
      have hlen := r.length
      exact wpAny_truthy_list pl.isList (by simp only [List.size_toArray]; omega) ⟨H, I.tok _, by rw [isEmpty_of r]; exact q⟩
    · subst e'
      obtain ⟨its, r, pl, hz⟩ := I.tuple hx
      have hlen := r.length
      exact truthy_tuple pl (by simp only [List.size_toArray]; omega) ⟨H, I.tok _, by rw [isEmpty_of r]; exact q⟩
    · subst e'
      obtain ⟨hz, hS, vs, r, m⟩ : kvs.length ≤ sizeLine ∧ (p == sysModules) = false ∧ ∃ vs, KV kvs vs ∧ s.heap.DictOf (mixKind X.prog X.w) p vs := I.hok p _ hx
      have hlen : kvs.length = vs.length := Paired.length r
      exact wpAny_truthy_dict hS m (by omega) ⟨H, I.tok _, by rw [isEmpty_kv r]; exact q⟩
  | _ => exact (show False from e).elim
theorem pt_truth (ha : PE X a ta) (he : ∀ whole, isTrue a X.env whole = (do let v ← whole; standAt a.pos; holding [v] (truthy v))) :
    PT X a (fun σ H Q => ta σ H fun x H' => ∃ k, TruV X.K x H' k ∧ Q k H') := by
  intro pins s σ H Q I h
  exact isTrue_plain (thn (ha pins s σ H _ I h) fun v s1 ⟨x, H1, I1, r1, q1⟩ => tru_ok pins s1 σ H1 x v Q I1 r1 q1) (he _)
theorem op_add_str : OpR X (binaryOp .Add) (fun x y H Q => ∃ i j, x = .str i ∧ y = .str j ∧ i.length + j.length ≤ sizeLine ∧ Q (.str (i ++ j)) H) := by
  intro pins s σ H x y v u Q I rx ry h
  obtain ⟨i, j, rfl, rfl, hz, q⟩ := h
  obtain ⟨t, rfl⟩ := rx
  obtain ⟨t', rfl⟩ := ry
  exact add_str (fun t' tk => ⟨.str (i ++ j), H, I.tok _, ⟨_, rfl⟩, q⟩) hz
theorem vals1 {x : V} {us : List Value} (r : Vals [x] us) : ∃ u, us = [u] ∧ RelV x u := by
  cases r with
  | cons r1 r2 => cases r2; exact ⟨_, rfl, r1⟩
theorem vals2 {x y : V} {us : List Value} (r : Vals [x, y] us) : ∃ u w', us = [u, w'] ∧ RelV x u ∧ RelV y w' := by
  cases r with
  | cons r1 r2 =>
    cases r2 with
    | cons r3 r4 => cases r4; exact ⟨_, _, rfl, r1, r3⟩
theorem call_min2 (hc : X.calm = true) : CallR X (.builtin "min") (fun xs H Q => ∃ i j, xs = [.int i, .int j] ∧ Q (.int (if j < i then j else i)) H) := by
  intro pins s σ H xs us Q I r h
  obtain ⟨i, j, rfl, q⟩ := h
  obtain ⟨u, w', rfl, ⟨t, rfl⟩, ⟨t', rfl⟩⟩ := vals2 r
  refine min_two_ints (I.ok.hd hc) fun h' tk k => ⟨_, H, I.kept k, ?_, q⟩
  by_cases hj : j < i
  · rw [if_pos hj, if_pos hj]; exact ⟨_, rfl⟩
  · rw [if_neg hj, if_neg hj]; exact ⟨_, rfl⟩
theorem call_int1 : CallR X (.type "int") (fun xs H Q => (∃ i, xs = [.int i] ∧ Q (.int i) H) ∨ ∃ k, xs = [.bl k] ∧ Q (.int (if k then 1 else 0)) H) := by
  intro pins s σ H xs us Q I r h
  rcases h with ⟨i, rfl, q⟩ | ⟨k, rfl, q⟩
  · obtain ⟨u, rfl, t, rfl⟩ := vals1 r
    exact call_int_int ⟨.int i, H, I, ⟨_, rfl⟩, q⟩
  · obtain ⟨u, rfl, r1⟩ := vals1 r
    cases r1
    exact call_int_bool ⟨.int (if k then 1 else 0), H, I.tok _, ⟨_, rfl⟩, q⟩
end
end L2
namespace L2
open PySem PySem.Spec PyProof.Rows
section
variable {prog : Program} {w : World} {A : Around} {E : Value → Shared → Prop} {s : Shared} {K : PySem.W.Frag} {x dx C f : Addr} {mA : Str → Option Value} {name : Str} {v : Value}
end
section
variable {P : Program} {w : World} {H H' : Hp} {h h' : Heap} {a C dx : Addr} {fs fs' : List (Str × V)}
end
section
variable {X : Cx} {pins : List (Addr × Obj)} {σ : St} {H : Hp} {s : Shared} {a C dx : Addr} {fs : List (Str × V)} {f : Str} {v : V} {A : Around} {E : Value → Shared → Prop}
end
section
variable {X : Cx} {o e value : Expr} {f : Str} {pos pos' tpos : Pos} {ta tv : TE}
end
section
variable {X : Cx} {pins : List (Addr × Obj)} {σ : St} {H : Hp} {s : Shared} {A : Around} {E : Value → Shared → Prop} {Q : Value → Shared → Prop} {c : Value} {b : Bool}
end
end L2
namespace L2
open PySem PySem.Spec PyProof.Rows
structure Room (k : Nat) (A : Around) : Prop where
  hd : A.handled = none
  dp : A.depth + 3 * k + 5 < recursionLimit
  un : A.units + 16 * k + 200 < cLine
theorem Room.mono {j k : Nat} {A : Around} (r : Room k A) (h : j ≤ k) : Room j A := ⟨r.hd, by have := r.dp; omega, by have := r.un; omega⟩
theorem Room.deeper {k : Nat} {A : Around} (r : Room (k + 1) A) (env : Env) : Room k (A.deeper env) :=
  ⟨r.hd, by have := r.dp; show A.depth + 1 + 3 * k + 5 < _; omega, by have := r.un; show A.units + 3 + 16 * k + 200 < _; omega⟩
theorem Room.depth {k : Nat} {A : Around} (r : Room k A) : A.depth < recursionLimit := by have := r.dp; omega
def tNil : TA := fun _ H Q => Q [] H
def tCons (ta : TE) (tr : TA) : TA := fun σ H Q => ta σ H fun x H1 => tr σ H1 fun xs H2 => Q (x :: xs) H2
section
variable {X : Cx} {e : Expr} {es : List Expr} {te : TE} {t : TA} {pos : Pos}
theorem pa_nil : PA X [] tNil := fun _ _ _ _ H Q I h => Calls.spliced_nil ⟨[], H, I, .nil, h⟩
theorem pa_cons (ha : PE X e te) (hr : PA X es t) (hs : starEach (e :: es) X.env = (false, eval e X.env) :: starEach es X.env := by rfl) : PA X (e :: es) (tCons te t) := by
  intro pos pins s σ H Q I h
  rw [hs]
  show wpAny _ _ (spliced ((false, eval e X.env) :: backTo pos (starEach es X.env))) _ _ s
  refine Calls.spliced_cons (thn (ha pins s σ H _ I h) fun u s1 ⟨x, H1, I1, r1, q1⟩ => ?_)
  exact thn (hr pos pins s1 σ H1 _ I1 q1) fun us s2 ⟨xs, H2, I2, r2, q2⟩ => ⟨x :: xs, H2, I2, .cons r1 r2, q2⟩
def tTup (t : TA) : TE := fun σ H Q => t σ H fun xs H1 => xs.length ≤ sizeLine ∧ ∀ p, H1 p = none → Q (.ref p) (upd H1 p (.tup xs))
def tLst (t : TA) : TE := fun σ H Q => t σ H fun xs H1 => xs.length ≤ sizeLine ∧ ∀ p, H1 p = none → Q (.ref p) (upd H1 p (.lst xs))
theorem pe_tup {x1} (h : PA X es t) : PE X (.Tuple es x1 pos) (tTup t) := by
  intro pins s σ H Q I hq
  refine wpAny_Tuple_spliced (thn (h pos pins s σ H _ I hq) fun us s1 ⟨xs, H1, I1, r, z, q⟩ => ⟨by rw [← r.length]; exact z, ?_⟩)
  have hf : H1 s1.heap.objs.size = none := I1.hok.fresh (Nat.le_refl _)
  refine ⟨.ref s1.heap.objs.size, upd H1 s1.heap.objs.size (.tup xs), I1.laid (t' := s1.toks) (fun b u e => Heap.get?_push_of_some _ e) (Nat.le_refl _) ?_, rfl, q _ hf⟩
  exact ⟨z, us, r, ⟨_, Heap.get?_push_size _ rfl, rfl, _, rfl⟩, NoDi.new _ _⟩
theorem pe_lst (h : PA X es t) : PE X (.List es pos) (tLst t) := by
  intro pins s σ H Q I hq
  refine wpAny_List_spliced (thn (h pos pins s σ H _ I hq) fun us s1 ⟨xs, H1, I1, r, z, q⟩ => ⟨by rw [← r.length]; exact z, ?_⟩)
  have hf : H1 s1.heap.objs.size = none := I1.hok.fresh (Nat.le_refl _)
  refine ⟨.ref s1.heap.objs.size, upd H1 s1.heap.objs.size (.lst xs), I1.laid (t' := s1.toks) (fun b u e => Heap.get?_push_of_some _ e) (Nat.le_refl _) ?_, rfl, q _ hf⟩
  exact ⟨z, us, 0, r, Heap.get?_push_size _ rfl⟩
end
abbrev Sp := List V → Hp → VK → XK → Prop
abbrev CXT := List Env → Hp → Shared → XK → Value → Shared → Prop
structure Env0 (P : Program) (w : World) (K : PySem.W.Frag) (mg : Str → Option Value) (base : Heap) (A : Around) (outer : List Env) (s : Shared) (H : Hp) : Prop where
  frames : A.frames = some outer
  mod : Mod K mg base
  bs : ∀ b o, base.get? b = some o → s.heap.get? b = some o ∧ H b = none
  bsz : base.objs.size ≤ s.heap.objs.size
  funs : s.heap.FunFrames base outer
  frf : ∀ b ∈ frs outer, H b = none
  hok : HOk P w H s.heap
  bare : AllBare s.gens
def CE (outer : List Env) (P : Program) (w : World) (H : Hp) (s : Shared) (Q : VK) (u : Value) (s' : Shared) : Prop :=
  ∃ v H', s'.os = s.os ∧ AllBare s'.gens ∧ Un (frs outer) [] H H' s.heap s'.heap ∧ HOk P w H' s'.heap ∧ RelV v u ∧ Q v H'
def CR (CX : CXT) (outer : List Env) (P : Program) (w : World) (H : Hp) (s : Shared) (Q : VK) (E : XK) (r : Result) (s' : Shared) : Prop :=
  match r with
  | .ok (.ret u) => CE outer P w H s Q u s'
  | .ok _ => False
  | .error e => CX outer H s E e s'
structure FnOk (P : Program) (w : World) (K : PySem.W.Frag) (mg : Str → Option Value) (base : Heap) (CX : CXT) (k : Nat) (f : Addr) (fd : FuncData) (ps : List Str) (sp : Sp) : Prop where
  len : ∀ vs H Q E, sp vs H Q E → vs.length = ps.length
  run : ∀ (A : Around) (outer : List Env) (s : Shared) (H : Hp) (args : Args) (us : List Value) (vs : List V) (Q : VK) (E : XK), Room k A → Env0 P w K mg base A outer s H → BindsTo s fd args (ps.zip us) → Vals vs us → sp vs H Q E →
    codeAny (model P w) A (.call (.ref f) args) (CR CX outer P w H s Q E) s
theorem FnOk.mono {P : Program} {w : World} {K : PySem.W.Frag} {mg : Str → Option Value} {base : Heap} {CX : CXT} {j k : Nat} {f : Addr} {fd : FuncData} {ps : List Str} {sp : Sp} (F : FnOk P w K mg base CX j f fd ps sp) (h : j ≤ k) :
    FnOk P w K mg base CX k f fd ps sp := ⟨F.len, fun A outer s H args us vs Q E hr => F.run A outer s H args us vs Q E (hr.mono h)⟩
section
variable {X : Cx} {pins : List (Addr × Obj)} {σ : St} {H : Hp} {s s' : Shared}
theorem Inv.env0 (I : Inv X pins σ H s) : Env0 X.prog X.w X.K X.mg X.base X.A X.stack s H :=
  ⟨I.ok.frames, I.ok.mod, I.bs, Nat.le_trans I.ok.bsz I.sz, I.stack, I.stkFree, I.hok, I.bare⟩
theorem Inv.after {Q : VK} {u : Value} (I : Inv X pins σ H s) (h : CE X.stack X.prog X.w H s Q u s') : EP X pins σ Q u s' := by
  obtain ⟨v, H', os, bare, un, hok, r, q⟩ := h
  obtain ⟨hh, g, d, t, os'⟩ := s'
  obtain rfl : os' = s.os := os
  exact ⟨v, H', I.call (h' := hh) (g' := g) (d' := d) (t' := t) (ch := []) un hok bare (fun b z => absurd z (by simp)), r, q⟩
end
def Binds (K : PySem.W.Frag) (fd : FuncData) (ps : List Str) (ds : List Value) : Prop :=
  ∀ (s : Shared) (us : List Value), K.In s.heap → (us ++ ds).length = ps.length → BindsTo s fd ⟨us, []⟩ (ps.zip (us ++ ds))
theorem Binds.all {K : PySem.W.Frag} {fd : FuncData} {ps : List Str} (h : ∀ us : List Value, us.length = ps.length → bindArgs fd ⟨us, []⟩ = pure (ps.zip us)) : Binds K fd ps [] := fun s us _ hl => by
  rw [List.append_nil] at hl ⊢
  exact .of_eq (h us hl)
section
variable {X : Cx} {CX : CXT} {k : Nat} {f C : Addr} {fd : FuncData} {ps : List Str} {sp : Sp} {dvs : List V} {ds : List Value} {E : XK} {x m : Str} {p pos apos : Pos} {e o : Expr} {es : List Expr} {ta : TE} {t : TA}
end
section
variable {X : Cx} {CX : CXT} {k : Nat} {f C : Addr} {fd : FuncData} {ps ks : List Str} {sp : Sp} {E : XK} {x m : Str} {p pos apos kpos : Pos} {e o : Expr} {es : List Expr} {kws : List Keyword} {te ta : TE} {t tk : TA} {nm : Option Str}
variable {g : List Value → List Value → List Value} {gV : List V → List V → List V}
end
structure FnScope (N P : List Str) (sc : Scope) : Prop where
  kind : sc.kind = .function
  co : sc.isCoroutine = false
  gen : sc.isGenerator = false
  nd : N.Nodup
  pre : N.take P.length = P
  par : ∀ x ∈ P, sc.names.lookup x = some .local ∨ sc.names.lookup x = some .cell
  nofree : ∀ y ∈ sc.names, y.2 ≠ .free
theorem bindL_out {kindOf : Str → Option NameKind} {x : Str} : ∀ {binds : List (Str × Value)} {m : Str → Option Value}, (∀ v, (x, v) ∉ binds) → bindL kindOf binds m x = m x
  | [], _, _ => rfl
  | (n, v) :: r, m, h => by
    unfold bindL
    rw [bindL_out fun w hw => h w (List.mem_cons_of_mem _ hw)]
    split
    · have : x ≠ n := by rintro rfl; exact h v List.mem_cons_self
      simp [this]
    · rfl
theorem bindC_out {kindOf : Str → Option NameKind} {x : Str} : ∀ {binds : List (Str × Value)} {m : Str → Option Value}, (∀ v, (x, v) ∉ binds) → bindC kindOf binds m x = m x
  | [], _, _ => rfl
  | (n, v) :: r, m, h => by
    unfold bindC
    rw [bindC_out fun w hw => h w (List.mem_cons_of_mem _ hw)]
    split
    · rfl
    · have : x ≠ n := by rintro rfl; exact h v List.mem_cons_self
      simp [this]
theorem bindL_get {kindOf : Str → Option NameKind} {x : Str} {v : Value} : ∀ {P : List Str} {vs : List Value} {i : Nat} {m : Str → Option Value}, P.Nodup → P[i]? = some x → vs[i]? = some v → kindOf x = some .local →
    bindL kindOf (P.zip vs) m x = some v
  | [], _, _, _, _, h, _, _ => by simp at h
  | _ :: _, [], _, _, _, _, h, _ => by simp at h
  | p :: P, w :: vs, 0, m, nd, h1, h2, hk => by
    simp at h1 h2; subst h1; subst h2
    show bindL kindOf ((p, w) :: P.zip vs) m p = _
    unfold bindL
    rw [bindL_out fun v hv => (List.nodup_cons.mp nd).1 (List.of_mem_zip hv).1, if_pos hk]
    simp
  | p :: P, w :: vs, i + 1, m, nd, h1, h2, hk => by
    show bindL kindOf ((p, w) :: P.zip vs) m x = _
    unfold bindL
    exact bindL_get (i := i) (List.nodup_cons.mp nd).2 (by simpa using h1) (by simpa using h2) hk
theorem bindC_get {kindOf : Str → Option NameKind} {x : Str} {v : Value} : ∀ {P : List Str} {vs : List Value} {i : Nat} {m : Str → Option Value}, P.Nodup → P[i]? = some x → vs[i]? = some v → kindOf x ≠ some .local →
    bindC kindOf (P.zip vs) m x = some v
  | [], _, _, _, _, h, _, _ => by simp at h
  | _ :: _, [], _, _, _, _, h, _ => by simp at h
  | p :: P, w :: vs, 0, m, nd, h1, h2, hk => by
    simp at h1 h2; subst h1; subst h2
    show bindC kindOf ((p, w) :: P.zip vs) m p = _
    unfold bindC
    rw [bindC_out fun v hv => (List.nodup_cons.mp nd).1 (List.of_mem_zip hv).1, if_neg hk]
    simp
  | p :: P, w :: vs, i + 1, m, nd, h1, h2, hk => by
    show bindC kindOf ((p, w) :: P.zip vs) m x = _
    unfold bindC
    exact bindC_get (i := i) (List.nodup_cons.mp nd).2 (by simpa using h1) (by simpa using h2) hk
def start (N : List Str) (vs : List V) : St := vs.map some ++ List.replicate (N.length - vs.length) none
def cxOf (CX : CXT) (P : Program) (w : World) (K : PySem.W.Frag) (mg : Str → Option Value) (base : Heap) (N : List Str) (qual : Str) (scope : Scope) (f : Addr) (cd : Value) (A : Around) (outer : List Env) (s : Shared) (H : Hp) (E : XK) : Cx where
  prog := P
  w := w
  K := K
  mg := mg
  base := base
  A := A.deeper (envOfC qual scope s.heap.objs.size f cd)
  N := N
  s₀ := s
  H₀ := H
  env := envOfC qual scope s.heap.objs.size f cd
  outer := outer
  stack := envOfC qual scope s.heap.objs.size f cd :: outer
  ex := []
  calm := true
  fn := fun _ => true
  pn := []
  xe := fun e s' => wpAny (model P w) (A.deeper (envOfC qual scope s.heap.objs.size f cd)) (leaving (envOfC qual scope s.heap.objs.size f cd) e) (fun _ s'' => CX outer H s E e s'') (fun e' s'' => CX outer H s E e' s'') s'
theorem cell_has {sc : Scope} {n : Nat} {x : Str} (h : sc.names.lookup x = some .cell) : ∃ c, (cellsFrom n sc.names []).lookup x = some c := by
  have q := PySem.W.cellsFrom_some sc.names n [] (.inl h)
  exact Option.isSome_iff_exists.mp q
theorem inv_start {CX : CXT} {P : Program} {w : World} {K : PySem.W.Frag} {mg : Str → Option Value} {base : Heap} {N ps : List Str} {qual : Str} {scope : Scope} {f : Addr} {cd : Value} {A : Around} {outer : List Env} {s s1 : Shared} {H : Hp} {E : XK} {us : List Value} {vs : List V}
    (S : FnScope N ps scope) (hd : A.handled = none) (e0 : Env0 P w K mg base A outer s H) (hl : vs.length = ps.length) (r : Vals vs us)
    (x : InCallC s s.heap.objs.size (bindL (envOfC qual scope s.heap.objs.size f cd).kindOf (ps.zip us) fun _ => none) (cellsFrom (s.heap.objs.size + 1) scope.names []) (bindC (envOfC qual scope s.heap.objs.size f cd).kindOf (ps.zip us) fun _ => none) s1) :
    Inv (cxOf CX P w K mg base N qual scope f cd A outer s H E) [] (start N vs) H s1 := by
  have hpl : ps.length ≤ N.length := by have := congrArg List.length S.pre; rw [List.length_take] at this; omega
  obtain ⟨h1, tk, rfl, hk⟩ := x.done
  have noA : ∀ b : Addr, b ∉ (cxOf CX P w K mg base N qual scope f cd A outer s H E).ex := fun b z => absurd (show b ∈ ([] : List Addr) from z) (by simp)
  refine ⟨⟨e0.mod, S.kind, rfl, rfl, Nat.le_refl _, fun y z c h1 h2 => ?_, fun y hy => ?_, fun y c _ h => ?_, fun _ => hd, Around.frames_deeper e0.frames, .inr ⟨rfl, rfl⟩, fun b z => absurd z (noA b), e0.bs, e0.bsz, fun b _ _ => noA b, fun b z => absurd z (noA b), e0.funs, e0.frf⟩,
    rfl, e0.bare, Un.kept hk, ⟨_, x.toInCall.ns, fun i y v h1 h2 h3 => ?_⟩, fun y c h => ⟨_, x.cell y c h⟩, e0.hok.fresh (Nat.le_refl _), fun y c h => ?_, fun p hp => absurd (show p ∈ ([] : List (Addr × Obj)) from hp) (by simp), e0.hok.kept hk, ?_⟩
  · exact name_of_addr x.apart (PySem.mem_of_lookup h1) (PySem.mem_of_lookup h2)
  · have hy : scope.names.lookup y = some .cell ∨ scope.names.lookup y = some .free := hy
    rcases hy with hy | hy
    · exact cell_has hy
    · exact absurd rfl (S.nofree _ (PySem.mem_of_lookup hy))
  · exact Nat.le_of_lt (x.above y c (PySem.mem_of_lookup h))
  · have hi : i < vs.length := by
      unfold start at h2
      by_cases hi : i < vs.length
      · exact hi
      · rw [List.getElem?_append_right (by simpa using hi)] at h2
        rw [List.getElem?_replicate] at h2
        split at h2 <;> cases h2
    have ha : vs[i]? = some v := by
      unfold start at h2
      rw [List.getElem?_append_left (by simpa using hi), List.getElem?_map] at h2
      cases e : vs[i]? with
      | none => rw [e] at h2; cases h2
      | some a => rw [e] at h2; cases h2; rfl
    obtain ⟨u, hu, rv⟩ := r.get ha
    have hp : ps[i]? = some y := by
      rw [← S.pre, List.getElem?_take_of_lt (by omega)]; exact h1
    have ndP : ps.Nodup := by rw [← S.pre]; exact S.nd.sublist (List.take_sublist _ _)
    refine ⟨u, rv, ?_⟩
    rcases S.par y (List.mem_of_getElem? hp) with k | k
    · exact .inl ⟨k, bindL_get ndP hp hu k⟩
    · obtain ⟨c, e⟩ := cell_has (n := s.heap.objs.size + 1) k
      refine .inr ⟨.inl k, c, e, ?_⟩
      have q := x.cell y c e
      rw [bindC_get ndP hp hu (by show scope.names.lookup y ≠ _; rw [k]; decide)] at q
      exact q
  · exact e0.hok.fresh (Nat.le_of_lt (x.above y c (PySem.mem_of_lookup h)))
  · unfold start
    show _ = N.length
    rw [List.length_append, List.length_map, List.length_replicate]
    omega
theorem fn_of {CX : CXT} {P : Program} {w : World} {K : PySem.W.Frag} {mg : Str → Option Value} {base : Heap} {k : Nat} {f : Addr} {name qual : Str} {params : Arguments} {body : List Stmt} {scope : Scope} {dV kV doc pm cdv ct oc : Value} {an od : Option Addr}
    {osl : Array (Option Value)} {N ps : List Str} {sp : Sp} (lk : K.lookup f = some ⟨oc, od, .func (PySem.W.fnOf name qual params body scope dV kV doc pm an cdv ct), osl⟩) (hcd : PySem.W.codeIn K cdv qual = true) (S : FnScope N ps scope)
    (len : ∀ vs H Q E, sp vs H Q E → vs.length = ps.length)
    (hbody : ∀ (A : Around) (outer : List Env) (s : Shared) (H : Hp) (vs : List V) (Q : VK) (E : XK), Room k (A.deeper (envOfC qual scope s.heap.objs.size f cdv)) → sp vs H Q E →
      ∃ t, PSs (cxOf CX P w K mg base N qual scope f cdv A outer s H E) body t ∧ t { nx := fun _ H' => Q .non H', rt := Q } (start N vs) H) :
    FnOk P w K mg base CX (k + 1) f (PySem.W.fnOf name qual params body scope dV kV doc pm an cdv ct) ps sp := by
  refine ⟨len, fun A outer s H args us vs Q E hr e0 hb r hsp => ?_⟩
  have hl := len _ _ _ _ hsp
  have KX : K.In s.heap := e0.mod.kin.keeps fun b o e => (e0.bs b o e).1
  have lim : s.heap.NoLimit := e0.mod.nolimit.keeps fun b o e => (e0.bs b o e).1
  have hkind : ∀ y ∈ ps.zip us, scope.names.lookup y.1 = some .local ∨ (scope.names.lookup y.1 = some .cell ∧ ((cellsFrom (s.heap.objs.size + 1) scope.names []).lookup y.1).isSome = true) := fun ⟨n, v⟩ hy => by
    rcases S.par n (List.of_mem_zip hy).1 with q | q
    · exact .inl q
    · exact .inr ⟨q, PySem.W.cellsFrom_some _ _ _ (.inl q)⟩
  refine codeAny_call_function hr.depth (KX _ _ lk) rfl S.co S.gen rfl (PySem.W.codeRec_of KX hcd) (hb _ _ _ _ ?_)
  refine wpAny_newFunctionEnv_cells S.kind hkind fun env he s1 x => ?_
  subst he
  refine ⟨lim.keeps x.toInCall.keep, codeAny_func ?_⟩
  obtain ⟨t, ht, hq⟩ := hbody A outer s H vs Q E (hr.deeper _) hsp
  have I : Inv (cxOf CX P w K mg base N qual scope f cdv A outer s H E) [] (start N vs) H s1 := inv_start S hr.hd e0 hl r x
  refine wpAny_mono (ht [] s1 (start N vs) H _ I hq) (fun fl s' hs => ?_) fun e s' hs => hs
  have fin : ∀ {σ' : St} {H' : Hp} {v : V} {u : Value}, Inv (cxOf CX P w K mg base N qual scope f cdv A outer s H E) [] σ' H' s' → RelV v u → Q v H' → CE outer P w H s Q u s' :=
    fun {σ' H' v u} J rv q => ⟨v, H', J.os, J.bare, J.base, J.hok, rv, q⟩
  cases fl with
  | ret u =>
    obtain ⟨v, σ', H', J, rv, q⟩ := hs
    exact fin J rv q
  | next =>
    obtain ⟨σ', H', J, q⟩ := hs
    exact fin (v := V.non) (u := Value.none) J rfl q
  | brk =>
    obtain ⟨_, _, _, q⟩ := hs
    exact False.elim q
  | cont =>
    obtain ⟨_, _, _, q⟩ := hs
    exact False.elim q
end L2
namespace L2
open PySem PySem.Spec PyProof.Rows
section
variable {X : Cx} {x : Str} {p pos : Pos} {e : Expr} {es : List Expr} {t : TA} {id T : String} {r : List V → Hp → VK → Prop}
def tCB (r : List V → Hp → VK → Prop) (t : TA) : TE := fun σ H Q => t σ H fun vs H1 => r vs H1 Q
theorem pe_callB (hc : CallR X (.builtin id) r) (hg : Gl X x) (hm : X.mg x = none) (hv : bootBuiltins x = some (.builtin id)) (ha : PA X (e :: es) t) (hn : x ≠ "__name__" := by decide) (hdb : (x == ("__debug__" : Str)) = false := by decide)
    (he : starEach (e :: es) X.env = (false, eval e X.env) :: starEach es X.env := by rfl) (hpl : (backTo pos (starEach es X.env)).any (·.1) = false := by rfl) : PE X (.Call (.Name x p) (e :: es) [] pos) (tCB r t) := by
  intro pins s σ H Q I h
  refine wpAny_Call_Name_kw (ld_blt I hg hm hv ?_ hn hdb)
  exact PyProof.Rows.callWith_builtin1 (thn (ha pos pins s σ H _ I h) fun us s1 ⟨vs, H1, I1, r1, q1⟩ => hc pins s1 σ H1 vs us Q I1 r1 q1) he hpl
theorem pe_callTy (hc : CallR X (.type T) r) (hg : Gl X x) (hm : X.mg x = none) (hv : bootBuiltins x = some (.type T)) (ha : PA X (e :: es) t) (hn : x ≠ "__name__" := by decide) (hdb : (x == ("__debug__" : Str)) = false := by decide)
    (he : starEach (e :: es) X.env = (false, eval e X.env) :: starEach es X.env := by rfl) (hpl : (backTo pos (starEach es X.env)).any (·.1) = false := by rfl) : PE X (.Call (.Name x p) (e :: es) [] pos) (tCB r t) := by
  intro pins s σ H Q I h
  refine wpAny_Call_Name_kw (ld_blt I hg hm hv ?_ hn hdb)
  exact PyProof.Rows.callWith_type1 (thn (ha pos pins s σ H _ I h) fun us s1 ⟨vs, H1, I1, r1, q1⟩ => hc pins s1 σ H1 vs us Q I1 r1 q1) he hpl
end
end L2
namespace HT
open PySem PyProof.Rows
section
open PySem.SeqAt
open PySem.AutoSeq1 (wpAny_loadPart')
open PySem.MeetsSeq PySem.MeetsSeq2 PySem.MeetsSeq3
end
section
variable {prog : Program} {w : World} {A : Around} {E : Value → Shared → Prop} {s : Shared}
theorem cat_tup {t b : Addr} {vs ws : List Value} {Q : Value → Shared → Prop} (ht : IsTup s.heap t vs.toArray) (hb : IsTup s.heap b ws.toArray) (hv : vs ≠ [])
    (h1 : ws = [] → Q (.ref t) s) (h2 : ws ≠ [] → Q (.ref s.heap.objs.size) { s with heap := s.heap.push { cls := .type "tuple", data := .seq (vs ++ ws).toArray } })
    (hsz : vs.length + ws.length ≤ sizeLine) : wpAny (model prog w) A (binaryOp .Add (.ref t) (.ref b)) Q E s := by
  obtain ⟨⟨cls, dd, data, sl⟩, ho, hc, n, hd⟩ := id ht
  obtain ⟨⟨cls2, dd2, data2, sl2⟩, ho2, hc2, n2, hd2⟩ := id hb
  simp only at hc hd hc2 hd2
  subst hc hd hc2 hd2
  have e : vs.toArray ++ ws.toArray = (vs ++ ws).toArray := by simp
  by_cases hw : ws = []
  · exact concat_meets ⟨_, ho, rfl⟩ ⟨_, ho2, rfl⟩ noFill_tuple_add seq_tuple_add PySem.F.slot_tuple_add PySem.F.entry_tuple_add (PySem.F.args_tuple_add_2 _ _)
      (tuple_addW1 t b vs.toArray ws.toArray n n2 dd dd2 sl sl2 (by simpa using hv) (by simp [hw])) ⟨ho, ho2, h1 hw⟩
  · refine concat_meets ⟨_, ho, rfl⟩ ⟨_, ho2, rfl⟩ noFill_tuple_add seq_tuple_add PySem.F.slot_tuple_add PySem.F.entry_tuple_add (PySem.F.args_tuple_add_2 _ _)
      (tuple_addW2 t b vs.toArray ws.toArray n n2 dd dd2 sl sl2 (by simpa using hv) (by simpa using hw) (by rw [List.size_toArray, List.size_toArray]; exact hsz)) ⟨ho, ho2, ?_⟩
    rw [e]
    exact h2 hw
def sIx (n d : Nat) : Option Int → Nat
  | none => d
  | some v => if v < 0 then (v + (n : Int)).toNat else min v.toNat n
theorem sIx_nat (n d k : Nat) : sIx n d (some (k : Int)) = min k n := by
  show (if (k : Int) < 0 then ((k : Int) + (n : Int)).toNat else min (k : Int).toNat n) = min k n
  rw [if_neg (by omega), Int.toNat_natCast]
theorem sIx_le (n d : Nat) (hd : d ≤ n) (o : Option Int) : sIx n d o ≤ n := by
  cases o with
  | none => exact hd
  | some v =>
    show (if v < 0 then (v + (n : Int)).toNat else min v.toNat n) ≤ n
    by_cases hv : v < 0
    · rw [if_pos hv]; omega
    · rw [if_neg hv]; exact Nat.min_le_right _ _
theorem clip_eq (v : Int) (n d : Nat) : (if v < 0 then max (v + (n : Int)) 0 else min v (n : Int)) = ((sIx n d (some v) : Nat) : Int) := by
  show (if v < 0 then max (v + (n : Int)) 0 else min v (n : Int)) = (((if v < 0 then (v + (n : Int)).toNat else min v.toNat n) : Nat) : Int)
  by_cases hv : v < 0
  · simp only [if_pos hv]; omega
  · simp only [if_neg hv]; omega
theorem adjust_gen (lo hi : Option Int) (n : Nat) : Builtin.Slice.sliceAdjust lo hi 1 (n : Int) = (((sIx n 0 lo : Nat) : Int), ((sIx n n hi : Nat) : Int)) := by
  have h1 : ¬ ((1 : Int) < 0) := by omega
  unfold Builtin.Slice.sliceAdjust
  simp only [h1, if_false]
  refine Prod.ext ?_ ?_
  · cases lo with
    | none => rfl
    | some v => exact clip_eq v n 0
  · cases hi with
    | none => rfl
    | some v => exact clip_eq v n n
theorem places_gen (i j : Nat) : Builtin.Slice.slicePlaces (i : Int) (j : Int) 1 = j - i := by
  unfold Builtin.Slice.slicePlaces
  have h1 : (1 : Int) > 0 := by omega
  simp only [h1, if_true, Int.ediv_one]
  split <;> omega
theorem slicePart_ {v : Value} {o : Option Int} {Q : Option Int → Shared → Prop} (p : IsPart v o) (h : Q o s) : wpAny (model prog w) A (Builtin.Slice.slicePartIndex v) Q E s := by
  cases p with
  | none => exact slicePart_none h
  | int i t => exact slicePart_int h
theorem sliceApplied_gen {sl : Addr} {vl vu : Value} {lo hi : Option Int} {n : Nat} {Q : Int × Int × Nat → Shared → Prop} (hs : s.heap.IsSliceOf sl vl vu .none) (pl : IsPart vl lo) (pu : IsPart vu hi)
    (h : Q (((sIx n 0 lo : Nat) : Int), 1, sIx n n hi - sIx n 0 lo) s) : wpAny (model prog w) A (Builtin.Slice.sliceApplied (.ref sl) (pure (n : Int))) Q E s := by
  obtain ⟨os, hos, hcs, hds⟩ := id hs
  unfold Builtin.Slice.sliceApplied Builtin.Slice.sliceFields
  refine wpAny_bind (wpAny_bind (wpAny_field hos hds (x := vl) rfl (wpAny_bind (wpAny_field hos hds (x := vu) rfl (wpAny_bind (wpAny_field hos hds (x := .none) rfl (wpAny_pure ?_)))))))
  refine wpAny_bind (slicePart_none ?_)
  show wpAny _ _ (if ((1 : Int) == 0) = true then _ else _) _ _ s
  rw [if_neg (by decide)]
  refine wpAny_bind (slicePart_ pl (wpAny_bind (slicePart_ pu (wpAny_bind (wpAny_pure ?_)))))
  show wpAny _ _ (match Builtin.Slice.sliceAdjust lo hi 1 (n : Int) with | (lo, hi) => pure (lo, (1 : Int), Builtin.Slice.slicePlaces lo hi 1)) _ _ s
  rw [adjust_gen lo hi n]
  show wpAny _ _ (pure (((sIx n 0 lo : Nat) : Int), (1 : Int), Builtin.Slice.slicePlaces ((sIx n 0 lo : Nat) : Int) ((sIx n n hi : Nat) : Int) 1)) _ _ s
  rw [places_gen]
  exact wpAny_pure h
theorem pick_gen (xs : Array Value) (i k : Nat) : ((List.range k).filterMap fun (m : Nat) => xs[((i : Int) + (m : Int) * 1).toNat]?).toArray = ((xs.toList.drop i).take k).toArray := by
  have e : (fun (m : Nat) => xs[((i : Int) + (m : Int) * 1).toNat]?) = fun m => xs[i + m]? := by
    funext m
    have : ((i : Int) + (m : Int) * 1).toNat = i + m := by omega
    rw [this]
  rw [e]
  have := pick_run xs i k
  rw [List.filterMap_map] at this
  have e2 : ((fun x => xs[x]?) ∘ fun x => i + x) = fun m => xs[i + m]? := rfl
  rw [e2] at this
  rw [this]
theorem getItem_tuple_cut {t sl : Addr} {items : Array Value} {vl vu : Value} {lo hi : Option Int} {Q : Value → Shared → Prop} (ht : IsTup s.heap t items) (hs : s.heap.IsSliceOf sl vl vu .none) (pl : IsPart vl lo) (pu : IsPart vu hi)
    (hw : ¬ (sIx items.size 0 lo = 0 ∧ sIx items.size items.size hi = items.size))
    (h : Q (.ref s.heap.objs.size) { s with heap := s.heap.push { cls := .type "tuple", data := .seq ((items.toList.drop (sIx items.size 0 lo)).take (sIx items.size items.size hi - sIx items.size 0 lo)).toArray } })
    (hsz : items.size ≤ sizeLine) : wpAny (model prog w) A (getItem (.ref t) (.ref sl)) Q E s := by
  have htake : sizeOk (.seq ((items.toList.drop (sIx items.size 0 lo)).take (sIx items.size items.size hi - sIx items.size 0 lo)).toArray) := by
    show ((items.toList.drop (sIx items.size 0 lo)).take (sIx items.size items.size hi - sIx items.size 0 lo)).toArray.size ≤ sizeLine
    rw [List.size_toArray, List.length_take, List.length_drop, Array.length_toList]
    omega
  have hj : sIx items.size items.size hi ≤ items.size := sIx_le _ _ (Nat.le_refl _) hi
  obtain ⟨os, hos, hcs, hds⟩ := id hs
  have hTs : s.TypeIs (.ref sl) "slice" := ⟨os, hos, hcs⟩
  unfold getItem
  try with_reducible refine wpAny_holding ?_
  first | refine wpAny_bind (wpAny_pure ?_) | skip
  refine wpAny_bind (wpAny_sequenceKey ht.typeIs (by decide) ?_)
  refine wpAny_bind (wpAny_callSpecial?_slot (name := Str.ofString "__getitem__") ht.typeIs PyProof.Rows.slot_tuple_getitem
    (wpAny_call_entry PyProof.Rows.slot_tuple_getitem ht.typeIs entry_tuple_getitem ?_ (args_tuple_getitem _ _)))
  show wpAny _ _ (Builtin.Tuple.tupleItemsOf (.ref t) >>= _) _ _ s
  refine wpAny_bind (tupleItemsOf_ ht ?_)
  refine wpAny_bind (wpAny_typeOf hTs ?_)
  rw [if_pos (by decide)]
  refine wpAny_bind (sliceApplied_gen hs pl pu ?_)
  have hno : ¬ ((((sIx items.size 0 lo : Nat) : Int) == 0 && (1 : Int) == 1 && (sIx items.size items.size hi - sIx items.size 0 lo) == items.size) = true) := by
    intro q
    rw [Bool.and_eq_true, Bool.and_eq_true] at q
    have q1 : ((sIx items.size 0 lo : Nat) : Int) = 0 := eq_of_beq q.1.1
    have q2 : sIx items.size items.size hi - sIx items.size 0 lo = items.size := eq_of_beq q.2
    exact hw ⟨by omega, by omega⟩
  show wpAny _ _ (if (((sIx items.size 0 lo : Nat) : Int) == 0 && (1 : Int) == 1 && (sIx items.size items.size hi - sIx items.size 0 lo) == items.size) = true then _ else _) _ _ s
  rw [if_neg hno, pick_gen]
  first
    | exact wpAny_bind (m := Builtin.Tuple.tupleExact _) (wpAny_newObj_type (wpAny_pure ⟨_, rfl, wpAny_pure h⟩) htake)
    | exact wpAny_bind (m := Builtin.Tuple.tupleExact _) (wpAny_newObj_type (wpAny_bind (wpAny_pure (wpAny_pure ⟨_, rfl, wpAny_pure h⟩))) htake)
    | exact wpAny_bind (wpAny_bind (m := Builtin.Tuple.tupleExact _) (wpAny_newObj_type (wpAny_pure (wpAny_pure ⟨_, rfl, wpAny_pure h⟩)) htake))
    | exact wpAny_bind (wpAny_bind (m := Builtin.Tuple.tupleExact _) (wpAny_newObj_type (wpAny_pure ⟨_, rfl, wpAny_pure h⟩) htake))
end
end HT
namespace L2
open PySem PySem.Spec PyProof.Rows
abbrev TO := St → Hp → (Option Int → Hp → Prop) → Prop
def PO (X : Cx) (e : Option Expr) (t : TO) : Prop :=
  ∀ (pins : List (Addr × Obj)) (s : Shared) (σ : St) (H : Hp) (Q : Option Int → Hp → Prop), Inv X pins σ H s → t σ H Q →
    wpAny (model X.prog X.w) X.A (evalPart e X.env) (fun u s' => ∃ o H', Inv X pins σ H' s' ∧ IsPart u o ∧ Q o H') X.xe s
def tNoPart : TO := fun _ H Q => Q none H
def tPart (t : TE) : TO := fun σ H Q => t σ H fun x H1 => ∃ i, x = .int i ∧ Q (some i) H1
section
variable {X : Cx} {e : Expr} {te : TE} {lo hi : Option Expr} {tl th : TO} {pos p2 : Pos}
theorem po_none : PO X none tNoPart := by
  intro pins s σ H Q I h
  rw [evalPart_none]
  exact wpAny_pure ⟨none, H, I, .none, h⟩
theorem po_some (h : PE X e te) : PO X (some e) (tPart te) := by
  intro pins s σ H Q I hw
  rw [evalPart_some]
  refine thn (h pins s σ H _ I hw) fun u s1 ⟨x, H1, I1, r1, q1⟩ => ?_
  obtain ⟨i, rfl, q⟩ := q1
  obtain ⟨t, rfl⟩ := r1
  exact ⟨some i, H1, I1, .int i t, q⟩
def SlR (X : Cx) (r : V → Option Int → Option Int → Hp → VK → Prop) : Prop :=
  ∀ (pins : List (Addr × Obj)) (s : Shared) (σ : St) (H : Hp) (x : V) (v vl vu : Value) (lo hi : Option Int) (sl : Addr) (Q : VK), Inv X pins σ H s → RelV x v → s.heap.IsSliceOf sl vl vu .none → IsPart vl lo → IsPart vu hi → r x lo hi H Q →
    ∃ T id, typeLookup (.type T) "__getitem__" = pure (some (.builtin id)) ∧ s.TypeIs v T ∧ wpAny (model X.prog X.w) X.A (getItem v (.ref sl)) (EP X pins σ Q) X.xe s
theorem SlR.or {r r' : V → Option Int → Option Int → Hp → VK → Prop} (h : SlR X r) (h' : SlR X r') : SlR X (fun x lo hi H Q => r x lo hi H Q ∨ r' x lo hi H Q) := by
  intro pins s σ H x v vl vu lo hi sl Q I rx hs pl pu q
  rcases q with q | q
  · exact h pins s σ H x v vl vu lo hi sl Q I rx hs pl pu q
  · exact h' pins s σ H x v vl vu lo hi sl Q I rx hs pl pu q
def tSl (r : V → Option Int → Option Int → Hp → VK → Prop) (te : TE) (tl th : TO) : TE := fun σ H Q => te σ H fun x H1 => tl σ H1 fun l H2 => th σ H2 fun u H3 => r x l u H3 Q
theorem pe_slice {r : V → Option Int → Option Int → Hp → VK → Prop} (hr : SlR X r) (he : PE X e te) (hl : PO X lo tl) (hu : PO X hi th) : PE X (.Subscript e (.Slice lo hi none p2) pos) (tSl r te tl th) := by
  intro pins s σ H Q I h
  refine Subscript_ (thn (he pins s σ H _ I h) fun v s1 ⟨x, H1, I1, r1, q1⟩ => ?_)
  refine wpAny_Slice (thn (hl pins s1 σ H1 _ I1 q1) fun vl s2 ⟨l, H2, I2, pl, q2⟩ => thn (hu pins s2 σ H2 _ I2 q2) fun vu s3 ⟨u, H3, I3, pu, q3⟩ => ?_)
  rw [evalPart_none]
  refine wpAny_pure ?_
  have I4 : Inv X pins σ H3 { s3 with heap := s3.heap.push { cls := .type "slice", data := .fields #[vl, vu, .none] } } := I3.kept (t' := s3.toks) fun b ob q => Heap.get?_push_of_some _ q
  obtain ⟨T, id, hT, ht, hg⟩ := hr pins { s3 with heap := s3.heap.push { cls := .type "slice", data := .fields #[vl, vu, .none] } } σ H3 x v vl vu l u s3.heap.objs.size Q I4 r1 (Heap.IsSliceOf.new ..) pl pu q3
  show wpAny (model X.prog X.w) X.A (subscriptTail e (.Slice lo hi none p2) v (.ref s3.heap.objs.size)) (EP X pins σ Q) X.xe { s3 with heap := s3.heap.push { cls := .type "slice", data := .fields #[vl, vu, .none] } }
  exact tail_any (ops := [.ref s3.heap.objs.size, v]) ht hT hg (by with_unfolding_all rfl)
def cutV (xs : List V) (lo hi : Option Int) : List V := (xs.drop (HT.sIx xs.length 0 lo)).take (HT.sIx xs.length xs.length hi - HT.sIx xs.length 0 lo)
theorem cutV_length (xs : List V) (lo hi : Option Int) : (cutV xs lo hi).length ≤ xs.length := by
  unfold cutV
  rw [List.length_take, List.length_drop]
  omega
def rSlT (K : PySem.W.Frag) : V → Option Int → Option Int → Hp → VK → Prop := fun x lo hi H Q => ∃ a xs, x = .ref a ∧ SqT K H a xs ∧
  ¬ (HT.sIx xs.length 0 lo = 0 ∧ HT.sIx xs.length xs.length hi = xs.length) ∧ ∀ p, H p = none → Q (.ref p) (upd H p (.tup (cutV xs lo hi)))
theorem sl_tup : SlR X (rSlT X.K) := by
  intro pins s σ H x v vl vu lo hi sl Q I rx hs pl pu h
  obtain ⟨a, xs, rfl, hx, hw, q⟩ := h
  cases rx
  obtain ⟨its, r, ht, hz⟩ := I.tuple hx
  have hlen : its.toArray.size = xs.length := by rw [List.size_toArray]; exact r.length.symm
  refine ⟨"tuple", _, PyProof.Rows.slot_tuple_getitem.lookup, ht.typeIs, ?_⟩
  refine HT.getItem_tuple_cut ht hs pl pu (by rw [hlen]; exact hw) ?_ (by rw [hlen]; exact hz)
  rw [hlen]
  refine ⟨.ref s.heap.objs.size, _, I.laid (t' := s.toks) (o := .tup (cutV xs lo hi)) (fun b ob q => Heap.get?_push_of_some _ q) (Nat.le_refl _) ?_, rfl, q _ (I.hok.fresh (Nat.le_refl _))⟩
  exact ⟨Nat.le_trans (cutV_length xs lo hi) hz, _, (r.drop (HT.sIx xs.length 0 lo)).take (HT.sIx xs.length xs.length hi - HT.sIx xs.length 0 lo), IsTup.new _ _, NoDi.new _ _⟩
def rCatT (K : PySem.W.Frag) : R2 := fun x y H Q => ∃ a b xs ys, x = .ref a ∧ y = .ref b ∧ SqT K H a xs ∧ SqT K H b ys ∧ xs ≠ [] ∧ xs.length + ys.length ≤ sizeLine ∧
  (ys = [] → Q (.ref a) H) ∧ (ys ≠ [] → ∀ p, H p = none → Q (.ref p) (upd H p (.tup (xs ++ ys))))
theorem Vals.nil_iff {xs : List V} {us : List Value} (r : Vals xs us) : us = [] ↔ xs = [] := by
  cases r with
  | nil => simp
  | cons _ _ => simp
theorem op_catT : OpR X (binaryOp .Add) (rCatT X.K) := by
  intro pins s σ H x y v u Q I rx ry h
  obtain ⟨a, b, xs, ys, rfl, rfl, ha, hb, hx, hz, q1, q2⟩ := h
  cases rx
  cases ry
  obtain ⟨its, r1, p1, _⟩ := I.tuple ha
  obtain ⟨its2, r2, p2, _⟩ := I.tuple hb
  refine HT.cat_tup p1 p2 (fun z => hx (r1.nil_iff.mp z)) (fun z => ⟨.ref a, H, I, rfl, q1 (r2.nil_iff.mp z)⟩) (fun z => ?_) (by rw [← r1.length, ← r2.length]; exact hz)
  refine ⟨.ref s.heap.objs.size, _, I.laid (t' := s.toks) (o := .tup (xs ++ ys)) (fun b ob q => Heap.get?_push_of_some _ q) (Nat.le_refl _) ?_, rfl, q2 (fun w => z (r2.nil_iff.mpr w)) _ (I.hok.fresh (Nat.le_refl _))⟩
  exact ⟨by rw [List.length_append]; exact hz, _, r1.append r2, IsTup.new _ _, NoDi.new _ _⟩
end
end L2
namespace L2
open PySem PySem.Spec PyProof.Rows
def ixN (n : Nat) (i : Int) : Option Nat := if 0 ≤ i then (if i < n then some i.toNat else none) else if -(n : Int) ≤ i then some (i + n).toNat else none
def atI {α : Type} (xs : List α) (i : Int) : Option α := (ixN xs.length i).bind fun j => xs[j]?
theorem ixN_seq {n : Nat} {i : Int} {j : Nat} (h : ixN n i = some j) : seqIndex? i n = some j ∧ j < n ∧ -(n : Int) ≤ i ∧ i < n := by
  unfold ixN at h
  by_cases h0 : 0 ≤ i
  · rw [if_pos h0] at h
    by_cases h1 : i < n
    · rw [if_pos h1] at h
      have e : i.toNat = j := Option.some.inj h
      exact ⟨by rw [seqIndex_of h0 h1, e], by omega, by omega, h1⟩
    · rw [if_neg h1] at h; cases h
  · rw [if_neg h0] at h
    by_cases h1 : -(n : Int) ≤ i
    · rw [if_pos h1] at h
      have e : (i + n).toNat = j := Option.some.inj h
      exact ⟨by rw [seqIndex_neg (by omega) h1, e], by omega, h1, by omega⟩
    · rw [if_neg h1] at h; cases h
theorem atI_get {α : Type} {xs : List α} {i : Int} {v : α} (h : atI xs i = some v) : ∃ j, seqIndex? i xs.length = some j ∧ xs[j]? = some v ∧ j < xs.length ∧ -(xs.length : Int) ≤ i ∧ i < xs.length := by
  unfold atI at h
  cases e : ixN xs.length i with
  | none => rw [e] at h; cases h
  | some j =>
    rw [e] at h
    obtain ⟨h1, h2, h3, h4⟩ := ixN_seq e
    exact ⟨j, h1, h, h2, h3, h4⟩
theorem atI_nat {α : Type} {xs : List α} {j : Nat} {v : α} (h : xs[j]? = some v) : atI xs (j : Int) = some v := by
  have hj : j < xs.length := (List.getElem?_eq_some_iff.mp h).1
  have e : ixN xs.length (j : Int) = some j := by
    unfold ixN
    rw [if_pos (by omega), if_pos (by omega)]; simp
  unfold atI; rw [e]; exact h
def PlainIx (b : Expr) : Prop := ∀ o i, subscripted b false o i = operate [o, i] (getItem o i)
def IxR (X : Cx) (r : R2) : Prop :=
  ∀ (value slice : Expr) (pins : List (Addr × Obj)) (s : Shared) (σ : St) (H : Hp) (x y : V) (v u : Value) (Q : VK), Inv X pins σ H s → RelV x v → RelV y u → r x y H Q →
    subscripted slice false v u = operate [v, u] (getItem v u) → wpAny (model X.prog X.w) X.A (subscriptTail value slice v u) (EP X pins σ Q) X.xe s
def MtR (X : Cx) (id : String) (r : V → List V → Hp → VK → Prop) : Prop :=
  ∀ (pins : List (Addr × Obj)) (s : Shared) (σ : St) (H : Hp) (x : V) (xs : List V) (v : Value) (us : List Value) (Q : VK), Inv X pins σ H s → RelV x v → Vals xs us → r x xs H Q →
    wpAny (model X.prog X.w) X.A (call (.builtin id) (v :: us)) (EP X pins σ Q) X.xe s
section
variable {X : Cx} {a b : Expr} {ta tb : TE} {pos : Pos}
theorem IxR.or {r r' : R2} (h : IxR X r) (h' : IxR X r') : IxR X (fun x y H Q => r x y H Q ∨ r' x y H Q) := by
  intro value slice pins s σ H x y v u Q I rx ry q hs
  rcases q with q | q
  · exact h value slice pins s σ H x y v u Q I rx ry q hs
  · exact h' value slice pins s σ H x y v u Q I rx ry q hs
theorem pe_ix {r : R2} (hr : IxR X r) (ha : PE X a ta) (hb : PE X b tb) (hs : PlainIx b) : PE X (.Subscript a b pos) (tOp r ta tb) := by
  intro pins s σ H Q I h
  exact Subscript_ (binT ha hb I h fun v u s2 x y H2 I2 rx ry q => hr a b pins s2 σ H2 x y v u Q I2 rx ry q (hs _ _))
def rIxL (K : PySem.W.Frag) : R2 := fun x y H Q => ∃ p xs i v, x = .ref p ∧ y = .int i ∧ SqL K H p xs ∧ atI xs i = some v ∧ Q v H
def rIxT (K : PySem.W.Frag) : R2 := fun x y H Q => ∃ p xs i v, x = .ref p ∧ y = .int i ∧ SqT K H p xs ∧ atI xs i = some v ∧ Q v H
def rIxS : R2 := fun x y H Q => ∃ z i c, x = .str z ∧ y = .int i ∧ z.length ≤ sizeLine ∧ atI z.cps.toList i = some c ∧ Q (.str ⟨#[c]⟩) H
theorem ix_list : IxR X (rIxL X.K) := by
  intro value slice pins s σ H x y v u Q I rx ry h hs
  obtain ⟨p, xs, i, z, rfl, rfl, hq, he, q⟩ := h
  cases rx
  obtain ⟨t, rfl⟩ := ry
  obtain ⟨its, r, pl, hz⟩ := I.list hq
  obtain ⟨j, h1, h2, h3, h4, h5⟩ := atI_get he
  obtain ⟨w, ew, rw'⟩ := r.get h2
  have hl := r.length
  have hn := line63
  have fin : EP X pins σ Q w s := ⟨z, H, I, rw', q⟩
  by_cases h0 : 0 ≤ i
  · have hj : i.toNat = j := by
      rw [seqIndex_of h0 h5] at h1
      exact Option.some.inj h1
    exact item_listR pl.isList h0 (by omega) (by rw [hj]; simpa using ew) fin hs
  · have hj : (i + (its.toArray.size : Int)).toNat = j := by
      rw [seqIndex_neg (by omega) h4] at h1
      rw [List.size_toArray, ← hl]
      exact Option.some.inj h1
    exact subscriptTail_builtinR (x := w) pl.isList.typeIs slot_list_getitem.lookup
      (wpAny_getItem_list_neg (Q := fun r s' => r = w ∧ EP X pins σ Q r s') pl.isList (by omega) (by rw [List.size_toArray] <;> omega) (by omega) (by rw [hj]; simpa using ew) ⟨rfl, fin⟩) hs
theorem ix_tup : IxR X (rIxT X.K) := by
  intro value slice pins s σ H x y v u Q I rx ry h hs
  obtain ⟨p, xs, i, z, rfl, rfl, hq, he, q⟩ := h
  cases rx
  obtain ⟨t, rfl⟩ := ry
  obtain ⟨its, r, pl, hz⟩ := I.tuple hq
  obtain ⟨j, h1, h2, h3, h4, h5⟩ := atI_get he
  obtain ⟨w, ew, rw'⟩ := r.get h2
  have hl := r.length
  have hn := line63
  have fin : EP X pins σ Q w s := ⟨z, H, I, rw', q⟩
  exact subscriptTail_builtinR (x := w) pl.typeIs slot_tuple_getitem.lookup
    (getItem_tuple (j := j) (Q := fun r s' => r = w ∧ EP X pins σ Q r s') pl (by omega) (by omega) (by rw [List.size_toArray, ← hl]; exact h1) (by simpa using ew) ⟨rfl, fin⟩) hs
theorem ix_str : IxR X rIxS := by
  intro value slice pins s σ H x y v u Q I rx ry h hs
  obtain ⟨z, i, c, rfl, rfl, hz, he, q⟩ := h
  obtain ⟨t, rfl⟩ := rx
  obtain ⟨t', rfl⟩ := ry
  obtain ⟨j, h1, h2, h3, h4, h5⟩ := atI_get he
  have hl : z.cps.toList.length = z.length := by simp [Str.length]
  rw [hl] at h1 h4 h5
  have hn := line63
  exact tail_any (typeIs_str s z t) slot_str_getitem.lookup (getItem_str (c := c) (by
    have e1 : decide (i < -(2 ^ 63 : Int)) = false := decide_eq_false (by omega)
    have e2 : decide (i ≥ 2 ^ 63) = false := decide_eq_false (by omega)
    rw [e1, e2, Bool.or_false]) (by rw [h1]; simpa using h2) ⟨.str ⟨#[c]⟩, H, I.tok _, ⟨_, rfl⟩, q⟩) hs
def rIx (K : PySem.W.Frag) : R2 := fun x y H Q => rIxL K x y H Q ∨ rIxT K x y H Q ∨ rIxS x y H Q
theorem ix_seq : IxR X (rIx X.K) := ix_list.or (ix_tup.or ix_str)
theorem mapSeq_set (its : List Value) (n j : Nat) (u : Value) : Obj.mapSeq (·.setIfInBounds j u) { cls := .type "list", data := .seq its.toArray n } = { cls := .type "list", data := .seq (its.set j u).toArray n } := by
  simp [Obj.mapSeq]
theorem Inv.lst {pins : List (Addr × Obj)} {σ : St} {H : Hp} {s : Shared} {p : Addr} {xs : List V} (I : Inv X pins σ H s) (h : H p = some (.lst xs)) :
    ∃ (its : List Value) (n : Nat), Vals xs its ∧ s.heap.get? p = some { cls := .type "list", data := .seq its.toArray n } ∧ xs.length ≤ sizeLine := by
  obtain ⟨z, its, n, r, e⟩ := I.hok p _ h
  exact ⟨its, n, r, e, z⟩
theorem Inv.lstUpd {pins : List (Addr × Obj)} {σ : St} {H : Hp} {s : Shared} {p : Addr} {xs ys : List V} {its its' : List Value} {n n' : Nat} {f : Obj → Obj} (I : Inv X pins σ H s) (h : H p = some (.lst xs))
    (ho : s.heap.get? p = some { cls := .type "list", data := .seq its.toArray n }) (hf : f { cls := .type "list", data := .seq its.toArray n } = { cls := .type "list", data := .seq its'.toArray n' }) (r : Vals ys its') (hz : ys.length ≤ sizeLine) (t : Nat) :
    Inv X pins σ (upd H p (.lst ys)) { s with heap := s.heap.update p f, toks := t } := by
  have e : (s.heap.update p f).get? p = some { cls := .type "list", data := .seq its'.toArray n' } := by
    rw [Heap.get?_update_self f ho (by rw [hf] <;> rfl), hf]
  refine I.write (x := p) (e := p) (by rw [h]; trivial) (.inl rfl) (fun b u hb q => (Heap.get?_update_other _ _ (Ne.symm hb)).trans q) ⟨_, e⟩ ?_
  exact ⟨hz, its', n', r, e⟩
def rSetL : V → V → V → Hp → (Hp → Prop) → Prop := fun o i v H Q => ∃ p xs k j, o = .ref p ∧ i = .int k ∧ H p = some (.lst xs) ∧ ixN xs.length k = some j ∧ Q (upd H p (.lst (xs.set j v)))
theorem set_list : PSet X rSetL := by
  intro pins s σ H o i v ov iv u Q I ro ri rv h
  obtain ⟨p, xs, k, j, rfl, rfl, hp, hj, q⟩ := h
  cases ro
  obtain ⟨t, rfl⟩ := ri
  obtain ⟨its, n, r, ho, hz⟩ := I.lst hp
  obtain ⟨h1, h2, h3, h4⟩ := ixN_seq hj
  have hl := r.length
  have hn := line63
  have I' : Inv X pins σ (upd H p (.lst (xs.set j v))) { s with heap := s.heap.update p (Obj.mapSeq (·.setIfInBounds j u)) } :=
    I.lstUpd hp ho (mapSeq_set its n j u) (r.set rv j) (by rw [List.length_set]; exact hz) s.toks
  by_cases h0 : 0 ≤ k
  · have hk : k.toNat = j := by
      rw [seqIndex_of h0 h4] at h1
      exact Option.some.inj h1
    exact PySem.W.ki_setAt ho h0 (by omega) (by rw [List.size_toArray, ← hl]; exact h4) (by rw [hk]; exact ⟨_, I', q⟩)
  · have hk : (k + (its.toArray.size : Int)).toNat = j := by
      rw [seqIndex_neg (by omega) h3] at h1
      rw [List.size_toArray, ← hl]
      exact Option.some.inj h1
    exact PySem.W.ki_setBack ho (by omega) (by rw [List.size_toArray, ← hl]; exact h3) (by omega) (by rw [hk]; exact ⟨_, I', q⟩)
theorem slice_bounds (lo hi : Option Int) (n : Nat) : (sliceBounds lo hi none n).1 = ((HT.sIx n 0 lo : Nat) : Int) ∧ (sliceBounds lo hi none n).2.1 = ((HT.sIx n n hi : Nat) : Int) ∧ (sliceBounds lo hi none n).2.2 = 1 := by
  refine ⟨?_, ?_, rfl⟩
  · cases lo with
    | none => simp [sliceBounds, HT.sIx]
    | some i =>
      simp only [sliceBounds, HT.sIx, Option.getD_none, show (1 : Int) > 0 by decide, if_true]
      by_cases h : i < 0
      · simp only [h, if_true] <;> omega
      · simp only [h, if_false] <;> omega
  · cases hi with
    | none => simp [sliceBounds, HT.sIx]
    | some i =>
      simp only [sliceBounds, HT.sIx, Option.getD_none, show (1 : Int) > 0 by decide, if_true]
      by_cases h : i < 0
      · simp only [h, if_true] <;> omega
      · simp only [h, if_false] <;> omega
theorem slicePick_cut (its : List Value) (lo hi : Option Int) : slicePick its.toArray lo hi none = ((its.drop (HT.sIx its.length 0 lo)).take (HT.sIx its.length its.length hi - HT.sIx its.length 0 lo)).toArray := by
  obtain ⟨h1, h2, h3⟩ := slice_bounds lo hi its.toArray.size
  unfold slicePick
  rw [h1, h2, h3]
  simp only [sliceRange_one, pick_run, List.size_toArray] <;> rfl
def rSlL (K : PySem.W.Frag) : V → Option Int → Option Int → Hp → VK → Prop := fun x lo hi H Q => ∃ a xs, x = .ref a ∧ SqL K H a xs ∧ ∀ p, H p = none → Q (.ref p) (upd H p (.lst (cutV xs lo hi)))
theorem sl_list : SlR X (rSlL X.K) := by
  intro pins s σ H x v vl vu lo hi sl Q I rx hs pl pu h
  obtain ⟨a, xs, rfl, hx, q⟩ := h
  cases rx
  obtain ⟨its, r, ht, hz⟩ := I.list hx
  have hlen := r.length
  refine ⟨"list", _, slot_list_getitem.lookup, ht.isList.typeIs, ?_⟩
  refine wpAny_getItem_list_slice ht.isList hs pl pu .none (by simp) ?_ (by rw [List.size_toArray] <;> omega)
  rw [slicePick_cut, ← hlen]
  refine ⟨.ref s.heap.objs.size, _, I.laid (t' := s.toks) (o := .lst (cutV xs lo hi)) (fun b ob q => Heap.get?_push_of_some _ q) (Nat.le_refl _) ?_, rfl, q _ (I.hok.fresh (Nat.le_refl _))⟩
  exact ⟨Nat.le_trans (cutV_length xs lo hi) hz, _, 0, (r.drop (HT.sIx xs.length 0 lo)).take (HT.sIx xs.length xs.length hi - HT.sIx xs.length 0 lo), Heap.get?_push_size _ rfl⟩
def flatV : V → Bool
  | .non => true
  | .bl _ => true
  | .int _ => true
  | .str _ => true
  | _ => false
def eqV : V → V → Bool
  | .non, .non => true
  | .bl a, .bl b => a == b
  | .bl a, .int b => (if a then 1 else 0) == b
  | .int a, .bl b => a == (if b then 1 else 0)
  | .int a, .int b => a == b
  | .str a, .str b => a == b
  | _, _ => false
theorem eqAt_V {A : Around} {s : Shared} {y x : V} {u v : Value} (ry : RelV y u) (rx : RelV x v) (fy : flatV y = true) (fx : flatV x = true) : SeqAt.EqAt A s u v (eqV y x) := by
  cases y with
  | non =>
    cases ry
    cases x with
    | non => cases rx; exact SeqAt.EqAt.same _
    | bl b => cases rx; exact SeqAt.EqAt.none_bool b
    | int b => obtain ⟨t, rfl⟩ := rx; exact SeqAt.EqAt.none_int b t
    | str b => obtain ⟨t, rfl⟩ := rx; exact SeqAt.EqAt.none_str b t
    | _ => exact absurd (show false = true from fx) Bool.false_ne_true
  | bl a =>
    cases ry
    cases x with
    | non => cases rx; exact SeqAt.EqAt.bool_none a
    | bl b => cases rx; exact SeqAt.EqAt.bool_bool a b
    | int b => obtain ⟨t, rfl⟩ := rx; exact SeqAt.EqAt.bool_int a b t
    | str b => obtain ⟨t, rfl⟩ := rx; exact SeqAt.EqAt.bool_str a b t
    | _ => exact absurd (show false = true from fx) Bool.false_ne_true
  | int a =>
    obtain ⟨t', rfl⟩ := ry
    cases x with
    | non => cases rx; exact SeqAt.EqAt.int_none a t'
    | bl b => cases rx; exact SeqAt.EqAt.int_bool a t' b
    | int b => obtain ⟨t, rfl⟩ := rx; exact SeqAt.EqAt.int_int a t' b t
    | str b => obtain ⟨t, rfl⟩ := rx; exact SeqAt.EqAt.int_str a t' b t
    | _ => exact absurd (show false = true from fx) Bool.false_ne_true
  | str a =>
    obtain ⟨t', rfl⟩ := ry
    cases x with
    | non => cases rx; exact SeqAt.EqAt.str_none a t'
    | bl b => cases rx; exact SeqAt.EqAt.str_bool a t' b
    | int b => obtain ⟨t, rfl⟩ := rx; exact SeqAt.EqAt.str_int a t' b t
    | str b => obtain ⟨t, rfl⟩ := rx; exact SeqAt.EqAt.str_str a t' b t
    | _ => exact absurd (show false = true from fx) Bool.false_ne_true
  | _ => exact absurd (show false = true from fy) Bool.false_ne_true
def eqU (x : V) (u : Value) : Bool := match u with
  | .none => eqV .non x
  | .bool b => eqV (.bl b) x
  | .int i _ => eqV (.int i) x
  | .str z _ => eqV (.str z) x
  | _ => false
theorem eqU_of {x y : V} {u : Value} (r : RelV y u) (f : flatV y = true) : eqU x u = eqV y x := by
  cases y with
  | non => cases r; rfl
  | bl b => cases r; rfl
  | int i => obtain ⟨t, rfl⟩ := r; rfl
  | str z => obtain ⟨t, rfl⟩ := r; rfl
  | _ => exact absurd (show false = true from f) Bool.false_ne_true
theorem any_eqU {x : V} : ∀ {xs : List V} {us : List Value}, Vals xs us → xs.all flatV = true → us.any (eqU x) = xs.any fun y => eqV y x
  | _, _, .nil, _ => rfl
  | y :: xs, u :: us, .cons r t, f => by
    rw [List.all_cons, Bool.and_eq_true] at f
    rw [List.any_cons, List.any_cons, eqU_of r f.1, any_eqU t f.2]
theorem mem_eqAt {A : Around} {s : Shared} {x : V} {v : Value} (rx : RelV x v) (fx : flatV x = true) : ∀ {xs : List V} {us : List Value}, Vals xs us → xs.all flatV = true → ∀ u ∈ us, SeqAt.EqAt A s u v (eqU x u)
  | _, _, .nil, _ => fun u hu => by cases hu
  | y :: xs, u :: us, .cons r t, f => fun u' hu => by
    rw [List.all_cons, Bool.and_eq_true] at f
    rcases List.mem_cons.mp hu with rfl | hu
    · rw [eqU_of r f.1]; exact eqAt_V r rx f.1 fx
    · exact mem_eqAt rx fx t f.2 u' hu
def inV (x : V) (xs : List V) : Bool := xs.any fun y => eqV y x
def rIn (K : PySem.W.Frag) (neg : Bool) : R2 := fun x y H Q => ∃ p xs, y = .ref p ∧ (SqL K H p xs ∨ SqT K H p xs) ∧ flatV x = true ∧ xs.all flatV = true ∧ Q (.bl (if neg then !inV x xs else inV x xs)) H
theorem op_in_seq : OpR X (compareOp .In) (rIn X.K false) := by
  intro pins s σ H x y v u Q I rx ry h
  obtain ⟨p, xs, rfl, hq, fx, fs, q⟩ := h
  cases ry
  rcases hq with hq | hq
  · obtain ⟨its, r, pl, hz⟩ := I.list hq
    refine SeqAt.in_listAt (eqU x) pl.isList (fun w hw => mem_eqAt rx fx r fs w (by simpa using hw)) ⟨.bl _, H, I, rfl, ?_⟩
    rw [show its.toArray.any (eqU x) = its.any (eqU x) by simp, any_eqU r fs]
    exact q
  · obtain ⟨its, r, pl, hz⟩ := I.tuple hq
    refine SeqAt.in_tupleAt (eqU x) pl (fun w hw => mem_eqAt rx fx r fs w (by simpa using hw)) ⟨.bl _, H, I, rfl, ?_⟩
    rw [show its.toArray.any (eqU x) = its.any (eqU x) by simp, any_eqU r fs]
    exact q
theorem op_notIn_seq : OpR X (compareOp .NotIn) (rIn X.K true) := by
  intro pins s σ H x y v u Q I rx ry h
  obtain ⟨p, xs, rfl, hq, fx, fs, q⟩ := h
  cases ry
  rcases hq with hq | hq
  · obtain ⟨its, r, pl, hz⟩ := I.list hq
    refine SeqAt.notIn_listAt (eqU x) pl.isList (fun w hw => mem_eqAt rx fx r fs w (by simpa using hw)) ⟨.bl _, H, I, rfl, ?_⟩
    rw [show its.toArray.any (eqU x) = its.any (eqU x) by simp, any_eqU r fs]
    exact q
  · obtain ⟨its, r, pl, hz⟩ := I.tuple hq
    refine SeqAt.notIn_tupleAt (eqU x) pl (fun w hw => mem_eqAt rx fx r fs w (by simpa using hw)) ⟨.bl _, H, I, rfl, ?_⟩
    rw [show its.toArray.any (eqU x) = its.any (eqU x) by simp, any_eqU r fs]
    exact q
theorem op_notIn_str : OpR X (compareOp .NotIn) (fun x y H Q => ∃ i j, x = .str i ∧ y = .str j ∧ Q (.bl (!(!(Builtin.Str.occurrences j i 0 j.length 1).isEmpty))) H) := by
  intro pins s σ H x y v u Q I rx ry h
  obtain ⟨i, j, rfl, rfl, q⟩ := h
  obtain ⟨t, rfl⟩ := rx
  obtain ⟨t', rfl⟩ := ry
  exact notIn_str ⟨.bl _, H, I, rfl, q⟩
theorem call_len_seq : CallR X (.builtin "len") (fun xs H Q => ∃ p ys, xs = [.ref p] ∧ (SqL X.K H p ys ∨ SqT X.K H p ys) ∧ Q (.int ys.length) H) := by
  intro pins s σ H xs us Q I r h
  obtain ⟨p, ys, rfl, hq, q⟩ := h
  obtain ⟨u, rfl, rx⟩ := vals1 r
  cases rx
  have hn := line63
  rcases hq with hq | hq
  · obtain ⟨its, r', pl, hz⟩ := I.list hq
    have hlen := r'.length
    exact Calls.call_len_list pl.isList (by simp only [List.size_toArray] <;> omega) ⟨.int ys.length, H, I.tok _, ⟨s.toks + 1, by rw [List.size_toArray, hlen]⟩, q⟩
  · obtain ⟨its, r', pl, hz⟩ := I.tuple hq
    have hlen := r'.length
    exact len_tuple pl (by simp only [List.size_toArray] <;> omega) ⟨.int ys.length, H, I.tok _, ⟨s.toks + 1, by rw [List.size_toArray, hlen]⟩, q⟩
theorem call_len_str : CallR X (.builtin "len") (fun xs H Q => ∃ z, xs = [.str z] ∧ z.length ≤ sizeLine ∧ Q (.int z.length) H) := by
  intro pins s σ H xs us Q I r h
  obtain ⟨z, rfl, hz, q⟩ := h
  obtain ⟨u, rfl, t, rfl⟩ := vals1 r
  have hn := line63
  exact len_str (by omega) ⟨.int z.length, H, I.tok _, ⟨_, rfl⟩, q⟩
theorem CallR.or {f : Value} {r r' : List V → Hp → VK → Prop} (h : CallR X f r) (h' : CallR X f r') : CallR X f (fun xs H Q => r xs H Q ∨ r' xs H Q) := by
  intro pins s σ H xs us Q I rs q
  rcases q with q | q
  · exact h pins s σ H xs us Q I rs q
  · exact h' pins s σ H xs us Q I rs q
theorem call_tuple_of : CallR X (.type "tuple") (fun xs H Q => ∃ p ys, xs = [.ref p] ∧ ((SqL X.K H p ys ∧ ∀ l, H l = none → Q (.ref l) (upd H l (.tup ys))) ∨ (SqT X.K H p ys ∧ Q (.ref p) H))) := by
  intro pins s σ H xs us Q I r h
  obtain ⟨p, ys, rfl, h⟩ := h
  obtain ⟨u, rfl, rx⟩ := vals1 r
  cases rx
  rcases h with ⟨hq, q⟩ | ⟨hq, q⟩
  · obtain ⟨its, r', pl, hz⟩ := I.list hq
    have hlen := r'.length
    refine call_tuple_list pl.isList (fun h' kp => ?_) (by simp only [List.size_toArray] <;> omega)
    have I1 : Inv X pins σ H { s with heap := h' } := I.kept (t' := s.toks) kp
    have I2 : Inv X pins σ (upd H h'.objs.size (.tup ys)) { s with heap := h'.push { cls := .type "tuple", data := .seq its.toArray } } :=
      I1.laid (t' := s.toks) (fun b o e => Heap.get?_push_of_some _ e) (Nat.le_refl _) (show ObjOk X.prog X.w _ _ _ (.tup ys) from ⟨hz, its, r', IsTup.new _ _, NoDi.new _ _⟩)
    exact ⟨.ref h'.objs.size, _, I2, rfl, q _ (I1.hok.fresh (Nat.le_refl _))⟩
  · obtain ⟨its, r', pl, hz⟩ := I.tuple hq
    exact call_tuple_same pl ⟨.ref p, H, I, rfl, q⟩
def tyV (K : PySem.W.Frag) (T : String) (x : V) (H : Hp) : Prop := match x with
  | .str _ => T = "str"
  | .int _ => T = "int"
  | .ref p => (T = "list" ∧ ∃ xs, SqL K H p xs) ∨ (T = "tuple" ∧ ((∃ o, K.lookup p = some o ∧ o.cls = .type "tuple" ∧ o.dict = none) ∨ ∃ xs, H p = some (.tup xs))) ∨
      (T = "dict" ∧ ((∃ kvs, H p = some (.dK kvs)) ∨ ∃ kvs, H p = some (.dT kvs))) ∨ (T = "set" ∧ ∃ S n, H p = some (.set S n))
  | _ => False
theorem tyV_is {pins : List (Addr × Obj)} {σ : St} {H : Hp} {s : Shared} {T : String} {x : V} {v : Value} (I : Inv X pins σ H s) (r : RelV x v) (ty : tyV X.K T x H) :
    s.TypeIs v T ∧ ∀ a, v = .ref a → ∃ ob, s.heap.get? a = some ob ∧ ob.dict = none := by
  cases x with
  | str z =>
    obtain ⟨t, rfl⟩ := r
    cases (show T = "str" from ty)
    exact ⟨typeIs_str s z t, fun _ e => nomatch e⟩
  | int i =>
    obtain ⟨t, rfl⟩ := r
    cases (show T = "int" from ty)
    exact ⟨typeIs_int s i t, fun _ e => nomatch e⟩
  | ref p =>
    cases r
    rcases ty with ⟨rfl, xs, hq⟩ | ⟨rfl, ⟨o, hk, hc, hd⟩ | ⟨xs, hk⟩⟩ | ⟨rfl, hk⟩ | ⟨rfl, S, n, hk⟩
    · obtain ⟨its, _, pl, _⟩ := I.list hq
      refine ⟨pl.isList.typeIs, fun a e => ?_⟩
      cases e
      obtain ⟨o, n, e, c, hd, _⟩ := pl
      exact ⟨o, e, hd⟩
    · refine ⟨⟨o, I.kIn p o hk, hc⟩, fun a e => ?_⟩
      cases e
      exact ⟨o, I.kIn _ o hk, hd⟩
    · obtain ⟨_, _, _, ⟨o, e1, e2, _⟩, nd⟩ := I.hok p _ hk
      refine ⟨⟨o, e1, e2⟩, fun a e => ?_⟩
      cases e
      exact ⟨o, e1, nd o e1⟩
    · have z : ∃ o, s.heap.get? p = some o ∧ o.ExactDict := by
        rcases hk with ⟨kvs, hk⟩ | ⟨kvs, hk⟩
        · obtain ⟨_, _, _, _, o, _, _, e, ex, _⟩ := I.hok p _ hk
          exact ⟨o, e, ex⟩
        · obtain ⟨_, _, _, _, o, _, _, e, ex, _⟩ := I.hok p _ hk
          exact ⟨o, e, ex⟩
      obtain ⟨o, e, ex⟩ := z
      refine ⟨⟨o, e, ex.1⟩, fun a e2 => ?_⟩
      cases e2
      exact ⟨o, e, ex.2.1⟩
    · obtain ⟨o, _, _, _, e, ex, _⟩ := I.hok p _ hk
      refine ⟨⟨o, e, ex.1⟩, fun a e2 => ?_⟩
      cases e2
      exact ⟨o, e, ex.2.1⟩
  | _ => exact False.elim ty
def tBM (K : PySem.W.Frag) (T : String) (r : V → List V → Hp → VK → Prop) (to : TE) (t : TA) : TE := fun σ H Q => to σ H fun x H1 => tyV K T x H1 ∧ t σ H1 fun xs H2 => r x xs H2 Q
variable {o e : Expr} {es : List Expr} {to : TE} {t : TA} {name : Str} {apos cpos : Pos} {T id : String} {r : V → List V → Hp → VK → Prop}
theorem pe_bm (pa : PlainAttrs T) (slot : Slot T name id) (hty : typeOf (.builtin id) = pure (.type "method_descriptor")) (hm : MtR X id r) (ho : PE X o to) (ha : PA X (e :: es) t)
    (hbase : attributeBase o name X.env (eval o X.env) = eval o X.env := by rfl)
    (hfew : ((backTo cpos (starEach (e :: es) X.env)).all (fun x => !x.1) && (backToKw cpos (keywordEach [] X.env)).all (fun x => x.1.isSome)
      && decide ((e :: es).length + ([] : List Keyword).length + (if ([] : List Keyword).isEmpty then 0 else 1) < 30)) = true := by rfl)
    (hline : (apos.endLine == cpos.line) = true := by rfl) (hs : starEach (e :: es) X.env = (false, eval e X.env) :: starEach es X.env := by rfl) (hplain : (backTo cpos (starEach es X.env)).any (·.1) = false := by rfl) :
    PE X (.Call (.Attribute o name apos) (e :: es) [] cpos) (tBM X.K T r to t) := by
  intro pins s σ H Q I h
  refine wpAny_Call_method_late hbase hfew hline rfl (thn (ho pins s σ H _ I h) fun v s1 ⟨x, H1, I1, r1, ty, q1⟩ => ?_)
  obtain ⟨h1, h2⟩ := tyV_is I1 r1 ty
  refine ⟨T, id, pa, slot, hty, h1, h2, ?_⟩
  have hA := ha cpos pins s1 σ H1 _ I1 q1
  rw [hs] at hA ⊢
  refine Calls.callWith_builtin (by show (false || (backTo cpos (starEach es X.env)).any (·.1)) = false; rw [hplain] <;> rfl) (Calls.evalArgs_plain ?_)
  exact thn hA fun us s2 ⟨vs, H2, I2, r2, q2⟩ => hm pins s2 σ H2 x vs v us Q I2 r1 r2 q2
/- xs.append(e), list.index on a module's tuple .. are MtR facts of 06m -/
end
end L2
namespace L2
open PySem PySem.Spec PyProof.Rows
def MtM (X : Cx) (id : String) (r : V → List V → Hp → VK → Prop) : Prop :=
  ∀ (pins : List (Addr × Obj)) (s : Shared) (σ : St) (H : Hp) (x : V) (xs : List V) (v : Value) (us : List Value) (Q : VK), Inv X pins σ H s → RelV x v → Vals xs us → r x xs H Q →
    wpAny (model X.prog X.w) X.A (call (.builtin id) (v :: us)) (EP X pins σ Q) X.xe s
theorem Vals.one : ∀ {x : V} {us : List Value}, Vals [x] us → ∃ u, us = [u] ∧ RelV x u
  | _, _, .cons r .nil => ⟨_, rfl, r⟩
theorem Vals.rep {xs : List V} {us : List Value} (h : Vals xs us) : ∀ k : Nat, Vals (List.replicate k xs).flatten (List.replicate k us).flatten
  | 0 => .nil
  | k + 1 => by
    rw [List.replicate_succ, List.replicate_succ, List.flatten_cons, List.flatten_cons]
    exact Vals.append h (Vals.rep h k)
theorem foldl_rep (its : List Value) : ∀ (k : Nat) (acc : List Value),
    List.foldl (fun x1 x2 => x1 ++ x2) acc.toArray (List.replicate k its.toArray) = (acc ++ (List.replicate k its).flatten).toArray
  | 0, acc => by simp
  | k + 1, acc => by
    have e : acc.toArray ++ its.toArray = (acc ++ its).toArray := by simp
    have e2 : (acc ++ its) ++ (List.replicate k its).flatten = acc ++ (List.replicate (k + 1) its).flatten := by
      rw [List.replicate_succ, List.flatten_cons, List.append_assoc]
    rw [← e2, ← foldl_rep its k (acc ++ its), ← e, List.replicate_succ, List.foldl_cons]
section
variable {X : Cx} {pins : List (Addr × Obj)} {σ : St} {H : Hp} {s : Shared} {l b : Addr} {xs ys zs : List V}
theorem Inv.lset {its its' : List Value} {n : Nat} {f : Array Value → Array Value} {t' : Nat} (I : Inv X pins σ H s) (hH : H l = some (.lst xs))
    (e : s.heap.get? l = some { cls := .type "list", data := .seq its.toArray n }) (hf : f its.toArray = its'.toArray) (hv : Vals ys its') (hz : ys.length ≤ sizeLine) :
    Inv X pins σ (upd H l (.lst ys)) { s with heap := s.heap.update l (Obj.mapSeq f), toks := t' } := by
  have q := PySem.IsL.update e f
  rw [hf] at q
  refine I.write (x := l) (e := l) (by rw [hH]; exact trivial) (.inl rfl) (fun b' u hb hu => (Heap.get?_update_other s.heap (Obj.mapSeq f) (Ne.symm hb)).trans hu) ⟨_, q⟩ ?_
  exact ⟨hz, its', _, hv, q⟩
theorem Inv.lnew {its : List Value} {t' : Nat} (I : Inv X pins σ H s) (hv : Vals ys its) (hz : ys.length ≤ sizeLine) :
    Inv X pins σ (upd H s.heap.objs.size (.lst ys)) { s with heap := s.heap.push { cls := .type "list", data := .seq its.toArray }, toks := t' } :=
  I.laid (fun _ _ q => Heap.get?_push_of_some _ q) (Nat.le_refl _) ⟨hz, its, 0, hv, Heap.get?_push_size _ rfl⟩
theorem Inv.fresh (I : Inv X pins σ H s) : H s.heap.objs.size = none := I.hok.fresh (Nat.le_refl _)
theorem Inv.lstM (I : Inv X pins σ H s) (hH : H l = some (.lst xs)) : xs.length ≤ sizeLine ∧ ∃ (its : List Value) (n : Nat), Vals xs its ∧ xs.length = its.length ∧ s.heap.get? l = some { cls := .type "list", data := .seq its.toArray n } := by
  obtain ⟨z, its, n, r, e⟩ := I.hok l _ hH
  exact ⟨z, its, n, r, r.length, e⟩
theorem notLongL {n : Nat} (h : n ≤ sizeLine) : Builtin.List.listTooLong n = false := by
  unfold Builtin.List.listTooLong
  exact decide_eq_false (by omega)
end
section
variable {X : Cx}
def rAppend : V → List V → Hp → VK → Prop := fun x vs H Q => ∃ l xs y, x = .ref l ∧ vs = [y] ∧ H l = some (.lst xs) ∧ xs.length < sizeLine ∧ Q .non (upd H l (.lst (xs ++ [y])))
theorem mt_append : MtM X "list.append" rAppend := by
  intro pins s σ H x vs v us Q I rx rv h
  obtain ⟨l, xs, y, rfl, rfl, hH, hz, q⟩ := h
  cases rx
  obtain ⟨u, rfl, ru⟩ := rv.one
  obtain ⟨z, its, n, r, hl, e⟩ := I.lstM hH
  refine call_meets F.slot_list_append ⟨_, e, rfl⟩ F.entry_list_append (F.args_list_append_2 _ _) (PySem.list_append l its.toArray n u (by rw [List.size_toArray]; omega)) ⟨e, ?_⟩
  refine ⟨.non, _, I.lset (its' := its ++ [u]) hH e (by simp) (r.append (.cons ru .nil)) ?_, rfl, q⟩
  rw [List.length_append, List.length_singleton]
  omega
def rRep : R2 := fun x y H Q => ∃ l k xs, x = .ref l ∧ y = .int k ∧ H l = some (.lst xs) ∧ -(2 ^ 63) ≤ k ∧ k < 2 ^ 63 ∧ xs.length * k.toNat ≤ sizeLine ∧
  ∀ p, H p = none → Q (.ref p) (upd H p (.lst (List.replicate k.toNat xs).flatten))
theorem len_rep {α : Type} (xs : List α) (k : Nat) : (List.replicate k xs).flatten.length = k * xs.length := by
  induction k with
  | zero => simp
  | succ k ih => rw [List.replicate_succ, List.flatten_cons, List.length_append, ih, Nat.succ_mul, Nat.add_comm]
theorem op_rep : OpR X (binaryOp .Mult) rRep := by
  intro pins s σ H x y v u Q I rx ry h
  obtain ⟨l, k, xs, rfl, rfl, hH, h1, h2, hz, q⟩ := h
  cases rx
  obtain ⟨t, rfl⟩ := ry
  obtain ⟨z, its, n, r, hl, e⟩ := I.lstM hH
  have hlen : its.toArray.size * k.toNat ≤ sizeLine := by rw [List.size_toArray, ← hl]; exact hz
  have hcap : ¬ its.toArray.size * k.toNat > (2 ^ 63 - 1) / 8 := by
    have : (sizeLine : Nat) ≤ (2 ^ 63 - 1) / 8 := by decide
    omega
  have hfit : ¬ (!Builtin.List.listFitsIndex k) = true := by
    rw [fitsIndex_both h1 h2]
    exact Bool.false_ne_true
  have hlong : ¬ Builtin.List.listTooLong (its.toArray.size * k.toNat) = true := by
    rw [notLongL hlen]
    exact Bool.false_ne_true
  have hnew : List.foldl (fun x1 x2 => x1 ++ x2) #[] (List.replicate (if its.toArray.isEmpty = true then 0 else k.toNat) its.toArray) = (List.replicate k.toNat its).flatten.toArray := by
    have f0 : ∀ m : Nat, List.foldl (fun x1 x2 => x1 ++ x2) #[] (List.replicate m its.toArray) = (List.replicate m its).flatten.toArray := fun m => by
      have := foldl_rep its m []
      rw [List.nil_append] at this
      exact this
    rw [f0]
    cases its with
    | nil => simp
    | cons a r' => rw [if_neg (by simp)]
  refine wpAny_binaryOp_repeat_ref (T := "list") (U := "int") (by decide) ⟨_, e, rfl⟩ (fun s' => typeIs_int s' k t) noFill_list_mul F.fills_int_mul F.slot_int_rmul repeat_list F.slot_int_index.lookup
    (call_meets F.slot_int_rmul (typeIs_int s k t) F.entry_int_rmul (F.args_int_rmul_2 _ _) (int___rmul___int_list k t l its.toArray n)
      ⟨e, rfl, ⟨_, e, rfl⟩, call_meets F.slot_list_mul ⟨_, e, rfl⟩ F.entry_list_mul (F.args_list_mul_2 _ _) (AutoListH.list___mul___list_int_3 l its.toArray n k t hfit hcap hlong) ⟨e, ?_⟩⟩)
  rw [hnew]
  exact ⟨.ref _, _, I.lnew (t' := s.toks) (r.rep k.toNat) (by rw [len_rep, Nat.mul_comm]; exact hz), rfl, q _ I.fresh⟩
end
section
variable {prog : Program} {w : World} {A : Around} {E : Value → Shared → Prop} {s : Shared}
set_option maxRecDepth 100000 in
end
section
variable {X : Cx}
end
end L2
namespace Att
open PySem PySem.W PySem.Calls PyProof.Rows
theorem ints_of_wellAll {P : Params} {h : Heap} : ∀ (ns : List Int) (vs : List Value), WellAll P h vs (ns.map WData.int) → IntsAre vs ns := by
  intro ns
  induction ns with
  | nil =>
    intro vs w
    rw [List.map_nil] at w
    cases w
    exact .nil
  | cons n ns ih =>
    intro vs w
    rw [List.map_cons] at w
    cases w with
    | cons a b =>
      cases a
      exact .cons _ _ (ih _ b)
theorem script_of {l : OpenLaw} {n : Nat} (hn : l.most = some n) {P : Params} {h : Heap} {args : List WData} {vals : List Value}
    (hpre : l.row.toRowW.claim.pre args = true) (hwl : WellAll P h vals args) :
    ∃ a vs ns, vals = [Value.ref a] ∧ args = [WData.list (ns.map WData.int)] ∧ h.get? a = some { cls := .type "list", data := .seq vs.toArray } ∧ IntsAre vs ns ∧ ns.length ≤ n := by
  have hsh : WShape.hasAll [] args [.list .int] = true := (pre_splitW hpre).1
  have hc : l.pre.holds [] { args := args } = true := (pre_splitW hpre).2
  obtain ⟨d, r, rfl, h1, h2⟩ := hasAllW_cons hsh
  obtain rfl := hasAllW_nil h2
  obtain ⟨xs, rfl, h3⟩ := hasW_list h1
  obtain ⟨ns, rfl⟩ := items_int h3
  have hlen : ns.length ≤ n := by
    unfold OpenLaw.pre at hc
    have h4 : (WTm.not (.lt (.lit (.int (n : Int))) (.len (.arg 0)))).holds [] { args := [.list (ns.map .int)] } = true := by
      have h4 := (holds_andW hc).1
      rw [hn] at h4
      exact h4
    have h5 := condW_of h4 (w_not (w_lt w_lit (w_len_list (w_arg rfl))))
    rw [List.length_map] at h5
    refine Nat.le_of_not_lt fun q => ?_
    have q' : (n : Int) < ((ns.length : Nat) : Int) := by omega
    first
      | (rw [decide_eq_true q'] at h5; exact absurd h5 (by decide))
      | (simp at h5; omega)
  cases hwl with
  | cons w1 w2 =>
    cases w2
    cases w1 with
    | list ho hall => exact ⟨_, _, ns, rfl, rfl, ho, ints_of_wellAll ns _ hall, hlen⟩
theorem post_true (l : OpenLaw) (args : List WData) : l.row.toRowW.claim.post args (.bool true) args = true :=
  postW_of (r := l.row.toRowW) (X := (true == true))
    (show WShape.has [] (.bool true) .bool = true by first | rfl | decide | simp [WShape.has, WShape.arms, WShape.armsAll])
    (show (WTm.eq .res (.lit (.bool true))).value [] { args := args, res := some (.bool true), after := args } = some (.bool (true == true)) from w_eq_bool (w_res rfl) w_lit) rfl
theorem attach_call {l : OpenLaw} {n : Nat} {q : Program} {loose : List Str} {XP : (Str → Option Value) → Heap → Prop} {YP : World → Heap → Prop} {d : DefRec}
    (hn : l.most = some n) (hdf : d.params.defaults = [])
    (call : ∀ (w : World) (s₀ s₁ : Shared) (mg mb : Str → Option Value) (fa : Addr) (o : Obj) (pm cd doc : Value) (a : Addr) (vs : List Value) (ns : List Int),
      Ground q loose [] XP w s₀ mg mb s₁.heap → YP w s₁.heap →
      s₁.heap.get? fa = some o → o.data = .func (docDef d.name d.params d.body d.scope pm cd doc) → s₁.heap.CodeRec cd d.name → mg d.name = some (.ref fa) →
      s₁.heap.get? a = some { cls := .type "list", data := .seq vs.toArray } → IntsAre vs ns → ns.length ≤ n → s₁.gens = #[] →
      codeAny (model l.prog w) callerA (.call (.ref fa) ⟨[.ref a], []⟩) (fun r s' => r = .ok (.ret (.bool true)) ∧ OldK s₁.heap s'.heap ∧ s'.os = s₁.os ∧ AllBare s'.gens) s₁) :
    WalkO q loose XP YP l.row.toRowW d [] (fun f vs => PySem.call f vs) := by
  intro w s₀ s₁ mg mb G Y fa o pm cd doc dV kV ho hd hcd hD hmg hg args vals as hpre hlay hrd hwl hlo
  obtain rfl : dV = .none := Dflts.none hD hdf
  obtain rfl : kV = .none := Dflts.noKw hD
  obtain ⟨a, vs, ns, rfl, rfl, hobj, hints, hlen⟩ := script_of hn hpre hwl
  refine enter_call (codeAny_mono (call w s₀ s₁ mg mb fa o pm cd doc a vs ns G Y ho (fd_plain hd) hcd hmg hobj hints hlen hg) fun r s' hq => ?_)
  obtain ⟨rfl, h2, h3, h4⟩ := hq
  exact ⟨.inl ⟨.bool true, .bool true, [], rfl, fun _ => rfl, .bool true, post_true l _, fun _ => ⟨List.Pairwise.nil, fun _ hm => (nomatch hm)⟩⟩, h2, h3, h4⟩
section
variable {prog : Program} {w : World} {A : Around} {E : Value → Shared → Prop} {s : Shared} {K : Frag}
end
end Att
namespace L2
open PySem PySem.Spec PyProof.Rows
theorem vals_ints : ∀ {vs : List Value} {ns : List Int}, IntsAre vs ns → Vals (ns.map V.int) vs
  | _, _, .nil => .nil
  | _, _, .cons n t h => .cons ⟨t, rfl⟩ (vals_ints h)
def Only (H : Hp) : Prop := ∀ b, H b = none ∨ ∃ o xs, H b = some (.frz o (.lst xs))
end L2
namespace L2
open PySem PySem.Spec PyProof.Rows
abbrev KOf {K : PySem.W.Frag} {h : Heap} (_ : K.In h) : PySem.W.Frag := K
end L2
/- THE LAST THEOREM (shape; LID, My.* are yours):
   My.Adr: a structure of the addresses that your layer names (classes, functions); My.Txt K t: a structure (Prop) of the equations over K;
   My.txt_mk : {K} {implicit addresses ..} (e1 : nsIn K mainGlobals "law" = some (some (.ref f))) (e2 : K.lookup f = some ⟨oc, od, .func (fnOf "law" "law" params body scope dV kV doc pm an cdv ct), sl⟩) (e3 : codeIn K cdv "law" = true) .. : ∃ t, My.Txt K t
set_option maxRecDepth 100000 in
set_option maxHeartbeats 0 in
theorem PySem.Challenge.cw_LID_holds : PySem.Challenge.rw_LID.Holds := by
  w_on; o_law; k_head; (case hw => w_witness2)
  k_fill
  refine L2.walk_of (l := PySem.Challenge.rw_LID) (n := 63) (k := 40) (x := "script") (CX := fun w => ..) (sp := fun _ => My.sp_law) rfl (by decide) rfl ⟨rfl, by decide, by decide⟩ (fun w h Y => PySem.W.kIn_of Y) ?F ?S ?C
  case F =>
    intro w mg fa h KX G hmg
    have T : ∃ t, My.Txt (L2.KOf KX) t := by
      dsimp only [L2.KOf]                          -- K must stand as «<heap const> w.params» for k_is
      refine' My.txt_mk ?e1 ?e2 ?e3 ..
      (case e1 => PySem.W.k_is)                    -- in the order: a name -> its address -> its object -> its parts
      (case e2 => PySem.W.k_is)
      ..
    obtain ⟨t, T⟩ := T
    have e0 := hmg.symm.trans (PySem.W.mg_of KX G T.law)
    cases e0                                       -- fa is the law's own address
    exact ⟨_, fun s u => .of_eq rfl, fun base kb nb => My.law_fn T kb nb⟩     -- if «.of_eq rfl» comes too early: refine' ⟨_, ?b, fun base kb nb => My.law_fn T kb nb⟩; exact fun s u => .of_eq rfl
  case S => exact fun w H a ns hl hO hS => ..
  case C => exact ..
(the tactic k_is has no namespace: write k_is) -/
namespace L2
open PySem PySem.Spec PyProof.Rows
def defArgs (s : Stmt) : Arguments := match s with
  | .FunctionDef _ a _ _ _ _ _ _ _ _ => a
  | _ => { posonlyargs := [], args := [], vararg := none, kwonlyargs := [], kw_defaults := [], kwarg := none, defaults := [] }
def defBody (s : Stmt) : List Stmt := match s with
  | .FunctionDef _ _ b _ _ _ _ _ _ _ => b
  | _ => []
def defScope (s : Stmt) : Scope := match s with
  | .FunctionDef _ _ _ _ _ _ sc _ _ _ => sc
  | _ => { kind := .function, names := [], isGenerator := false, isCoroutine := false }
abbrev CX0 : CXT := fun _ _ _ _ _ _ => False
structure Fun (K : PySem.W.Frag) (x qual : Str) (st : Stmt) (f : Addr) (fd : FuncData) : Prop where
  ex : ∃ (oc : Value) (od : Option Addr) (kV doc pm : Value) (an : Option Addr) (cdv ct : Value) (osl : Array (Option Value)),
    fd = PySem.W.fnOf x qual (defArgs st) (defBody st) (defScope st) .none kV doc pm an cdv ct ∧ K.lookup f = some ⟨oc, od, .func fd, osl⟩ ∧ PySem.W.codeIn K cdv qual = true
  kp : PySem.W.keepIn K (.ref f) = true
section
variable {P : Program} {w : World} {K : PySem.W.Frag} {mg : Str → Option Value} {base : Heap}
theorem Fun.binds {x qual : Str} {st : Stmt} {f : Addr} {fd : FuncData} {ps : List Str} (F : Fun K x qual st f fd)
    (h : ∀ (kV doc pm : Value) (an : Option Addr) (cdv ct : Value) (us : List Value), us.length = ps.length → bindArgs (PySem.W.fnOf x qual (defArgs st) (defBody st) (defScope st) .none kV doc pm an cdv ct) ⟨us, []⟩ = pure (ps.zip us)) : Binds K fd ps [] := by
  obtain ⟨oc, od, kV, doc, pm, an, cdv, ct, osl, rfl, lk, hcd⟩ := F.ex
  exact .all (h kV doc pm an cdv ct)
theorem fun_mk {x qual : Str} {st : Stmt} {f : Addr} {oc : Value} {od an : Option Addr} {osl : Array (Option Value)} {kV doc pm cdv ct : Value} (l : K.lookup f = some ⟨oc, od, .func (PySem.W.fnOf x qual (defArgs st) (defBody st) (defScope st) .none kV doc pm an cdv ct), osl⟩)
    (c : PySem.W.codeIn K cdv qual = true) (k : PySem.W.keepIn K (.ref f) = true) : Fun K x qual st f (PySem.W.fnOf x qual (defArgs st) (defBody st) (defScope st) .none kV doc pm an cdv ct) := ⟨⟨oc, od, kV, doc, pm, an, cdv, ct, osl, rfl, l, c⟩, k⟩
end
section
variable {X : Cx}
end
end L2
namespace L2
open PySem PySem.Spec PyProof.Rows
section
variable {κ : Type} [DecidableEq κ]
def valV (kvs : List (κ × V)) (k : κ) : Option V := (kvs.find? fun kv => decide (kv.1 = k)).map (·.2)
def putK (kvs : List (κ × V)) (k : κ) (v : V) : List (κ × V) :=
  if (kvs.any fun kv => decide (kv.1 = k)) = true then kvs.map (fun kv => if kv.1 = k then (kv.1, v) else kv) else kvs ++ [(k, v)]
theorem valV_pos {p : κ × V} {r : List (κ × V)} {k : κ} (e : p.1 = k) : valV (p :: r) k = some p.2 := by simp [valV, List.find?_cons, e]
theorem valV_neg {p : κ × V} {r : List (κ × V)} {k : κ} (e : ¬ p.1 = k) : valV (p :: r) k = valV r k := by simp [valV, List.find?_cons, e]
end
section
variable {P : Program} {w : World} {H : Hp} {h : Heap} {a : Addr}
end
section
variable {X : Cx} {pins : List (Addr × Obj)} {σ : St} {H : Hp} {s : Shared} {a : Addr} {y v : V} {u r : Value} {o : Option V} {A : Around} {E : Value → Shared → Prop}
end
section
variable {X : Cx} {pins : List (Addr × Obj)} {σ : St} {H : Hp} {s : Shared} {a : Addr} {kvs : List (Key × V)} {k : Key} {u : Value} {A : Around} {E : Value → Shared → Prop}
end
def NoSl (i : Expr) : Prop := ∀ ov iv, subscripted i false ov iv = operate [ov, iv] (getItem ov iv)
theorem subD_of {prog : Program} {w : World} {A : Around} {E : Value → Shared → Prop} {s : Shared} {env : Env} {value slice : Expr} {pos : Pos} {T id : String} {Q : Value → Shared → Prop}
    (hl : typeLookup (.type T) "__getitem__" = pure (some (.builtin id))) (hs : NoSl slice)
    (h : wpAny (model prog w) A (eval value env) (fun o s₁ => wpAny (model prog w) A (eval slice env) (fun i s₂ => s₂.TypeIs o T ∧ wpAny (model prog w) A (getItem o i) Q E s₂) E s₁) E s) :
    wpAny (model prog w) A (eval (.Subscript value slice pos) env) Q E s := by
  refine Subscript_ (wpAny_mono h (fun o s₁ h₁ => wpAny_mono h₁ (fun i s₂ h₂ => ?_) fun _ _ x => x) fun _ _ x => x)
  obtain ⟨hT, h₂⟩ := h₂
  unfold subscriptTail
  refine wpAny_bind ?_
  rw [getitemInPython_of_ne hT.not_modules]
  refine wpAny_bind (wpAny_specialOf hT hl ?_)
  have fin : wpAny (model prog w) A (subscripted slice false o i) (fun r s₃ => wpAny (model prog w) A (letTemporaryGo value o r >>= fun _ => pure r) Q E s₃) E s₂ := by
    rw [hs o i]
    exact wpAny_operating (wpAny_mono h₂ (fun r s₃ h₃ => wpAny_bind (wpAny_letTemporaryGo (wpAny_pure h₃))) fun _ _ x => x)
  first
    | exact wpAny_pure (wpAny_bind fin)
    | exact wpAny_bind (wpAny_pure (wpAny_bind fin))
    | exact wpAny_bind fin
section
variable {X : Cx} {o i e value : Expr} {pos pos' tpos : Pos} {td ty tv : TE}
end
section
variable {X : Cx} {pos : Pos}
end
section
variable {X : Cx} {pins : List (Addr × Obj)} {σ : St} {H : Hp} {s : Shared} {a : Addr} {y d : V} {u r : Value} {o : Option V} {A : Around} {E : Value → Shared → Prop}
end
section
variable {X : Cx} {o e f : Expr} {apos cpos : Pos} {td ty tx : TE}
end
section
variable {X : Cx} {pins : List (Addr × Obj)} {σ : St} {H : Hp} {s : Shared} {a : Addr} {kvs : List (Key × V)} {A : Around} {E : Value → Shared → Prop}
end
section
variable {X : Cx} {pins : List (Addr × Obj)} {σ : St} {H : Hp} {s : Shared} {a : Addr} {y : V} {u : Value} {A : Around} {E : Value → Shared → Prop}
end
end L2
namespace Att
open PySem PySem.W PySem.Calls PyProof.Rows
end Att
namespace L2
open PySem PySem.Spec PyProof.Rows
section
variable {X : Cx}
end
section
variable {κ : Type} [DecidableEq κ]
end
end L2
set_option maxHeartbeats 4000000
namespace J
open PySem PySem.Spec PyProof.Rows L2
structure Lm where
  a : Addr
  c : Addr
  q : PySem.Str
  xs : List V
inductive Wv where
  | non
  | bl (b : Bool)
  | int (i : Int)
  | str (x : PySem.Str)
  | tup (ws : List Wv)
  | ktp (ws : List Wv)
  | ref (l : Nat)
  | ty (n : String)
  | cls (c : PySem.Str)
  | exn (c : PySem.Str)
  | fn (p : Lm) (ws : List Wv)
inductive Ob where
  | lst (ws : List Wv)
  | scr (ns : List Int)
  | dct (kvs : List (L2.Key × Wv))
  | dcT (kvs : List (List L2.Key × Wv))
abbrev Hs := List Ob
abbrev St := L2.St
abbrev Rho := List (Option Wv)
abbrev Mp := List Addr
def ExnAt (a C : Addr) : Heap → Prop := fun h => ∃ o, h.get? a = some o ∧ o.cls = .ref C ∧ ∃ vs, o.data = .fields vs
def ClsAt (K : PySem.W.Frag) (c : PySem.Str) (C : Addr) : Prop := PySem.W.nsIn K mainGlobals c = some (some (.ref C))
def CodeX (c : Addr) (q : PySem.Str) : Heap → Prop := fun h => h.CodeRec (.ref c) q
def lamDefs : List PySem.Str := ["form_of", "formula_by", "turned"]
def tabFree (K : PySem.W.Frag) (q : PySem.Str) : Option Addr := match PySem.W.tabIn K q with
  | some (_, P) => if (K.lookup P).isNone = true then some P else none
  | none => none
def lamQ (q : PySem.Str) : PySem.Str := (q ++ ".<locals>.") ++ "<lambda>"
def TbOk (K : PySem.W.Frag) (H : Hp) : Prop := ∀ q P, q ∈ lamDefs → tabFree K q = some P → ∃ ps, H P = some (.tbl ps) ∧ TriplesOk ps.toList ∧ ∀ pos cv, codeAmong pos ps.toList = some cv → ∃ c, cv = .ref c ∧ H c = some (.ext (CodeX c (lamQ q)))
theorem TbOk.keep {K : PySem.W.Frag} {H H' : Hp} (t : TbOk K H) (h1 : ∀ a ps, H a = some (.tbl ps) → H' a = some (.tbl ps)) (h2 : ∀ a φ, H a = some (.ext φ) → H' a = some (.ext φ)) : TbOk K H' := fun q P hq hP => by
  obtain ⟨ps, e1, e2, e3⟩ := t q P hq hP
  refine ⟨ps, h1 _ _ e1, e2, fun pos cv e => ?_⟩
  obtain ⟨c, f1, f2⟩ := e3 pos cv e
  exact ⟨c, f1, h2 _ _ f2⟩
def KTup (K : PySem.W.Frag) (a : Addr) (xs : List V) : Prop := ∃ (o : Obj) (its : Array Value) (n : Nat), K.lookup a = some o ∧ o.cls = .type "tuple" ∧ o.data = .seq its n ∧ its.size ≤ sizeLine ∧ Vals xs its.toList
mutual
def RelW (K : PySem.W.Frag) (m : Mp) (H : Hp) : Wv → V → Prop
  | .non, v => v = .non
  | .bl b, v => v = .bl b
  | .int i, v => v = .int i
  | .str x, v => v = .str x ∧ PyData.strOk x = true
  | .tup ws, v => ∃ a xs, v = .ref a ∧ H a = some (.tup xs) ∧ RelWs K m H ws xs
  | .ktp ws, v => ∃ a xs, v = .ref a ∧ KTup K a xs ∧ RelWs K m H ws xs
  | .ref l, v => ∃ a, v = .ref a ∧ m[l]? = some a
  | .ty n, v => v = .ty n
  | .cls c, v => ∃ C, v = .ref C ∧ ClsAt K c C
  | .exn c, v => ∃ a C, v = .ref a ∧ ClsAt K c C ∧ H a = some (.ext (ExnAt a C))
  | .fn p ws, v => v = .ref p.a ∧ H p.c = some (.ext (CodeX p.c p.q)) ∧ RelWs K m H ws p.xs
def RelWs (K : PySem.W.Frag) (m : Mp) (H : Hp) : List Wv → List V → Prop
  | [], xs => xs = []
  | w :: ws, xs => ∃ x r, xs = x :: r ∧ RelW K m H w x ∧ RelWs K m H ws r
end
structure Ext (K : PySem.W.Frag) (m : Mp) (H : Hp) (m' : Mp) (H' : Hp) : Prop where
  pre : ∀ (l : Nat) (a : Addr), m[l]? = some a → m'[l]? = some a
  tup : ∀ (a : Addr) (xs : List V), H a = some (.tup xs) → H' a = some (.tup xs)
  ext : ∀ (a : Addr) (φ : Heap → Prop), H a = some (.ext φ) → H' a = some (.ext φ)
section
variable {K : PySem.W.Frag} {m m1 m2 : Mp} {H H1 H2 : Hp}
theorem Ext.refl : Ext K m H m H := ⟨fun _ _ h => h, fun _ _ h => h, fun _ _ h => h⟩
theorem Ext.trans (a : Ext K m H m1 H1) (b : Ext K m1 H1 m2 H2) : Ext K m H m2 H2 :=
  ⟨fun l x h => b.pre l x (a.pre l x h), fun x xs h => b.tup x xs (a.tup x xs h), fun x φ h => b.ext x φ (a.ext x φ h)⟩
mutual
theorem RelW.mono (e : Ext K m H m1 H1) : ∀ (w : Wv) (v : V), RelW K m H w v → RelW K m1 H1 w v
  | .non, v, h => by unfold RelW at h ⊢; exact h
  | .bl b, v, h => by unfold RelW at h ⊢; exact h
  | .int i, v, h => by unfold RelW at h ⊢; exact h
  | .str x, v, h => by unfold RelW at h ⊢; exact h
  | .ty n, v, h => by unfold RelW at h ⊢; exact h
  | .cls c, v, h => by unfold RelW at h ⊢; exact h
  | .exn c, v, h => by
    unfold RelW at h ⊢
    obtain ⟨a, C, e1, e2, e3⟩ := h
    exact ⟨a, C, e1, e2, e.ext _ _ e3⟩
  | .ref l, v, h => by
    unfold RelW at h ⊢
    obtain ⟨a, e1, e2⟩ := h
    exact ⟨a, e1, e.pre _ _ e2⟩
  | .tup ws, v, h => by
    unfold RelW at h ⊢
    obtain ⟨a, xs, e1, e2, e3⟩ := h
    exact ⟨a, xs, e1, e.tup _ _ e2, RelWs.mono e ws xs e3⟩
  | .ktp ws, v, h => by
    unfold RelW at h ⊢
    obtain ⟨a, xs, e1, e2, e3⟩ := h
    exact ⟨a, xs, e1, e2, RelWs.mono e ws xs e3⟩
  | .fn p ws, v, h => by
    unfold RelW at h ⊢
    obtain ⟨e1, e2, e3⟩ := h
    exact ⟨e1, e.ext _ _ e2, RelWs.mono e ws p.xs e3⟩
theorem RelWs.mono (e : Ext K m H m1 H1) : ∀ (ws : List Wv) (xs : List V), RelWs K m H ws xs → RelWs K m1 H1 ws xs
  | [], xs, h => by unfold RelWs at h ⊢; exact h
  | w :: ws, xs, h => by
    unfold RelWs at h ⊢
    obtain ⟨x, r, e1, e2, e3⟩ := h
    exact ⟨x, r, e1, RelW.mono e w x e2, RelWs.mono e ws r e3⟩
end
theorem RelWs.nil : RelWs K m H [] [] := by unfold RelWs; rfl
theorem RelWs.cons {w : Wv} {x : V} {ws : List Wv} {xs : List V} (h : RelW K m H w x) (t : RelWs K m H ws xs) : RelWs K m H (w :: ws) (x :: xs) := by unfold RelWs; exact ⟨x, xs, rfl, h, t⟩
theorem RelWs.length : ∀ {ws : List Wv} {xs : List V}, RelWs K m H ws xs → ws.length = xs.length
  | [], xs, h => by unfold RelWs at h; subst h; rfl
  | w :: ws, xs, h => by
    unfold RelWs at h
    obtain ⟨x, r, e1, _, e3⟩ := h
    subst e1
    simp [RelWs.length e3]
theorem RelWs.get : ∀ {ws : List Wv} {xs : List V} {i : Nat} {w : Wv}, RelWs K m H ws xs → ws[i]? = some w → ∃ x, xs[i]? = some x ∧ RelW K m H w x
  | [], _, i, w, _, e => by simp at e
  | a :: ws, xs, 0, w, h, e => by
    unfold RelWs at h
    obtain ⟨x, r, e1, e2, _⟩ := h
    subst e1
    simp at e
    subst e
    exact ⟨x, rfl, e2⟩
  | a :: ws, xs, i + 1, w, h, e => by
    unfold RelWs at h
    obtain ⟨x, r, e1, _, e3⟩ := h
    subst e1
    obtain ⟨y, f1, f2⟩ := RelWs.get (i := i) (w := w) e3 (by simpa using e)
    exact ⟨y, by simpa using f1, f2⟩
theorem RelWs.append : ∀ {ws zs : List Wv} {xs ys : List V}, RelWs K m H ws xs → RelWs K m H zs ys → RelWs K m H (ws ++ zs) (xs ++ ys)
  | [], _, xs, _, h, g => by unfold RelWs at h; subst h; exact g
  | w :: ws, zs, xs, ys, h, g => by
    unfold RelWs at h
    obtain ⟨x, r, e1, e2, e3⟩ := h
    subst e1
    exact RelWs.cons e2 (RelWs.append e3 g)
theorem RelWs.set : ∀ {ws : List Wv} {xs : List V} (i : Nat) {w : Wv} {x : V}, RelWs K m H ws xs → RelW K m H w x → RelWs K m H (ws.set i w) (xs.set i x)
  | [], xs, i, w, x, h, _ => by unfold RelWs at h; subst h; exact RelWs.nil
  | a :: ws, xs, 0, w, x, h, g => by
    unfold RelWs at h
    obtain ⟨y, r, e1, e2, e3⟩ := h
    subst e1
    exact RelWs.cons g e3
  | a :: ws, xs, i + 1, w, x, h, g => by
    unfold RelWs at h
    obtain ⟨y, r, e1, e2, e3⟩ := h
    subst e1
    exact RelWs.cons e2 (RelWs.set i e3 g)
theorem RelWs.drop : ∀ {ws : List Wv} {xs : List V} (i : Nat), RelWs K m H ws xs → RelWs K m H (ws.drop i) (xs.drop i)
  | ws, xs, 0, h => by simpa using h
  | [], xs, i + 1, h => by unfold RelWs at h; subst h; simpa using RelWs.nil
  | a :: ws, xs, i + 1, h => by
    unfold RelWs at h
    obtain ⟨y, r, e1, e2, e3⟩ := h
    subst e1
    simpa using RelWs.drop i e3
theorem RelWs.take : ∀ {ws : List Wv} {xs : List V} (i : Nat), RelWs K m H ws xs → RelWs K m H (ws.take i) (xs.take i)
  | ws, xs, 0, h => by simpa using RelWs.nil
  | [], xs, i + 1, h => by unfold RelWs at h; subst h; simpa using RelWs.nil
  | a :: ws, xs, i + 1, h => by
    unfold RelWs at h
    obtain ⟨y, r, e1, e2, e3⟩ := h
    subst e1
    simpa using RelWs.cons e2 (RelWs.take i e3)
theorem RelWs.ints : ∀ (ns : List Int), RelWs K m H (ns.map Wv.int) (ns.map V.int)
  | [] => RelWs.nil
  | n :: ns => RelWs.cons (by unfold RelW; rfl) (RelWs.ints ns)
end
def ScrOk (K : PySem.W.Frag) (H : Hp) (a : Addr) (ns : List Int) : Prop :=
  (∃ o, H a = some (.frz o (.lst (ns.map V.int)))) ∨
    ∃ (o : Obj) (its : Array Value) (n : Nat), K.lookup a = some o ∧ o.cls = .type "list" ∧ o.dict = none ∧ o.data = .seq its n ∧ its.size ≤ sizeLine ∧ Vals (ns.map V.int) its.toList
def RelK {κ : Type} (K : PySem.W.Frag) (m : Mp) (H : Hp) (kvs : List (κ × Wv)) (xs : List (κ × V)) : Prop := kvs.map (·.1) = xs.map (·.1) ∧ RelWs K m H (kvs.map (·.2)) (xs.map (·.2))
def ORel (K : PySem.W.Frag) (m : Mp) (H : Hp) (a : Addr) : Ob → Prop
  | .lst ws => ∃ xs, H a = some (.lst xs) ∧ RelWs K m H ws xs
  | .scr ns => ScrOk K H a ns
  | .dct kvs => ∃ xs, H a = some (.dK xs) ∧ RelK K m H kvs xs
  | .dcT kvs => ∃ xs, H a = some (.dT xs) ∧ RelK K m H kvs xs
def Ob.mu : Ob → Bool
  | .scr _ => false
  | _ => true
structure Sim (K : PySem.W.Frag) (m : Mp) (st : Hs) (H : Hp) : Prop where
  len : m.length = st.length
  obj : ∀ (l : Nat) (a : Addr) (o : Ob), m[l]? = some a → st[l]? = some o → ORel K m H a o
  inj : ∀ (l l' : Nat) (a : Addr) (o o' : Ob), m[l]? = some a → m[l']? = some a → st[l]? = some o → st[l']? = some o' → o.mu = true → o'.mu = true → l = l'
  tab : TbOk K H
def lstOf (st : Hs) (l : Nat) : Option (List Wv) := match st[l]? with
  | some (.lst ws) => some ws
  | some (.scr ns) => some (ns.map Wv.int)
  | _ => none
section
variable {K : PySem.W.Frag} {m : Mp} {H : Hp} {st : Hs}
def Wr (u : Option HO) : Prop := u = none ∨ (∃ ys, u = some (.lst ys)) ∨ (∃ ys, u = some (.dK ys)) ∨ ∃ ys, u = some (.dT ys)
theorem Wr.ne {p a : Addr} {u : HO} (hp : Wr (H p)) (e : H a = some u) (n1 : ∀ ys, u ≠ .lst ys) (n2 : ∀ ys, u ≠ .dK ys) (n3 : ∀ ys, u ≠ .dT ys) : a ≠ p := fun z => by
  subst z
  rcases hp with q | ⟨ys, q⟩ | ⟨ys, q⟩ | ⟨ys, q⟩
  · rw [q] at e; cases e
  · rw [q] at e; cases e; exact n1 ys rfl
  · rw [q] at e; cases e; exact n2 ys rfl
  · rw [q] at e; cases e; exact n3 ys rfl
theorem tup_updW {p a : Addr} {o : HO} {xs : List V} (hp : Wr (H p)) (h : H a = some (.tup xs)) : upd H p o a = some (.tup xs) := by
  rw [upd_ne (hp.ne h (by intro ys z; cases z) (by intro ys z; cases z) (by intro ys z; cases z))]; exact h
theorem scr_updW {p a : Addr} {o : HO} {ns : List Int} (hp : Wr (H p)) (h : ScrOk K H a ns) : ScrOk K (upd H p o) a ns := by
  rcases h with ⟨o', h⟩ | h
  · exact .inl ⟨o', by rw [upd_ne (hp.ne h (by intro ys z; cases z) (by intro ys z; cases z) (by intro ys z; cases z))]; exact h⟩
  · exact .inr h
theorem Wr.of {u : Option HO} (h : u = none ∨ ∃ ys, u = some (.lst ys)) : Wr u := by
  rcases h with q | q
  · exact .inl q
  · exact .inr (.inl q)
theorem Ext.updW {p : Addr} {o : HO} (hp : Wr (H p)) : Ext K m H m (upd H p o) := ⟨fun _ _ h => h, fun _ _ h => tup_updW hp h, fun a φ h => by
  rw [upd_ne (hp.ne h (by intro ys z; cases z) (by intro ys z; cases z) (by intro ys z; cases z))]
  exact h⟩
theorem Ext.upd {p : Addr} {o : HO} (hp : H p = none ∨ ∃ ys, H p = some (.lst ys)) : Ext K m H m (upd H p o) := Ext.updW (Wr.of hp)
theorem RelK.mono {κ : Type} {m1 : Mp} {H1 : Hp} {kvs : List (κ × Wv)} {xs : List (κ × V)} (e : Ext K m H m1 H1) (h : RelK K m H kvs xs) : RelK K m1 H1 kvs xs := ⟨h.1, RelWs.mono e _ _ h.2⟩
theorem ORel.keep {m1 : Mp} {b p : Addr} {u : HO} {o : Ob} (ex : Ext K m H m1 (L2.upd H p u)) (hp : Wr (H p)) (hb : o.mu = true → b ≠ p) (h : ORel K m H b o) : ORel K m1 (L2.upd H p u) b o := by
  cases o with
  | lst ws =>
    obtain ⟨xs, e1, e2⟩ := h
    exact ⟨xs, by rw [upd_ne (hb rfl)]; exact e1, RelWs.mono ex _ _ e2⟩
  | dct kvs =>
    obtain ⟨xs, e1, e2⟩ := h
    exact ⟨xs, by rw [upd_ne (hb rfl)]; exact e1, e2.mono ex⟩
  | dcT kvs =>
    obtain ⟨xs, e1, e2⟩ := h
    exact ⟨xs, by rw [upd_ne (hb rfl)]; exact e1, e2.mono ex⟩
  | scr ns => exact scr_updW hp h
theorem ORel.at {b : Addr} {o : Ob} (h : ORel K m H b o) (hm : o.mu = true) : ∃ u, H b = some u := by
  cases o with
  | lst ws => obtain ⟨xs, e1, e2⟩ := h; exact ⟨_, e1⟩
  | dct kvs => obtain ⟨xs, e1, e2⟩ := h; exact ⟨_, e1⟩
  | dcT kvs => obtain ⟨xs, e1, e2⟩ := h; exact ⟨_, e1⟩
  | scr ns => simp [Ob.mu] at hm
theorem ORel.wr {b : Addr} {o : Ob} (h : ORel K m H b o) (hm : o.mu = true) : Wr (H b) := by
  cases o with
  | lst ws => obtain ⟨xs, e1, e2⟩ := h; exact .inr (.inl ⟨_, e1⟩)
  | dct kvs => obtain ⟨xs, e1, e2⟩ := h; exact .inr (.inr (.inl ⟨_, e1⟩))
  | dcT kvs => obtain ⟨xs, e1, e2⟩ := h; exact .inr (.inr (.inr ⟨_, e1⟩))
  | scr ns => simp [Ob.mu] at hm
theorem TbOk.updW {p : Addr} {o : HO} (t : TbOk K H) (hp : Wr (H p)) : TbOk K (L2.upd H p o) := t.keep
  (fun a ps h => by rw [upd_ne (hp.ne h (by intro ys z; cases z) (by intro ys z; cases z) (by intro ys z; cases z))]; exact h)
  fun a φ h => by rw [upd_ne (hp.ne h (by intro ys z; cases z) (by intro ys z; cases z) (by intro ys z; cases z))]; exact h
theorem Ext.more {p : Addr} : Ext K m H (m ++ [p]) H := ⟨fun l a h => by
  rw [List.getElem?_append_left]
  · exact h
  · exact (List.getElem?_eq_some_iff.mp h).1, fun _ _ h => h, fun _ _ h => h⟩
theorem Sim.fresh {p : Addr} {o : HO} (S : Sim K m st H) (hp : H p = none) : Sim K m st (upd H p o) :=
  ⟨S.len, fun l a ob h1 h2 => by
    have q := S.obj l a ob h1 h2
    refine q.keep (Ext.updW (.inl hp)) (.inl hp) fun hm => ?_
    obtain ⟨u, e⟩ := q.at hm
    exact ne_of_none e hp, S.inj, S.tab.updW (.inl hp)⟩
theorem Sim.lstAt {l : Nat} {a : Addr} {ws : List Wv} (S : Sim K m st H) (h1 : m[l]? = some a) (h2 : st[l]? = some (.lst ws)) : ∃ xs, H a = some (.lst xs) ∧ RelWs K m H ws xs := S.obj l a _ h1 h2
theorem Sim.has {l : Nat} {o : Ob} (S : Sim K m st H) (h : st[l]? = some o) : ∃ a, m[l]? = some a := by
  have e : l < st.length := (List.getElem?_eq_some_iff.mp h).1
  have e' : l < m.length := by rw [S.len]; exact e
  exact ⟨m[l], List.getElem?_eq_getElem e'⟩
theorem Sim.read {l : Nat} {a : Addr} {ws : List Wv} (S : Sim K m st H) (h1 : m[l]? = some a) (h2 : lstOf st l = some ws) : ∃ xs, SqL K H a xs ∧ RelWs K m H ws xs := by
  unfold lstOf at h2
  cases e : st[l]? with
  | none => rw [e] at h2; cases h2
  | some o =>
    rw [e] at h2
    cases o with
    | lst zs =>
      cases h2
      obtain ⟨xs, e1, e2⟩ := S.lstAt h1 e
      exact ⟨xs, SqL.of e1, e2⟩
    | dct kvs => cases h2
    | dcT kvs => cases h2
    | scr ns =>
      cases h2
      have q : ScrOk K H a ns := S.obj l a _ h1 e
      refine ⟨ns.map V.int, ?_, RelWs.ints ns⟩
      rcases q with ⟨o, q⟩ | q
      · exact .inl (.inr ⟨o, q⟩)
      · exact .inr q
theorem Sim.allocO {p : Addr} {ob : Ob} {u : HO} (S : Sim K m st H) (hp : H p = none) (r : ORel K (m ++ [p]) (L2.upd H p u) p ob) : Sim K (m ++ [p]) (st ++ [ob]) (L2.upd H p u) := by
  have ex : Ext K m H (m ++ [p]) (L2.upd H p u) := Ext.more.trans (Ext.updW (.inl hp))
  have notold : ∀ (l : Nat) (o : Ob), m[l]? = some p → st[l]? = some o → o.mu = true → False := fun l o h1 h2 hm => by
    obtain ⟨v, e⟩ := (S.obj l p o h1 h2).at hm
    rw [hp] at e; cases e
  have old : ∀ (l : Nat) (a : Addr), (m ++ [p])[l]? = some a → (l < m.length ∧ m[l]? = some a) ∨ (l = m.length ∧ a = p) := fun l a h => by
    by_cases hl : l < m.length
    · exact .inl ⟨hl, by rw [List.getElem?_append_left hl] at h; exact h⟩
    · have h' := h
      rw [List.getElem?_append_right (by omega)] at h'
      have z := List.getElem?_eq_some_iff.mp h'
      have z1 : l - m.length < 1 := by simpa using z.1
      refine .inr ⟨by omega, ?_⟩
      have e0 : l - m.length = 0 := by omega
      rw [e0] at h'
      simpa using h'.symm
  have olds : ∀ (l : Nat) (o : Ob), l < m.length → (st ++ [ob])[l]? = some o → st[l]? = some o := fun l o hl h => by
    rw [List.getElem?_append_left (by rw [← S.len]; exact hl)] at h
    exact h
  refine ⟨by simp [S.len], fun l a o h1 h2 => ?_, fun l l' a zs zs' h1 h1' h2 h2' k k' => ?_, S.tab.updW (.inl hp)⟩
  · rcases old l a h1 with ⟨hl, h1⟩ | ⟨hl, rfl⟩
    · have q := S.obj l a o h1 (olds l o hl h2)
      refine q.keep ex (.inl hp) fun hm => ?_
      obtain ⟨v, e⟩ := q.at hm
      exact ne_of_none e hp
    · have e : o = ob := by
        rw [hl, S.len, List.getElem?_append_right (Nat.le_refl _), Nat.sub_self] at h2
        simpa using h2.symm
      subst e
      exact r
  · rcases old l a h1 with ⟨hl, g1⟩ | ⟨hl, ea⟩
    · rcases old l' a h1' with ⟨hl', g1'⟩ | ⟨hl', ea'⟩
      · exact S.inj l l' a zs zs' g1 g1' (olds l _ hl h2) (olds l' _ hl' h2') k k'
      · rw [ea'] at g1
        exact (notold l zs g1 (olds l _ hl h2) k).elim
    · rcases old l' a h1' with ⟨hl', g1'⟩ | ⟨hl', _⟩
      · rw [ea] at g1'
        exact (notold l' zs' g1' (olds l' _ hl' h2') k').elim
      · omega
theorem Sim.alloc {p : Addr} {ws : List Wv} {xs : List V} (S : Sim K m st H) (hp : H p = none) (r : RelWs K m H ws xs) : Sim K (m ++ [p]) (st ++ [.lst ws]) (upd H p (.lst xs)) :=
  S.allocO hp ⟨xs, upd_same, RelWs.mono (Ext.more.trans (Ext.updW (.inl hp))) _ _ r⟩
theorem Sim.writeO {l : Nat} {a : Addr} {o0 ob : Ob} {u : HO} (S : Sim K m st H) (h1 : m[l]? = some a) (h2 : st[l]? = some o0) (hm : o0.mu = true) (r : ORel K m (L2.upd H a u) a ob) : Sim K m (st.set l ob) (L2.upd H a u) := by
  have wr : Wr (H a) := (S.obj l a o0 h1 h2).wr hm
  have ex : Ext K m H m (L2.upd H a u) := Ext.updW wr
  have hl : l < st.length := (List.getElem?_eq_some_iff.mp h2).1
  have at' : ∀ (k : Nat) (o : Ob), (st.set l ob)[k]? = some o → (k = l ∧ o = ob) ∨ (k ≠ l ∧ st[k]? = some o) := fun k o h => by
    by_cases e : l = k
    · subst e
      rw [List.getElem?_set_self hl] at h
      exact .inl ⟨rfl, (Option.some.inj h).symm⟩
    · rw [List.getElem?_set_ne e] at h
      exact .inr ⟨fun z => e z.symm, h⟩
  refine ⟨by simp [S.len], fun k b o g1 g2 => ?_, fun k k' b us us' g1 g1' g2 g2' q q' => ?_, S.tab.updW wr⟩
  · rcases at' k o g2 with ⟨rfl, rfl⟩ | ⟨hk, g2⟩
    · rw [h1] at g1; cases g1
      exact r
    · have q := S.obj k b o g1 g2
      refine q.keep ex wr fun ho z => ?_
      subst z
      exact hk (S.inj k l b o o0 g1 h1 g2 h2 ho hm)
  · have back : ∀ (k : Nat) (o : Ob), (st.set l ob)[k]? = some o → o.mu = true → ∃ o', st[k]? = some o' ∧ o'.mu = true := fun k o h ho => by
      rcases at' k _ h with ⟨rfl, _⟩ | ⟨_, h⟩
      · exact ⟨o0, h2, hm⟩
      · exact ⟨o, h, ho⟩
    obtain ⟨u1, e1, f1⟩ := back k us g2 q
    obtain ⟨u2, e2, f2⟩ := back k' us' g2' q'
    exact S.inj k k' b u1 u2 g1 g1' e1 e2 f1 f2
theorem Sim.write {l : Nat} {a : Addr} {ws zs : List Wv} {xs : List V} (S : Sim K m st H) (h1 : m[l]? = some a) (h2 : st[l]? = some (.lst ws)) (r : RelWs K m H zs xs) : Sim K m (st.set l (.lst zs)) (upd H a (.lst xs)) :=
  S.writeO h1 h2 rfl ⟨xs, upd_same, RelWs.mono (Ext.updW ((S.obj l a _ h1 h2).wr rfl)) _ _ r⟩
end
structure RelEnv (K : PySem.W.Frag) (m : Mp) (H : Hp) (ρ : Rho) (σ : St) : Prop where
  len : ρ.length = σ.length
  get : ∀ (i : Nat) (w : Wv), ρ[i]? = some (some w) → ∃ v, σ[i]? = some (some v) ∧ RelW K m H w v
section
variable {K : PySem.W.Frag} {m m1 : Mp} {H H1 : Hp} {ρ : Rho} {σ : St}
theorem RelEnv.mono (R : RelEnv K m H ρ σ) (e : Ext K m H m1 H1) : RelEnv K m1 H1 ρ σ := ⟨R.len, fun i w h => let ⟨v, h1, h2⟩ := R.get i w h; ⟨v, h1, RelW.mono e _ _ h2⟩⟩
theorem RelEnv.set (R : RelEnv K m H ρ σ) (i : Nat) {w : Wv} {v : V} (h : RelW K m H w v) : RelEnv K m H (ρ.set i (some w)) (σ.set i (some v)) := by
  refine ⟨by simp [R.len], fun j u e => ?_⟩
  by_cases hj : i = j
  · subst hj
    have hi : i < ρ.length := by
      have := (List.getElem?_eq_some_iff.mp e).1
      simpa using this
    rw [List.getElem?_set_self hi] at e
    have e' : w = u := Option.some.inj (Option.some.inj e)
    subst e'
    exact ⟨v, by rw [List.getElem?_set_self (by rw [← R.len]; exact hi)], h⟩
  · rw [List.getElem?_set_ne hj] at e
    obtain ⟨x, h1, h2⟩ := R.get j u e
    exact ⟨x, by rw [List.getElem?_set_ne hj]; exact h1, h2⟩
end
inductive Re (α : Type) where
  | ok (a : α) (st : Hs)
  | err (c : PySem.Str) (st : Hs)
  | bad
def Re.bind {α β : Type} (r : Re α) (f : α → Hs → Re β) : Re β := match r with
  | .ok a st => f a st
  | .err c st => .err c st
  | .bad => .bad
inductive Rs where
  | nx (ρ : Rho) (st : Hs)
  | rt (w : Wv) (st : Hs)
  | bk (ρ : Rho) (st : Hs)
  | ct (ρ : Rho) (st : Hs)
  | err (c : PySem.Str) (ρ : Rho) (st : Hs)
  | bad
def Re.thn {α : Type} (ρ : Rho) (r : Re α) (f : α → Hs → Rs) : Rs := match r with
  | .ok a st => f a st
  | .err c st => .err c ρ st
  | .bad => .bad
def Re.nox {α : Type} (r : Re α) : Re α := match r with
  | .ok a st => .ok a st
  | _ => .bad
abbrev GE := Rho → Hs → Re Wv
abbrev GT := Rho → Hs → Re Bool
abbrev GA := Rho → Hs → Re (List Wv)
abbrev GS := Rho → Hs → Rs
def Flown (P : Program) (w : World) (outer : List Env) (H : Hp) (s : Shared) (H' : Hp) (cls : Value) (e : Value) (s' : Shared) : Prop :=
  ∃ (a : Addr) (a0 : Value) (B : Heap), e = .ref a ∧ s'.os = s.os ∧ AllBare s'.gens ∧ Un (frs outer) [] H H' s.heap s'.heap ∧ HOk P w H' B ∧ Heap.FlyingW B outer a cls a0 s'.heap ∧
    (∀ b o, s.heap.get? b = some o → b ∉ frs outer → ∃ o', B.get? b = some o' ∧ (H b = none → o' = o))
def Raised (X : Cx) (σ : St) (H' : Hp) (c : PySem.Str) (e : Value) (s' : Shared) : Prop :=
  ∃ (C : Addr) (pins : List (Addr × Obj)) (Hc : Hp) (sc : Shared), ClsAt X.K c C ∧ Inv X pins σ Hc sc ∧
    (Flown X.prog X.w X.stack Hc sc H' (.ref C) e s' ∨ (H' = Hc ∧ ∃ a args, e = .ref a ∧ s'.os = sc.os ∧ s'.gens = sc.gens ∧ Heap.MadeExcOf sc.heap s'.heap a (.ref C) args))
def XOk (X : Cx) (σ : St) (m : Mp) (H : Hp) (c : PySem.Str) (st : Hs) : Prop :=
  ∀ (m' : Mp) (H' : Hp) (e : Value) (s' : Shared), Ext X.K m H m' H' → Sim X.K m' st H' → Raised X σ H' c e s' → X.xe e s'
theorem XOk.mono {X : Cx} {σ : St} {m m1 : Mp} {H H1 : Hp} {c : PySem.Str} {st : Hs} (h : XOk X σ m H c st) (e : Ext X.K m H m1 H1) : XOk X σ m1 H1 c st :=
  fun m' H' x s' e' S r => h m' H' x s' (e.trans e') S r
def PostG {α : Type} (X : Cx) (σ : St) (m : Mp) (H : Hp) (r : Re α) (ok : α → Hs → Prop) : Prop := match r with
  | .ok a st => ok a st
  | .err c st => XOk X σ m H c st
  | .bad => False
def PostN {α : Type} (r : Re α) (ok : α → Hs → Prop) : Prop := match r with
  | .ok a st => ok a st
  | _ => False
theorem PostG.nox {α : Type} {X : Cx} {σ : St} {m : Mp} {H : Hp} {r : Re α} {ok : α → Hs → Prop} (h : PostG X σ m H r.nox ok) : PostN r ok := by
  cases r with
  | ok a st => exact h
  | err c st => exact h
  | bad => exact h
theorem PostG.bind {α β : Type} {X : Cx} {σ : St} {m : Mp} {H : Hp} {r : Re α} {f : α → Hs → Re β} {ok : β → Hs → Prop} (h : PostG X σ m H (r.bind f) ok) : PostG X σ m H r (fun a st => PostG X σ m H (f a st) ok) := by
  cases r with
  | ok a st => exact h
  | err c st => exact h
  | bad => exact h
theorem PostG.imp {α : Type} {X : Cx} {σ : St} {m m1 : Mp} {H H1 : Hp} {r : Re α} {ok ok' : α → Hs → Prop} (h : PostG X σ m H r ok) (e : Ext X.K m H m1 H1) (k : ∀ a st, ok a st → ok' a st) : PostG X σ m1 H1 r ok' := by
  cases r with
  | ok a st => exact k a st h
  | err c st => exact XOk.mono (c := c) (st := st) h e
  | bad => exact h
theorem PostN.imp {α : Type} {r : Re α} {ok ok' : α → Hs → Prop} (h : PostN r ok) (k : ∀ a st, ok a st → ok' a st) : PostN r ok' := by
  cases r with
  | ok a st => exact k a st h
  | err c st => exact h
  | bad => exact h
def okE (K : PySem.W.Frag) (m : Mp) (H : Hp) (Q : VK) (w : Wv) (st : Hs) : Prop := ∀ (v : V) (m' : Mp) (H' : Hp), Ext K m H m' H' → Sim K m' st H' → RelW K m' H' w v → Q v H'
def okT (K : PySem.W.Frag) (m : Mp) (H : Hp) (Q : Bool → Hp → Prop) (b : Bool) (st : Hs) : Prop := ∀ (m' : Mp) (H' : Hp), Ext K m H m' H' → Sim K m' st H' → Q b H'
def okA (K : PySem.W.Frag) (m : Mp) (H : Hp) (Q : List V → Hp → Prop) (ws : List Wv) (st : Hs) : Prop := ∀ (vs : List V) (m' : Mp) (H' : Hp), Ext K m H m' H' → Sim K m' st H' → RelWs K m' H' ws vs → Q vs H'
abbrev PostE (X : Cx) (σ : St) (m : Mp) (H : Hp) (r : Re Wv) (Q : VK) : Prop := PostG X σ m H r (okE X.K m H Q)
abbrev PostT (X : Cx) (σ : St) (m : Mp) (H : Hp) (r : Re Bool) (Q : Bool → Hp → Prop) : Prop := PostG X σ m H r (okT X.K m H Q)
abbrev PostA (X : Cx) (σ : St) (m : Mp) (H : Hp) (r : Re (List Wv)) (Q : List V → Hp → Prop) : Prop := PostG X σ m H r (okA X.K m H Q)
theorem PostE.shift {X : Cx} {σ : St} {m m1 : Mp} {H H1 : Hp} {r : Re Wv} {Q : VK} (h : PostE X σ m H r Q) (e : Ext X.K m H m1 H1) : PostE X σ m1 H1 r Q := h.imp e fun _ _ k v m' H' e' => k v m' H' (e.trans e')
theorem PostT.shift {X : Cx} {σ : St} {m m1 : Mp} {H H1 : Hp} {r : Re Bool} {Q : Bool → Hp → Prop} (h : PostT X σ m H r Q) (e : Ext X.K m H m1 H1) : PostT X σ m1 H1 r Q := h.imp e fun _ _ k m' H' e' => k m' H' (e.trans e')
theorem PostA.shift {X : Cx} {σ : St} {m m1 : Mp} {H H1 : Hp} {r : Re (List Wv)} {Q : List V → Hp → Prop} (h : PostA X σ m H r Q) (e : Ext X.K m H m1 H1) : PostA X σ m1 H1 r Q := h.imp e fun _ _ k v m' H' e' => k v m' H' (e.trans e')
abbrev PostO (K : PySem.W.Frag) (m : Mp) (H : Hp) (r : Re Wv) (Q : VK) : Prop := PostN r (okE K m H Q)
theorem PostO.shift {K : PySem.W.Frag} {m m1 : Mp} {H H1 : Hp} {r : Re Wv} {Q : VK} (h : PostO K m H r Q) (e : Ext K m H m1 H1) : PostO K m1 H1 r Q := PostN.imp h fun _ _ k v m' H' e' => k v m' H' (e.trans e')
def PostS (X : Cx) (m : Mp) (H : Hp) (r : Rs) (D : Ends) : Prop := match r with
  | .nx ρ st => ∀ (σ : St) (m' : Mp) (H' : Hp), Ext X.K m H m' H' → Sim X.K m' st H' → RelEnv X.K m' H' ρ σ → D.nx σ H'
  | .rt w st => ∀ (v : V) (m' : Mp) (H' : Hp), Ext X.K m H m' H' → Sim X.K m' st H' → RelW X.K m' H' w v → D.rt v H'
  | .bk ρ st => ∀ (σ : St) (m' : Mp) (H' : Hp), Ext X.K m H m' H' → Sim X.K m' st H' → RelEnv X.K m' H' ρ σ → D.bk σ H'
  | .ct ρ st => ∀ (σ : St) (m' : Mp) (H' : Hp), Ext X.K m H m' H' → Sim X.K m' st H' → RelEnv X.K m' H' ρ σ → D.ct σ H'
  | .err c ρ st => ∀ (σ : St) (m' : Mp) (H' : Hp) (e : Value) (s' : Shared), Ext X.K m H m' H' → Sim X.K m' st H' → RelEnv X.K m' H' ρ σ → Raised X σ H' c e s' → X.xe e s'
  | .bad => False
theorem PostS.shift {X : Cx} {m m1 : Mp} {H H1 : Hp} {r : Rs} {D : Ends} (h : PostS X m H r D) (e : Ext X.K m H m1 H1) : PostS X m1 H1 r D := by
  cases r with
  | nx ρ st => exact fun σ m' H' e' => h σ m' H' (e.trans e')
  | rt w st => exact fun v m' H' e' => h v m' H' (e.trans e')
  | bk ρ st => exact fun σ m' H' e' => h σ m' H' (e.trans e')
  | ct ρ st => exact fun σ m' H' e' => h σ m' H' (e.trans e')
  | err c ρ st => exact fun σ m' H' x s' e' => h σ m' H' x s' (e.trans e')
  | bad => exact h
theorem PostS.of_thn {α : Type} {X : Cx} {m : Mp} {H : Hp} {ρ : Rho} {σ : St} {r : Re α} {f : α → Hs → Rs} {D : Ends} (R : RelEnv X.K m H ρ σ) (h : PostS X m H (r.thn ρ f) D) : PostG X σ m H r (fun a st => PostS X m H (f a st) D) := by
  cases r with
  | ok a st => exact h
  | err c st => exact fun m' H' x s' e' S r => h σ m' H' x s' e' S (R.mono e') r
  | bad => exact h
def SE (X : Cx) (e : Expr) : TE := fun σ H Q => ∀ (pins : List (Addr × Obj)) (s : Shared), Inv X pins σ H s → wpAny (model X.prog X.w) X.A (eval e X.env) (EP X pins σ Q) X.xe s
def ST (X : Cx) (e : Expr) : TT := fun σ H Q => ∀ (pins : List (Addr × Obj)) (s : Shared), Inv X pins σ H s → wpAny (model X.prog X.w) X.A (isTrue e X.env (eval e X.env)) (TP X pins σ Q) X.xe s
def SA (X : Cx) (es : List Expr) : TA := fun σ H Q => ∀ (pos : Pos) (pins : List (Addr × Obj)) (s : Shared), Inv X pins σ H s → wpAny (model X.prog X.w) X.A (spliced (backTo pos (starEach es X.env))) (AP X pins σ Q) X.xe s
def SS (X : Cx) (st : Stmt) : TS := fun D σ H => ∀ (pins : List (Addr × Obj)) (s : Shared), Inv X pins σ H s → wpAny (model X.prog X.w) X.A (exec st X.env) (SP X pins D) X.xe s
def SSs (X : Cx) (st : List Stmt) : TS := fun D σ H => ∀ (pins : List (Addr × Obj)) (s : Shared), Inv X pins σ H s → wpAny (model X.prog X.w) X.A (execs st X.env) (SP X pins D) X.xe s
section
variable {X : Cx}
theorem pe_SE {e : Expr} : PE X e (SE X e) := fun pins s _ _ _ I h => h pins s I
theorem pt_ST {e : Expr} : PT X e (ST X e) := fun pins s _ _ _ I h => h pins s I
theorem pa_SA {es : List Expr} : PA X es (SA X es) := fun pos pins s _ _ _ I h => h pos pins s I
theorem ps_SS {st : Stmt} : PS X st (SS X st) := fun pins s _ _ _ I h => h pins s I
theorem pss_SSs {st : List Stmt} : PSs X st (SSs X st) := fun pins s _ _ _ I h => h pins s I
end
def JE (X : Cx) (e : Expr) (g : GE) : Prop := ∀ (ρ : Rho) (st : Hs) (σ : St) (H : Hp) (m : Mp) (Q : VK), Sim X.K m st H → RelEnv X.K m H ρ σ → PostE X σ m H (g ρ st) Q → SE X e σ H Q
def JT (X : Cx) (e : Expr) (g : GT) : Prop := ∀ (ρ : Rho) (st : Hs) (σ : St) (H : Hp) (m : Mp) (Q : Bool → Hp → Prop), Sim X.K m st H → RelEnv X.K m H ρ σ → PostT X σ m H (g ρ st) Q → ST X e σ H Q
def JA (X : Cx) (es : List Expr) (g : GA) : Prop := ∀ (ρ : Rho) (st : Hs) (σ : St) (H : Hp) (m : Mp) (Q : List V → Hp → Prop), Sim X.K m st H → RelEnv X.K m H ρ σ → PostA X σ m H (g ρ st) Q → SA X es σ H Q
def JS (X : Cx) (s : Stmt) (g : GS) : Prop := ∀ (ρ : Rho) (st : Hs) (σ : St) (H : Hp) (m : Mp) (D : Ends), Sim X.K m st H → RelEnv X.K m H ρ σ → PostS X m H (g ρ st) D → SS X s D σ H
def JSs (X : Cx) (s : List Stmt) (g : GS) : Prop := ∀ (ρ : Rho) (st : Hs) (σ : St) (H : Hp) (m : Mp) (D : Ends), Sim X.K m st H → RelEnv X.K m H ρ σ → PostS X m H (g ρ st) D → SSs X s D σ H
section
variable {X : Cx}
theorem JE.of {e : Expr} {g : GE} {t : TE} (h : PE X e t) (k : ∀ (ρ : Rho) (st : Hs) (σ : St) (H : Hp) (m : Mp) (Q : VK), Sim X.K m st H → RelEnv X.K m H ρ σ → PostE X σ m H (g ρ st) Q → t σ H Q) : JE X e g :=
  fun ρ st σ H m Q S R p pins s I => h pins s σ H Q I (k ρ st σ H m Q S R p)
theorem JT.of {e : Expr} {g : GT} {t : TT} (h : PT X e t) (k : ∀ (ρ : Rho) (st : Hs) (σ : St) (H : Hp) (m : Mp) (Q : Bool → Hp → Prop), Sim X.K m st H → RelEnv X.K m H ρ σ → PostT X σ m H (g ρ st) Q → t σ H Q) : JT X e g :=
  fun ρ st σ H m Q S R p pins s I => h pins s σ H Q I (k ρ st σ H m Q S R p)
theorem JA.of {es : List Expr} {g : GA} {t : TA} (h : PA X es t) (k : ∀ (ρ : Rho) (st : Hs) (σ : St) (H : Hp) (m : Mp) (Q : List V → Hp → Prop), Sim X.K m st H → RelEnv X.K m H ρ σ → PostA X σ m H (g ρ st) Q → t σ H Q) : JA X es g :=
  fun ρ st σ H m Q S R p pos pins s I => h pos pins s σ H Q I (k ρ st σ H m Q S R p)
theorem JS.of {e : Stmt} {g : GS} {t : TS} (h : PS X e t) (k : ∀ (ρ : Rho) (st : Hs) (σ : St) (H : Hp) (m : Mp) (D : Ends), Sim X.K m st H → RelEnv X.K m H ρ σ → PostS X m H (g ρ st) D → t D σ H) : JS X e g :=
  fun ρ st σ H m D S R p pins s I => h pins s σ H D I (k ρ st σ H m D S R p)
theorem JSs.of {e : List Stmt} {g : GS} {t : TS} (h : PSs X e t) (k : ∀ (ρ : Rho) (st : Hs) (σ : St) (H : Hp) (m : Mp) (D : Ends), Sim X.K m st H → RelEnv X.K m H ρ σ → PostS X m H (g ρ st) D → t D σ H) : JSs X e g :=
  fun ρ st σ H m D S R p pins s I => h pins s σ H D I (k ρ st σ H m D S R p)
theorem JE.go {e : Expr} {g : GE} {ρ : Rho} {st : Hs} {σ : St} {H : Hp} {m : Mp} {T : VK} {ok : Wv → Hs → Prop} (h : JE X e g) (S : Sim X.K m st H) (R : RelEnv X.K m H ρ σ) (p : PostG X σ m H (g ρ st) ok)
    (k : ∀ (w : Wv) (st1 : Hs) (v : V) (m1 : Mp) (H1 : Hp), ok w st1 → Ext X.K m H m1 H1 → Sim X.K m1 st1 H1 → RelW X.K m1 H1 w v → T v H1) : SE X e σ H T :=
  h ρ st σ H m T S R (p.imp Ext.refl fun w st1 q v m1 H1 e1 s1 r1 => k w st1 v m1 H1 q e1 s1 r1)
theorem JT.go {e : Expr} {g : GT} {ρ : Rho} {st : Hs} {σ : St} {H : Hp} {m : Mp} {T : Bool → Hp → Prop} {ok : Bool → Hs → Prop} (h : JT X e g) (S : Sim X.K m st H) (R : RelEnv X.K m H ρ σ) (p : PostG X σ m H (g ρ st) ok)
    (k : ∀ (b : Bool) (st1 : Hs) (m1 : Mp) (H1 : Hp), ok b st1 → Ext X.K m H m1 H1 → Sim X.K m1 st1 H1 → T b H1) : ST X e σ H T :=
  h ρ st σ H m T S R (p.imp Ext.refl fun b st1 q m1 H1 e1 s1 => k b st1 m1 H1 q e1 s1)
theorem JA.go {es : List Expr} {g : GA} {ρ : Rho} {st : Hs} {σ : St} {H : Hp} {m : Mp} {T : List V → Hp → Prop} {ok : List Wv → Hs → Prop} (h : JA X es g) (S : Sim X.K m st H) (R : RelEnv X.K m H ρ σ) (p : PostG X σ m H (g ρ st) ok)
    (k : ∀ (ws : List Wv) (st1 : Hs) (vs : List V) (m1 : Mp) (H1 : Hp), ok ws st1 → Ext X.K m H m1 H1 → Sim X.K m1 st1 H1 → RelWs X.K m1 H1 ws vs → T vs H1) : SA X es σ H T :=
  h ρ st σ H m T S R (p.imp Ext.refl fun w st1 q v m1 H1 e1 s1 r1 => k w st1 v m1 H1 q e1 s1 r1)
end
end J
namespace J
open PySem PySem.Spec PyProof.Rows L2
def lim : Nat := 1000000
theorem lim_le {n : Nat} (h : n ≤ lim) : n ≤ sizeLine := Nat.le_trans h (by unfold lim; rw [sizeLine_eq]; decide)
theorem lim_lt {n : Nat} (h : n < lim) : n < sizeLine := Nat.lt_of_lt_of_le h (by unfold lim; rw [sizeLine_eq]; decide)
def gVar (i : Nat) : GE := fun ρ st => match ρ[i]? with
  | some (some w) => .ok w st
  | _ => .bad
def gC (w : Wv) : GE := fun _ st => .ok w st
section
variable {X : Cx}
theorem je_var (i : Nat) {x : Str} {pos : Pos} (hN : X.N[i]? = some x := by rfl) (hv : Vis X.env.scope x := by first | exact Or.inl rfl | exact Or.inr (Or.inl rfl) | exact Or.inr (Or.inr rfl)) (hd : (x == ("__debug__" : Str)) = false := by decide)
    (hcd : (x == ("__classdict__" : Str)) = false := by decide) : JE X (.Name x pos) (gVar i) := JE.of (pe_var hN hv hd hcd) fun ρ st σ H m Q S R p => by
  unfold gVar at p
  cases e : ρ[i]? with
  | none => rw [e] at p; exact False.elim p
  | some o =>
    cases o with
    | none => rw [e] at p; exact False.elim p
    | some w =>
      rw [e] at p
      obtain ⟨v, h1, h2⟩ := R.get i w e
      exact ⟨v, h1, p v m H Ext.refl S h2⟩
theorem je_int {i : Int} {j pos} : JE X (.Constant (.int i) j pos) (gC (.int i)) := JE.of pe_int fun ρ st σ H m Q S R p => p (.int i) m H Ext.refl S (by unfold RelW; rfl)
theorem je_bl {b : Bool} {j pos} : JE X (.Constant (.bool b) j pos) (gC (.bl b)) := JE.of pe_bl fun ρ st σ H m Q S R p => p (.bl b) m H Ext.refl S (by unfold RelW; rfl)
theorem je_non {j pos} : JE X (.Constant .none j pos) (gC .non) := JE.of pe_non fun ρ st σ H m Q S R p => p .non m H Ext.refl S (by unfold RelW; rfl)
theorem je_str {x : PySem.Str} {j pos} (hx : PyData.strOk x = true := by decide +kernel) : JE X (.Constant (.str x) j pos) (gC (.str x)) := JE.of pe_str fun ρ st σ H m Q S R p => p (.str x) m H Ext.refl S (by unfold RelW; exact ⟨rfl, hx⟩)
theorem je_globI {x : Str} {i : Int} {t : Tok} {pos : Pos} (hg : Gl X x) (hm : X.mg x = some (.int i t)) (hd : (x == ("__debug__" : Str)) = false := by decide) : JE X (.Name x pos) (gC (.int i)) :=
  JE.of (pe_glob (v := .int i) hg hm ⟨t, rfl⟩ hd) fun ρ st σ H m Q S R p => p (.int i) m H Ext.refl S (by unfold RelW; rfl)
theorem je_globS {x y : Str} {t : Tok} {pos : Pos} (hg : Gl X x) (hm : X.mg x = some (.str y t)) (hy : PyData.strOk y = true := by decide +kernel) (hd : (x == ("__debug__" : Str)) = false := by decide) : JE X (.Name x pos) (gC (.str y)) :=
  JE.of (pe_glob (v := .str y) hg hm ⟨t, rfl⟩ hd) fun ρ st σ H m Q S R p => p (.str y) m H Ext.refl S (by unfold RelW; exact ⟨rfl, hy⟩)
theorem je_ty {x : Str} {T : String} {pos : Pos} (hg : Gl X x) (hm : X.mg x = none) (hv : bootBuiltins x = some (.type T)) (hn : x ≠ "__name__" := by decide) (hd : (x == ("__debug__" : Str)) = false := by decide) : JE X (.Name x pos) (gC (.ty T)) :=
  JE.of (pe_bltn (v := .ty T) hg hm hv rfl hn hd) fun ρ st σ H m Q S R p => p (.ty T) m H Ext.refl S (by unfold RelW; rfl)
abbrev Op2 := Wv → Wv → Hs → Re Wv
def gBin (op : Op2) (ga gb : GE) : GE := fun ρ st => (ga ρ st).bind fun x st1 => (gb ρ st1).bind fun y st2 => (op x y st2).nox
def ReadW (X : Cx) (op : Op2) (r : R2) : Prop := ∀ (x y : Wv) (a b : V) (st : Hs) (H : Hp) (m : Mp) (Q : VK), Sim X.K m st H → RelW X.K m H x a → RelW X.K m H y b → PostO X.K m H (op x y st) Q → r a b H Q
def OpW (X : Cx) (f : Value → Value → Sem Value) (op : Op2) : Prop := ∃ r, OpR X f r ∧ ReadW X op r
theorem read2 {a b : Expr} {ga gb : GE} {op : Op2} {r : R2} (h2 : ReadW X op r) (ha : JE X a ga) (hb : JE X b gb) {ρ : Rho} {st : Hs} {σ : St} {H : Hp} {m : Mp} {Q : VK} (S : Sim X.K m st H) (R : RelEnv X.K m H ρ σ) (p : PostE X σ m H (gBin op ga gb ρ st) Q) :
    tOp r (SE X a) (SE X b) σ H Q := by
  refine ha.go S R (PostG.bind p) fun x st1 v m1 H1 p1 e1 S1 rx => ?_
  refine hb.go S1 (R.mono e1) ((PostG.bind p1).imp e1 fun _ _ q => q) fun y st2 u m2 H2 p2 e2 S2 ry => ?_
  exact h2 x y v u st2 H2 m2 Q S2 (RelW.mono e2 _ _ rx) ry (PostO.shift (PostG.nox p2) (e1.trans e2))
theorem je_bin {a b : Expr} {ga gb : GE} {o : Operator} {op : Op2} {pos : Pos} (ho : OpW X (binaryOp o) op) (ha : JE X a ga) (hb : JE X b gb) : JE X (.BinOp a o b pos) (gBin op ga gb) := by
  obtain ⟨r, h1, h2⟩ := ho
  exact JE.of (pe_op h1 pe_SE pe_SE) fun ρ st σ H m Q S R p => read2 h2 ha hb S R p
theorem je_cmp {a b : Expr} {ga gb : GE} {o : CmpOp} {op : Op2} {pos : Pos} (ho : OpW X (compareOp o) op) (ha : JE X a ga) (hb : JE X b gb) (hm : behindInMarks o b = false) : JE X (.Compare a [o] [b] pos) (gBin op ga gb) := by
  obtain ⟨r, h1, h2⟩ := ho
  exact JE.of (pe_cmpR h1 pe_SE pe_SE hm) fun ρ st σ H m Q S R p => read2 h2 ha hb S R p
def tst (w : Wv) (st : Hs) : Re Bool := match w with
  | .bl b => .ok b st
  | _ => .bad
def gTst (g : GE) : GT := fun ρ st => (g ρ st).bind tst
theorem post_tst {σ : St} {m : Mp} {H : Hp} {r : Re Wv} {Q : Bool → Hp → Prop} (p : PostT X σ m H (r.bind tst) Q) : PostE X σ m H r (fun x H' => ∃ k, x = .bl k ∧ Q k H') := by
  cases r with
  | ok w st =>
    cases w with
    | bl b =>
      intro v m' H' e S rw'
      unfold RelW at rw'
      exact ⟨b, rw', p m' H' e S⟩
    | _ => exact False.elim p
  | err c st => exact p
  | bad => exact p
theorem jt_cmp {a b : Expr} {ga gb : GE} {o : CmpOp} {op : Op2} {pos : Pos} (ho : OpW X (compareOp o) op) (ha : JE X a ga) (hb : JE X b gb) (hm : behindInMarks o b = false) : JT X (.Compare a [o] [b] pos) (gTst (gBin op ga gb)) := by
  obtain ⟨r, h1, h2⟩ := ho
  exact JT.of (pt_cmpR h1 pe_SE pe_SE hm) fun ρ st σ H m Q S R p => read2 h2 ha hb S R (post_tst p)
def gChain (op op' : Op2) (ga gb gc : GE) : GE := fun ρ st => (ga ρ st).bind fun x st1 => (gb ρ st1).bind fun y st2 => (op x y st2).nox.bind fun z st3 => match z with
  | .bl true => (gc ρ st3).bind fun u st4 => (op' y u st4).nox
  | .bl false => .ok (.bl false) st3
  | _ => .bad
theorem readC {a b c : Expr} {ga gb gc : GE} {op op' : Op2} {r r' : R2} (h2 : ReadW X op r) (h2' : ReadW X op' r') (ha : JE X a ga) (hb : JE X b gb) (hc : JE X c gc) {ρ : Rho} {st : Hs} {σ : St} {H : Hp} {m : Mp} {Q : VK}
    (S : Sim X.K m st H) (R : RelEnv X.K m H ρ σ) (p : PostE X σ m H (gChain op op' ga gb gc ρ st) Q) : tChain r r' (SE X a) (SE X b) (SE X c) σ H Q := by
  refine ha.go S R (PostG.bind p) fun x st1 v m1 H1 p1 e1 S1 rx => ?_
  refine hb.go S1 (R.mono e1) ((PostG.bind p1).imp e1 fun _ _ q => q) fun y st2 u m2 H2 p2 e2 S2 ry => ?_
  refine h2 x y v u st2 H2 m2 _ S2 (RelW.mono e2 _ _ rx) ry (PostN.imp (PostG.nox (PostG.bind p2)) fun z st3 p3 => ?_)
  intro z' m3 H3 e3 S3 rz
  cases z with
  | bl k =>
    unfold RelW at rz
    refine ⟨k, rz, ?_⟩
    cases k with
    | true =>
      rw [if_pos rfl]
      refine hc.go S3 (R.mono (e1.trans (e2.trans e3))) ((PostG.bind p3).imp (e1.trans (e2.trans e3)) fun _ _ q => q) fun q st4 u' m4 H4 p4 e4 S4 rq => ?_
      exact h2' y q u u' st4 H4 m4 Q S4 (RelW.mono (e3.trans e4) _ _ ry) rq (PostO.shift (PostG.nox p4) (e1.trans (e2.trans (e3.trans e4))))
    | false =>
      rw [if_neg Bool.false_ne_true]
      exact p3 (.bl false) m3 H3 (e1.trans (e2.trans e3)) S3 (by unfold RelW; rfl)
  | _ => exact False.elim p3
theorem je_chain {a b c : Expr} {ga gb gc : GE} {o o' : CmpOp} {op op' : Op2} {pos : Pos} (ho : OpW X (compareOp o) op) (ho' : OpW X (compareOp o') op') (ha : JE X a ga) (hb : JE X b gb) (hc : JE X c gc)
    (hm : lastMarks [o, o'] [b, c] = false := by with_unfolding_all rfl) : JE X (.Compare a [o, o'] [b, c] pos) (gChain op op' ga gb gc) := by
  obtain ⟨r, h1, h2⟩ := ho
  obtain ⟨r', h1', h2'⟩ := ho'
  exact JE.of (pe_chain h1 h1' pe_SE pe_SE pe_SE hm) fun ρ st σ H m Q S R p => readC h2 h2' ha hb hc S R p
theorem jt_chain {a b c : Expr} {ga gb gc : GE} {o o' : CmpOp} {op op' : Op2} {pos : Pos} (ho : OpW X (compareOp o) op) (ho' : OpW X (compareOp o') op') (ha : JE X a ga) (hb : JE X b gb) (hc : JE X c gc)
    (hm : lastMarks [o, o'] [b, c] = false := by with_unfolding_all rfl) : JT X (.Compare a [o, o'] [b, c] pos) (gTst (gChain op op' ga gb gc)) := by
  obtain ⟨r, h1, h2⟩ := ho
  obtain ⟨r', h1', h2'⟩ := ho'
  exact JT.of (pt_chain h1 h1' pe_SE pe_SE pe_SE hm) fun ρ st σ H m Q S R p => readC h2 h2' ha hb hc S R (post_tst p)
def gUn (op : Wv → Hs → Re Wv) (ga : GE) : GE := fun ρ st => (ga ρ st).bind op
def opNeg : Wv → Hs → Re Wv
  | .int i, st => .ok (.int (-i)) st
  | _, _ => .bad
theorem je_neg {a : Expr} {ga : GE} {pos : Pos} (ha : JE X a ga) : JE X (.UnaryOp .USub a pos) (gUn opNeg ga) := by
  refine JE.of (pe_un un_neg pe_SE) fun ρ st σ H m Q S R p => ?_
  refine ha.go S R (PostG.bind p) fun x st1 v m1 H1 p1 e1 S1 rx => ?_
  cases x with
  | int i =>
    unfold RelW at rx
    exact ⟨i, rx, p1 _ m1 H1 e1 S1 (by unfold RelW; rfl)⟩
  | _ => exact False.elim p1
def SW (X : Cx) (e : Expr) : TT := fun σ H Q => ∀ (wh : Sem Value) (pins : List (Addr × Obj)) (s : Shared), Inv X pins σ H s → wpAny (model X.prog X.w) X.A (isTrue e X.env wh) (TP X pins σ Q) X.xe s
theorem pw_SW {e : Expr} : PW X e (SW X e) := fun wh pins s _ _ _ I h => h wh pins s I
def JW (X : Cx) (e : Expr) (g : GT) : Prop := ∀ (ρ : Rho) (st : Hs) (σ : St) (H : Hp) (m : Mp) (Q : Bool → Hp → Prop), Sim X.K m st H → RelEnv X.K m H ρ σ → PostT X σ m H (g ρ st) Q → SW X e σ H Q
theorem JW.of {e : Expr} {g : GT} {t : TT} (h : PW X e t) (k : ∀ (ρ : Rho) (st : Hs) (σ : St) (H : Hp) (m : Mp) (Q : Bool → Hp → Prop), Sim X.K m st H → RelEnv X.K m H ρ σ → PostT X σ m H (g ρ st) Q → t σ H Q) : JW X e g :=
  fun ρ st σ H m Q S R p wh pins s I => h wh pins s σ H Q I (k ρ st σ H m Q S R p)
theorem JW.jt {e : Expr} {g : GT} (h : JW X e g) : JT X e g := fun ρ st σ H m Q S R p pins s I => h ρ st σ H m Q S R p _ pins s I
def gAnd (ga gb : GT) : GT := fun ρ st => (ga ρ st).bind fun b st1 => if b = true then gb ρ st1 else .ok false st1
def gOr (ga gb : GT) : GT := fun ρ st => (ga ρ st).bind fun b st1 => if b = true then .ok true st1 else gb ρ st1
def gNot (ga : GT) : GT := fun ρ st => (ga ρ st).bind fun b st1 => .ok (!b) st1
theorem jw_and1 {a : Expr} {ga : GT} {pos : Pos} (ha : JT X a ga) : JW X (.BoolOp .And [a] pos) ga := JW.of (pw_and1 pt_ST) fun ρ st σ H m Q S R p => ha ρ st σ H m Q S R p
theorem jw_or1 {a : Expr} {ga : GT} {pos : Pos} (ha : JT X a ga) : JW X (.BoolOp .Or [a] pos) ga := JW.of (pw_or1 pt_ST) fun ρ st σ H m Q S R p => ha ρ st σ H m Q S R p
theorem jw_and {a b : Expr} {rest : List Expr} {ga gb : GT} {pos : Pos} (ha : JT X a ga) (hb : JW X (.BoolOp .And (b :: rest) pos) gb) : JW X (.BoolOp .And (a :: b :: rest) pos) (gAnd ga gb) := by
  refine JW.of (pw_and pt_ST pw_SW) fun ρ st σ H m Q S R p => ?_
  refine ha.go S R (PostG.bind p) fun c st1 m1 H1 p1 e1 S1 => ?_
  cases c with
  | true => rw [if_pos rfl] at p1 ⊢; exact hb ρ st1 σ H1 m1 Q S1 (R.mono e1) (PostT.shift p1 e1)
  | false => rw [if_neg Bool.false_ne_true] at p1 ⊢; exact p1 m1 H1 e1 S1
theorem jw_or {a b : Expr} {rest : List Expr} {ga gb : GT} {pos : Pos} (ha : JT X a ga) (hb : JW X (.BoolOp .Or (b :: rest) pos) gb) : JW X (.BoolOp .Or (a :: b :: rest) pos) (gOr ga gb) := by
  refine JW.of (pw_or pt_ST pw_SW) fun ρ st σ H m Q S R p => ?_
  refine ha.go S R (PostG.bind p) fun c st1 m1 H1 p1 e1 S1 => ?_
  cases c with
  | true => rw [if_pos rfl] at p1 ⊢; exact p1 m1 H1 e1 S1
  | false => rw [if_neg Bool.false_ne_true] at p1 ⊢; exact hb ρ st1 σ H1 m1 Q S1 (R.mono e1) (PostT.shift p1 e1)
theorem jt_not {a : Expr} {ga : GT} {pos : Pos} (ha : JT X a ga) : JT X (.UnaryOp .Not a pos) (gNot ga) := by
  refine JT.of (pt_not pt_ST) fun ρ st σ H m Q S R p => ?_
  exact ha.go S R (PostG.bind p) fun c st1 m1 H1 p1 e1 S1 => p1 m1 H1 e1 S1
def gAndV (ga gb : GE) : GE := fun ρ st => (ga ρ st).bind fun w st1 => match w with
  | .bl true => gb ρ st1
  | .bl false => .ok (.bl false) st1
  | _ => .bad
def gOrV (ga gb : GE) : GE := fun ρ st => (ga ρ st).bind fun w st1 => match w with
  | .bl true => .ok (.bl true) st1
  | .bl false => gb ρ st1
  | _ => .bad
def gNotV (ga : GE) : GE := fun ρ st => (ga ρ st).bind fun w st1 => match w with
  | .bl b => .ok (.bl (!b)) st1
  | _ => .bad
theorem je_one {op} {a : Expr} {ga : GE} {pos : Pos} (ha : JE X a ga) : JE X (.BoolOp op [a] pos) ga := JE.of (pe_one pe_SE) fun ρ st σ H m Q S R p => ha ρ st σ H m Q S R p
theorem je_and {a b : Expr} {rest : List Expr} {ga gb : GE} {pos : Pos} (ha : JE X a ga) (hb : JE X (.BoolOp .And (b :: rest) pos) gb) : JE X (.BoolOp .And (a :: b :: rest) pos) (gAndV ga gb) := by
  refine JE.of (pe_and pe_SE pe_SE) fun ρ st σ H m Q S R p => ?_
  refine ha.go S R (PostG.bind p) fun x st1 v m1 H1 p1 e1 S1 rx => ?_
  cases x with
  | bl c =>
    unfold RelW at rx
    refine ⟨c, rx, ?_⟩
    cases c with
    | true => rw [if_pos rfl]; exact hb ρ st1 σ H1 m1 Q S1 (R.mono e1) (PostE.shift p1 e1)
    | false => rw [if_neg Bool.false_ne_true]; exact p1 _ m1 H1 e1 S1 (by unfold RelW; rfl)
  | _ => exact False.elim p1
theorem je_or {a b : Expr} {rest : List Expr} {ga gb : GE} {pos : Pos} (ha : JE X a ga) (hb : JE X (.BoolOp .Or (b :: rest) pos) gb) : JE X (.BoolOp .Or (a :: b :: rest) pos) (gOrV ga gb) := by
  refine JE.of (pe_or pe_SE pe_SE) fun ρ st σ H m Q S R p => ?_
  refine ha.go S R (PostG.bind p) fun x st1 v m1 H1 p1 e1 S1 rx => ?_
  cases x with
  | bl c =>
    unfold RelW at rx
    refine ⟨c, rx, ?_⟩
    cases c with
    | true => rw [if_pos rfl]; exact p1 _ m1 H1 e1 S1 (by unfold RelW; rfl)
    | false => rw [if_neg Bool.false_ne_true]; exact hb ρ st1 σ H1 m1 Q S1 (R.mono e1) (PostE.shift p1 e1)
  | _ => exact False.elim p1
theorem je_not {a : Expr} {ga : GE} {pos : Pos} (ha : JE X a ga) : JE X (.UnaryOp .Not a pos) (gNotV ga) := by
  refine JE.of (pe_not pe_SE) fun ρ st σ H m Q S R p => ?_
  refine ha.go S R (PostG.bind p) fun x st1 v m1 H1 p1 e1 S1 rx => ?_
  cases x with
  | bl c =>
    unfold RelW at rx
    exact ⟨c, rx, p1 _ m1 H1 e1 S1 (by unfold RelW; rfl)⟩
  | _ => exact False.elim p1
def gIfE (gt : GT) (ga gb : GE) : GE := fun ρ st => (gt ρ st).bind fun b st1 => if b = true then ga ρ st1 else gb ρ st1
theorem je_if {c a b : Expr} {gt : GT} {ga gb : GE} {pos : Pos} (hc : JT X c gt) (ha : JE X a ga) (hb : JE X b gb) : JE X (.IfExp c a b pos) (gIfE gt ga gb) := by
  refine JE.of (pe_ifExp pt_ST pe_SE pe_SE) fun ρ st σ H m Q S R p => ?_
  refine hc.go S R (PostG.bind p) fun k st1 m1 H1 p1 e1 S1 => ?_
  cases k with
  | true => rw [if_pos rfl] at p1 ⊢; exact ha ρ st1 σ H1 m1 Q S1 (R.mono e1) (PostE.shift p1 e1)
  | false => rw [if_neg Bool.false_ne_true] at p1 ⊢; exact hb ρ st1 σ H1 m1 Q S1 (R.mono e1) (PostE.shift p1 e1)
def gNil : GA := fun _ st => .ok [] st
def gCons (ga : GE) (gr : GA) : GA := fun ρ st => (ga ρ st).bind fun x st1 => (gr ρ st1).bind fun xs st2 => .ok (x :: xs) st2
theorem ja_nil : JA X [] gNil := JA.of pa_nil fun ρ st σ H m Q S R p => p [] m H Ext.refl S RelWs.nil
theorem ja_cons {e : Expr} {es : List Expr} {ga : GE} {gr : GA} (ha : JE X e ga) (hr : JA X es gr) (hs : starEach (e :: es) X.env = (false, eval e X.env) :: starEach es X.env := by rfl) : JA X (e :: es) (gCons ga gr) := by
  refine JA.of (pa_cons pe_SE pa_SA hs) fun ρ st σ H m Q S R p => ?_
  refine ha.go S R (PostG.bind p) fun x st1 v m1 H1 p1 e1 S1 rx => ?_
  refine hr.go S1 (R.mono e1) ((PostG.bind p1).imp e1 fun _ _ q => q) fun xs st2 vs m2 H2 p2 e2 S2 rs => ?_
  exact p2 (v :: vs) m2 H2 (e1.trans e2) S2 (RelWs.cons (RelW.mono e2 _ _ rx) rs)
def gTup (g : GA) : GE := fun ρ st => (g ρ st).bind fun ws st1 => if ws.length ≤ lim then .ok (.tup ws) st1 else .bad
def gLst (g : GA) : GE := fun ρ st => (g ρ st).bind fun ws st1 => if ws.length ≤ lim then .ok (.ref st1.length) (st1 ++ [.lst ws]) else .bad
theorem je_tup {es : List Expr} {g : GA} {x1 pos} (h : JA X es g) : JE X (.Tuple es x1 pos) (gTup g) := by
  refine JE.of (pe_tup pa_SA) fun ρ st σ H m Q S R p => ?_
  refine h.go S R (PostG.bind p) fun ws st1 vs m1 H1 p1 e1 S1 rs => ?_
  by_cases hl : ws.length ≤ lim
  · rw [if_pos hl] at p1
    refine ⟨by rw [← rs.length]; exact lim_le hl, fun q hq => ?_⟩
    have e2 : Ext X.K m1 H1 m1 (upd H1 q (.tup vs)) := Ext.upd (.inl hq)
    exact p1 (.ref q) m1 _ (e1.trans e2) (S1.fresh hq) (by unfold RelW; exact ⟨q, vs, rfl, upd_same, RelWs.mono e2 _ _ rs⟩)
  · rw [if_neg hl] at p1; exact False.elim p1
theorem Sim.newest {K : PySem.W.Frag} {m : Mp} {st : Hs} {H : Hp} (S : Sim K m st H) (q : Addr) (H' : Hp) : RelW K (m ++ [q]) H' (.ref st.length) (.ref q) := by
  unfold RelW
  refine ⟨q, rfl, ?_⟩
  rw [← S.len, List.getElem?_append_right (Nat.le_refl _), Nat.sub_self]
  rfl
theorem new_list {m m1 : Mp} {H H1 : Hp} {st1 : Hs} {ws : List Wv} {vs : List V} {Q : VK} (p1 : okE X.K m H Q (.ref st1.length) (st1 ++ [.lst ws])) (e1 : Ext X.K m H m1 H1) (S1 : Sim X.K m1 st1 H1) (rs : RelWs X.K m1 H1 ws vs) (q : Addr) (hq : H1 q = none) :
    Q (.ref q) (upd H1 q (.lst vs)) :=
  p1 (.ref q) (m1 ++ [q]) _ (e1.trans (Ext.more.trans (Ext.upd (.inl hq)))) (S1.alloc hq rs) (S1.newest q _)
theorem je_lst {es : List Expr} {g : GA} {pos} (h : JA X es g) : JE X (.List es pos) (gLst g) := by
  refine JE.of (pe_lst pa_SA) fun ρ st σ H m Q S R p => ?_
  refine h.go S R (PostG.bind p) fun ws st1 vs m1 H1 p1 e1 S1 rs => ?_
  by_cases hl : ws.length ≤ lim
  · rw [if_pos hl] at p1
    exact ⟨by rw [← rs.length]; exact lim_le hl, fun q hq => new_list p1 e1 S1 rs q hq⟩
  · rw [if_neg hl] at p1; exact False.elim p1
end
end J
namespace J
open PySem PySem.Spec PyProof.Rows L2
section
variable {X : Cx}
theorem OpR.or {f : Value → Value → Sem Value} {r r' : R2} (h : OpR X f r) (h' : OpR X f r') : OpR X f (fun x y H Q => r x y H Q ∨ r' x y H Q) := by
  intro pins s σ H x y v u Q I rx ry q
  rcases q with q | q
  · exact h pins s σ H x y v u Q I rx ry q
  · exact h' pins s σ H x y v u Q I rx ry q
theorem op_fdivG : OpR X (binaryOp .FloorDiv) (rI (fun _ j => j ≠ 0 ∧ j.natAbs.log2 < 9000) fun i j => .int (i.fdiv j)) := opI fun i j _ _ _ _ _ hc q => floordiv_int hc.1 q (.inl (PyProof.noPylong_of_log2 hc.2))
theorem op_modG : OpR X (binaryOp .Mod) (rI (fun _ j => j ≠ 0) fun i j => .int (i.fmod j)) := opI fun i j _ _ _ _ _ hc q => mod_int' hc q
theorem op_mulG : OpR X (binaryOp .Mult) (rI (fun i j => IntMulOk i j) fun i j => .int (i * j)) := opI fun _ _ _ _ _ _ _ hc q => mul_int q hc
instance mulDec {a b : Int} : Decidable (IntMulOk a b) := by unfold IntMulOk; infer_instance
def oSub : Op2
  | .int i, .int j, st => .ok (.int (i - j)) st
  | _, _, _ => .bad
def oFdiv : Op2
  | .int i, .int j, st => if j ≠ 0 ∧ j.natAbs.log2 < 9000 then .ok (.int (i.fdiv j)) st else .bad
  | _, _, _ => .bad
def oMod : Op2
  | .int i, .int j, st => if j ≠ 0 then .ok (.int (i.fmod j)) st else .bad
  | _, _, _ => .bad
def oPow : Op2
  | .int i, .int j, st => if 0 ≤ j ∧ j ≤ 1000000 ∧ i.natAbs < 2 ^ 64 then .ok (.int (i ^ j.toNat)) st else .bad
  | _, _, _ => .bad
def oLt0 : Op2
  | .int i, .int j, st => .ok (.bl (decide (i < j))) st
  | .str i, .str j, st => .ok (.bl (decide (i.cps.toList < j.cps.toList))) st
  | _, _, _ => .bad
def oLe0 : Op2
  | .int i, .int j, st => .ok (.bl (decide (i ≤ j))) st
  | _, _, _ => .bad
def oGt : Op2
  | .int i, .int j, st => .ok (.bl (decide (j < i))) st
  | _, _, _ => .bad
def oGe : Op2
  | .int i, .int j, st => .ok (.bl (decide (j ≤ i))) st
  | _, _, _ => .bad
theorem relInt {m : Mp} {H : Hp} {i : Int} {a : V} (h : RelW X.K m H (.int i) a) : a = .int i := by unfold RelW at h; exact h
theorem relBl {m : Mp} {H : Hp} {b : Bool} {a : V} (h : RelW X.K m H (.bl b) a) : a = .bl b := by unfold RelW at h; exact h
theorem relStr {m : Mp} {H : Hp} {x : PySem.Str} {a : V} (h : RelW X.K m H (.str x) a) : a = .str x ∧ PyData.strOk x = true := by unfold RelW at h; exact h
theorem mkInt {m : Mp} {H : Hp} {i : Int} : RelW X.K m H (.int i) (.int i) := by unfold RelW; rfl
theorem mkBl {m : Mp} {H : Hp} {i : Bool} : RelW X.K m H (.bl i) (.bl i) := by unfold RelW; rfl
theorem mkNon {m : Mp} {H : Hp} : RelW X.K m H .non .non := by unfold RelW; rfl
theorem mkStr {m : Mp} {H : Hp} {x : PySem.Str} (h : PyData.strOk x = true) : RelW X.K m H (.str x) (.str x) := by unfold RelW; exact ⟨rfl, h⟩
theorem ow_sub : OpW X (binaryOp .Sub) oSub := ⟨_, op_sub, fun x y a b st H m Q S rx ry p => by
  cases x with
  | int i =>
    cases y with
    | int j => exact ⟨i, j, relInt rx, relInt ry, p _ m H Ext.refl S mkInt⟩
    | _ => exact False.elim p
  | _ => cases y <;> exact False.elim p⟩
theorem ow_fdiv : OpW X (binaryOp .FloorDiv) oFdiv := ⟨_, op_fdivG, fun x y a b st H m Q S rx ry p => by
  cases x with
  | int i =>
    cases y with
    | int j =>
      dsimp only [oFdiv] at p
      by_cases c : j ≠ 0 ∧ j.natAbs.log2 < 9000
      · rw [if_pos c] at p; exact ⟨i, j, relInt rx, relInt ry, c, p _ m H Ext.refl S mkInt⟩
      · rw [if_neg c] at p; exact False.elim p
    | _ => exact False.elim p
  | _ => cases y <;> exact False.elim p⟩
theorem ow_mod : OpW X (binaryOp .Mod) oMod := ⟨_, op_modG, fun x y a b st H m Q S rx ry p => by
  cases x with
  | int i =>
    cases y with
    | int j =>
      dsimp only [oMod] at p
      by_cases c : j ≠ 0
      · rw [if_pos c] at p; exact ⟨i, j, relInt rx, relInt ry, c, p _ m H Ext.refl S mkInt⟩
      · rw [if_neg c] at p; exact False.elim p
    | _ => exact False.elim p
  | _ => cases y <;> exact False.elim p⟩
theorem ow_pow : OpW X (binaryOp .Pow) oPow := ⟨_, op_pow, fun x y a b st H m Q S rx ry p => by
  cases x with
  | int i =>
    cases y with
    | int j =>
      dsimp only [oPow] at p
      by_cases c : 0 ≤ j ∧ j ≤ 1000000 ∧ i.natAbs < 2 ^ 64
      · rw [if_pos c] at p; exact ⟨i, j, relInt rx, relInt ry, c, p _ m H Ext.refl S mkInt⟩
      · rw [if_neg c] at p; exact False.elim p
    | _ => exact False.elim p
  | _ => cases y <;> exact False.elim p⟩
theorem ow_lt : OpW X (compareOp .Lt) oLt0 := ⟨_, OpR.or op_lt op_lt_str, fun x y a b st H m Q S rx ry p => by
  cases x with
  | int i =>
    cases y with
    | int j => exact .inl ⟨i, j, relInt rx, relInt ry, p _ m H Ext.refl S mkBl⟩
    | _ => exact False.elim p
  | str i =>
    cases y with
    | str j => exact .inr ⟨i, j, (relStr rx).1, (relStr ry).1, p _ m H Ext.refl S mkBl⟩
    | _ => exact False.elim p
  | _ => cases y <;> exact False.elim p⟩
theorem ow_le : OpW X (compareOp .LtE) oLe0 := ⟨_, op_le, fun x y a b st H m Q S rx ry p => by
  cases x with
  | int i =>
    cases y with
    | int j => exact ⟨i, j, relInt rx, relInt ry, p _ m H Ext.refl S mkBl⟩
    | _ => exact False.elim p
  | _ => cases y <;> exact False.elim p⟩
theorem ow_gt : OpW X (compareOp .Gt) oGt := ⟨_, op_gt, fun x y a b st H m Q S rx ry p => by
  cases x with
  | int i =>
    cases y with
    | int j => exact ⟨i, j, relInt rx, relInt ry, p _ m H Ext.refl S mkBl⟩
    | _ => exact False.elim p
  | _ => cases y <;> exact False.elim p⟩
theorem ow_ge : OpW X (compareOp .GtE) oGe := ⟨_, op_ge, fun x y a b st H m Q S rx ry p => by
  cases x with
  | int i =>
    cases y with
    | int j => exact ⟨i, j, relInt rx, relInt ry, p _ m H Ext.refl S mkBl⟩
    | _ => exact False.elim p
  | _ => cases y <;> exact False.elim p⟩
def oIs : Op2
  | x, .non, st => .ok (.bl (match x with | .non => true | _ => false)) st
  | _, _, _ => .bad
def oIsNot : Op2
  | x, .non, st => .ok (.bl (match x with | .non => false | _ => true)) st
  | _, _, _ => .bad
theorem isNon {m : Mp} {H : Hp} {x : Wv} {a : V} (h : RelW X.K m H x a) : decide (a = V.non) = (match x with | .non => true | _ => false) := by
  cases x with
  | non => unfold RelW at h; subst h; rfl
  | bl b => unfold RelW at h; subst h; rfl
  | int b => unfold RelW at h; subst h; rfl
  | str b => unfold RelW at h; obtain ⟨h, _⟩ := h; subst h; rfl
  | tup b => unfold RelW at h; obtain ⟨q, xs, h, _⟩ := h; subst h; rfl
  | ktp b => unfold RelW at h; obtain ⟨q, xs, h, _⟩ := h; subst h; rfl
  | ref b => unfold RelW at h; obtain ⟨q, h, _⟩ := h; subst h; rfl
  | ty b => unfold RelW at h; subst h; rfl
  | cls b => unfold RelW at h; obtain ⟨q, h, _⟩ := h; subst h; rfl
  | exn b => unfold RelW at h; obtain ⟨q, C, h, _⟩ := h; subst h; rfl
  | fn fp b => unfold RelW at h; obtain ⟨h, _⟩ := h; subst h; rfl
theorem ow_is : OpW X (compareOp .Is) oIs := ⟨_, op_isN, fun x y a b st H m Q S rx ry p => by
  cases y with
  | non =>
    refine ⟨by unfold RelW at ry; exact ry, ?_⟩
    rw [isNon rx]
    cases x <;> exact p _ m H Ext.refl S mkBl
  | _ => cases x <;> exact False.elim p⟩
theorem ow_isnot : OpW X (compareOp .IsNot) oIsNot := ⟨_, op_notN, fun x y a b st H m Q S rx ry p => by
  cases y with
  | non =>
    refine ⟨by unfold RelW at ry; exact ry, ?_⟩
    rw [isNon rx]
    cases x <;> exact p _ m H Ext.refl S mkBl
  | _ => cases x <;> exact False.elim p⟩
theorem strOk_append {a b : PySem.Str} (ha : PyData.strOk a = true) (hb : PyData.strOk b = true) : PyData.strOk (a ++ b) = true := by
  unfold PyData.strOk at *
  show ((a.cps ++ b.cps).all _) = true
  rw [Array.all_append, ha, hb]
  rfl
def rCatL (K : PySem.W.Frag) : R2 := fun x y H Q => ∃ l b xs zs, x = .ref l ∧ y = .ref b ∧ SqL K H l xs ∧ SqL K H b zs ∧ xs.length + zs.length ≤ sizeLine ∧ ∀ p, H p = none → Q (.ref p) (upd H p (.lst (xs ++ zs)))
theorem op_catL : OpR X (binaryOp .Add) (rCatL X.K) := by
  intro pins s σ H x y v u Q I rx ry h
  obtain ⟨l, b, xs, zs, rfl, rfl, hH, hB, hz, q⟩ := h
  cases rx
  cases ry
  obtain ⟨its, r, pl, hs⟩ := I.list hH
  obtain ⟨its2, r2, pl2, hs2⟩ := I.list hB
  have hl := r.length
  have hl2 := r2.length
  obtain ⟨⟨cls, dd, data, sl⟩, ho, hc, n, hd⟩ := id pl.isList
  obtain ⟨⟨cls2, dd2, data2, sl2⟩, ho2, hc2, n2, hd2⟩ := id pl2.isList
  simp only at hc hd hc2 hd2
  subst hc hd hc2 hd2
  have e : its.toArray ++ its2.toArray = (its ++ its2).toArray := by simp
  refine PySem.concat_meets ⟨_, ho, rfl⟩ ⟨_, ho2, rfl⟩ PySem.noFill_list_add PySem.seq_list_add PySem.F.slot_list_add PySem.F.entry_list_add (PySem.F.args_list_add_2 _ _) (list_addW l b its.toArray its2.toArray n n2 dd dd2 sl sl2 (by simp; omega)) ⟨ho, ho2, ?_⟩
  rw [e]
  exact ⟨.ref _, _, I.lnew (t' := s.toks) (r.append r2) (by rw [List.length_append]; omega), rfl, q _ I.fresh⟩
def rCatE (K : PySem.W.Frag) : R2 := fun x y H Q => ∃ a b ys, x = .ref a ∧ y = .ref b ∧ SqT K H a [] ∧ SqT K H b ys ∧ Q (.ref b) H
theorem op_catE : OpR X (binaryOp .Add) (rCatE X.K) := by
  intro pins s σ H x y v u Q I rx ry h
  obtain ⟨a, b, ys, rfl, rfl, ha, hb, q⟩ := h
  cases rx
  cases ry
  obtain ⟨its, r1, p1, _⟩ := I.tuple ha
  obtain ⟨its2, r2, p2, _⟩ := I.tuple hb
  cases r1
  obtain ⟨⟨c1, d1, t1, l1⟩, g1, k1, n1, j1⟩ := id p1
  obtain ⟨⟨c2, d2, t2, l2⟩, g2, k2, n2, j2⟩ := id p2
  simp only at k1 j1 k2 j2
  subst k1 j1 k2 j2
  exact PySem.concat_meets ⟨_, g1, rfl⟩ ⟨_, g2, rfl⟩ PySem.noFill_tuple_add PySem.seq_tuple_add PySem.F.slot_tuple_add PySem.F.entry_tuple_add (PySem.F.args_tuple_add_2 _ _) (tuple_addW0 a b #[] its2.toArray n1 n2 d1 d2 l1 l2 (by simp)) ⟨g1, g2, ⟨.ref b, H, I, rfl, q⟩⟩
def oAdd : Op2
  | .int i, .int j, st => .ok (.int (i + j)) st
  | .str i, .str j, st => if i.length + j.length ≤ lim then .ok (.str (i ++ j)) st else .bad
  | .tup i, .tup j, st => if i.length + j.length ≤ lim then .ok (.tup (i ++ j)) st else .bad
  | .ref l, .ref k, st => match lstOf st l, lstOf st k with
    | some i, some j => if i.length + j.length ≤ lim then .ok (.ref st.length) (st ++ [.lst (i ++ j)]) else .bad
    | _, _ => .bad
  | _, _, _ => .bad
instance {α : Type} {xs : List α} : Decidable (xs ≠ []) := match xs with
  | [] => isFalse (fun h => h rfl)
  | _ :: _ => isTrue (fun h => by cases h)
theorem ow_add : OpW X (binaryOp .Add) oAdd := ⟨_, OpR.or op_add (OpR.or op_add_str (OpR.or op_catT (OpR.or op_catL op_catE))), fun x y a b st H m Q S rx ry p => by
  cases x with
  | int i =>
    cases y with
    | int j => exact .inl ⟨i, j, relInt rx, relInt ry, p _ m H Ext.refl S mkInt⟩
    | _ => exact False.elim p
  | str i =>
    cases y with
    | str j =>
      dsimp only [oAdd] at p
      by_cases c : i.length + j.length ≤ lim
      · rw [if_pos c] at p
        exact .inr (.inl ⟨i, j, (relStr rx).1, (relStr ry).1, lim_le c, p _ m H Ext.refl S (mkStr (strOk_append (relStr rx).2 (relStr ry).2))⟩)
      · rw [if_neg c] at p; exact False.elim p
    | _ => exact False.elim p
  | tup i =>
    cases y with
    | tup j =>
      dsimp only [oAdd] at p
      by_cases c : i.length + j.length ≤ lim
      · rw [if_pos c] at p
        by_cases c0 : i = []
        · subst c0
          unfold RelW at rx ry
          obtain ⟨a1, xs, rfl, h1, h2⟩ := rx
          obtain ⟨a2, ys, rfl, h3, h4⟩ := ry
          have l1 : xs = [] := List.eq_nil_of_length_eq_zero h2.length.symm
          subst l1
          exact .inr (.inr (.inr (.inr ⟨a1, a2, ys, rfl, rfl, SqT.of h1, SqT.of h3, p (.ref a2) m H Ext.refl S (by rw [List.nil_append]; unfold RelW; exact ⟨a2, ys, rfl, h3, h4⟩)⟩)))
        unfold RelW at rx ry
        obtain ⟨a1, xs, rfl, h1, h2⟩ := rx
        obtain ⟨a2, ys, rfl, h3, h4⟩ := ry
        have l1 := h2.length
        have l2 := h4.length
        have n1 : xs ≠ [] := fun z => by rw [z] at l1; exact c0 (List.eq_nil_of_length_eq_zero l1)
        refine .inr (.inr (.inl ⟨a1, a2, xs, ys, rfl, rfl, SqT.of h1, SqT.of h3, n1, by rw [← l1, ← l2]; exact lim_le c, fun z => ?_, fun _ q hq => ?_⟩))
        · rw [z] at l2
          rw [List.eq_nil_of_length_eq_zero l2, List.append_nil] at p
          exact p (.ref a1) m H Ext.refl S (by unfold RelW; exact ⟨a1, xs, rfl, h1, h2⟩)
        have e2 : Ext X.K m H m (upd H q (.tup (xs ++ ys))) := Ext.upd (.inl hq)
        exact p (.ref q) m _ e2 (S.fresh hq) (by unfold RelW; exact ⟨q, xs ++ ys, rfl, upd_same, RelWs.mono e2 _ _ (h2.append h4)⟩)
      · rw [if_neg c] at p; exact False.elim p
    | _ => exact False.elim p
  | ref l =>
    cases y with
    | ref k =>
      dsimp only [oAdd] at p
      unfold RelW at rx ry
      obtain ⟨a1, rfl, h1⟩ := rx
      obtain ⟨a2, rfl, h2⟩ := ry
      cases e1 : lstOf st l with
      | none => rw [e1] at p; exact False.elim p
      | some i =>
        cases e2 : lstOf st k with
        | none => rw [e1, e2] at p; exact False.elim p
        | some j =>
          rw [e1, e2] at p
          by_cases c : i.length + j.length ≤ lim
          · simp only [if_pos c] at p
            obtain ⟨xs, q1, q2⟩ := S.read h1 e1
            obtain ⟨ys, q3, q4⟩ := S.read h2 e2
            exact .inr (.inr (.inr (.inl ⟨a1, a2, xs, ys, rfl, rfl, q1, q3, by rw [← q2.length, ← q4.length]; exact lim_le c, fun q hq => new_list p Ext.refl S (q2.append q4) q hq⟩)))
          · simp only [if_neg c] at p; exact False.elim p
    | _ => exact False.elim p
  | _ => cases y <;> exact False.elim p⟩
def repS (n : Nat) (x : PySem.Str) : PySem.Str := ⟨(List.replicate n x.cps).foldl (· ++ ·) #[]⟩
end
end J
namespace J
open PySem PySem.Spec PySem.SeqAt PyProof.Rows L2
def mapO {α β : Type} (f : α → Option β) : List α → Option (List β)
  | [] => some []
  | w :: ws => match f w, mapO f ws with
    | some d, some ds => some (d :: ds)
    | _, _ => none
def datum (st : Hs) : Nat → Wv → Option PyData
  | 0, w => match w with
    | .non => some .none
    | .bl b => some (.bool b)
    | .int i => some (.int i)
    | .str x => some (.str x)
    | _ => none
  | n + 1, w => match w with
    | .non => some .none
    | .bl b => some (.bool b)
    | .int i => some (.int i)
    | .str x => some (.str x)
    | .tup ws => (mapO (datum st n) ws).map .tuple
    | .ktp ws => (mapO (datum st n) ws).map .tuple
    | .ref l => match lstOf st l with
      | some ws => (mapO (datum st n) ws).map .list
      | none => none
    | .ty _ => none
    | .cls _ => none
    | .exn _ => none
    | .fn _ _ => none
section
variable {X : Cx} {pins : List (Addr × Obj)} {σ : St} {H : Hp} {s : Shared} {m : Mp} {st : Hs}
def DatOk (h : Heap) (n : Nat) (u : Value) (d : PyData) : Prop := ∃ as, Reads h u d as ∧ d.canLay0 = true ∧ d.depth ≤ n
theorem datums_ok {n : Nat} (ih : ∀ (w : Wv) (a : V) (u : Value) (d : PyData), RelW X.K m H w a → RelV a u → datum st n w = some d → DatOk s.heap n u d) :
    ∀ (ws : List Wv) (xs : List V) (us : List Value) (ds : List PyData), RelWs X.K m H ws xs → Vals xs us → mapO (datum st n) ws = some ds → ∃ as, ReadsAll s.heap us ds as ∧ PyData.canLayAll0 ds = true ∧ PyData.depthAll ds ≤ n
  | [], xs, us, ds, h, r, e => by
    unfold RelWs at h
    subst h
    cases r
    cases e
    exact ⟨[], .nil, rfl, Nat.zero_le _⟩
  | w :: ws, xs, us, ds, h, r, e => by
    unfold RelWs at h
    obtain ⟨x, xr, rfl, h1, h2⟩ := h
    cases r with
    | cons r1 r2 =>
      unfold mapO at e
      cases e1 : datum st n w with
      | none => rw [e1] at e; cases e
      | some d =>
        cases e2 : mapO (datum st n) ws with
        | none => rw [e1, e2] at e; cases e
        | some dr =>
          rw [e1, e2] at e
          cases e
          obtain ⟨as, q1, q2, q3⟩ := ih w x _ d h1 r1 e1
          obtain ⟨bs, p1, p2, p3⟩ := datums_ok ih ws xr _ dr h2 r2 e2
          refine ⟨as ++ bs, .cons q1 p1, ?_, ?_⟩
          · show (PyData.canLay0 d && PyData.canLayAll0 dr) = true
            rw [q2, p2]; rfl
          · show max d.depth (PyData.depthAll dr) ≤ n
            omega
theorem datum_ok (I : Inv X pins σ H s) (S : Sim X.K m st H) : ∀ (n : Nat) (w : Wv) (a : V) (u : Value) (d : PyData), RelW X.K m H w a → RelV a u → datum st n w = some d → DatOk s.heap n u d := by
  intro n
  induction n with
  | zero =>
    intro w a u d h r e
    cases w with
    | non => unfold RelW at h; subst h; cases r; cases e; exact ⟨[], .none, rfl, Nat.le_refl _⟩
    | bl b => unfold RelW at h; subst h; cases r; cases e; exact ⟨[], .bool b, rfl, Nat.le_refl _⟩
    | int i => unfold RelW at h; subst h; obtain ⟨t, rfl⟩ := r; cases e; exact ⟨[], .int i t, rfl, Nat.le_refl _⟩
    | str x => unfold RelW at h; obtain ⟨rfl, hx⟩ := h; obtain ⟨t, rfl⟩ := r; cases e; exact ⟨[], .str x t, hx, Nat.le_refl _⟩
    | tup ws => cases e
    | ktp ws => cases e
    | ref l => cases e
    | ty t => cases e
    | cls t => cases e
    | exn t => cases e
    | fn fp t => cases e
  | succ n ih =>
    intro w a u d h r e
    cases w with
    | non => unfold RelW at h; subst h; cases r; cases e; exact ⟨[], .none, rfl, Nat.zero_le _⟩
    | bl b => unfold RelW at h; subst h; cases r; cases e; exact ⟨[], .bool b, rfl, Nat.zero_le _⟩
    | int i => unfold RelW at h; subst h; obtain ⟨t, rfl⟩ := r; cases e; exact ⟨[], .int i t, rfl, Nat.zero_le _⟩
    | str x => unfold RelW at h; obtain ⟨rfl, hx⟩ := h; obtain ⟨t, rfl⟩ := r; cases e; exact ⟨[], .str x t, hx, Nat.zero_le _⟩
    | ty t => cases e
    | cls t => cases e
    | exn t => cases e
    | fn fp t => cases e
    | tup ws =>
      unfold RelW at h
      obtain ⟨p, xs, rfl, h1, h2⟩ := h
      cases r
      have e' : (mapO (datum st n) ws).map PyData.tuple = some d := e
      cases e2 : mapO (datum st n) ws with
      | none => rw [e2] at e'; cases e'
      | some ds =>
        rw [e2] at e'
        cases e'
        obtain ⟨its, rv, ht, hz⟩ := I.tuple (SqT.of h1)
        obtain ⟨as, q1, q2, q3⟩ := datums_ok ih ws xs its ds h2 rv e2
        obtain ⟨o, ho, hc, k, hd⟩ := ht
        exact ⟨as, .tuple ho hc hd (by simpa using q1), q2, Nat.succ_le_succ q3⟩
    | ktp ws =>
      unfold RelW at h
      obtain ⟨p, xs, rfl, h1, h2⟩ := h
      cases r
      have e' : (mapO (datum st n) ws).map PyData.tuple = some d := e
      cases e2 : mapO (datum st n) ws with
      | none => rw [e2] at e'; cases e'
      | some ds =>
        rw [e2] at e'
        cases e'
        obtain ⟨its, rv, ht, hz⟩ := I.tuple (.inr h1)
        obtain ⟨as, q1, q2, q3⟩ := datums_ok ih ws xs its ds h2 rv e2
        obtain ⟨o, ho, hc, k, hd⟩ := ht
        exact ⟨as, .tuple ho hc hd (by simpa using q1), q2, Nat.succ_le_succ q3⟩
    | ref l =>
      unfold RelW at h
      obtain ⟨p, rfl, h1⟩ := h
      cases r
      have e' : (match lstOf st l with | some ws => (mapO (datum st n) ws).map PyData.list | none => none) = some d := e
      cases e1 : lstOf st l with
      | none => rw [e1] at e'; cases e'
      | some ws =>
        rw [e1] at e'
        have e'' : (mapO (datum st n) ws).map PyData.list = some d := e'
        cases e2 : mapO (datum st n) ws with
        | none => rw [e2] at e''; cases e''
        | some ds =>
          rw [e2] at e''
          cases e''
          obtain ⟨xs, hq, h2⟩ := S.read h1 e1
          obtain ⟨its, rv, ht, hz⟩ := I.list hq
          obtain ⟨as, q1, q2, q3⟩ := datums_ok ih ws xs its ds h2 rv e2
          obtain ⟨o, ho, hc, k, hd⟩ := ht.isList
          exact ⟨_, .list ho hc hd (by simpa using q1), q2, Nat.succ_le_succ q3⟩
end
def oEq : Op2 := fun x y st => match datum st 20 x, datum st 20 y with
  | some a, some b => .ok (.bl (PyData.eqv a b)) st
  | _, _ => .bad
def oNe : Op2 := fun x y st => match datum st 20 x, datum st 20 y with
  | some a, some b => .ok (.bl (!PyData.eqv a b)) st
  | _, _ => .bad
section
variable {X : Cx}
def rDat (K : PySem.W.Frag) (neg : Bool) : R2 := fun a b H Q => ∃ m st x y da db, Sim K m st H ∧ RelW K m H x a ∧ RelW K m H y b ∧ datum st 20 x = some da ∧ datum st 20 y = some db ∧ Q (.bl (if neg then !PyData.eqv da db else PyData.eqv da db)) H
theorem shaped_of {n : Nat} {d : PyData} (hn : n ≤ 64) (h : d.canLay0 = true) (k : d.depth ≤ n) : shaped d = true := by
  unfold shaped
  rw [h, decide_eq_true (Nat.le_trans k hn)]
  rfl
theorem op_eqD (hu : X.A.units + 64 < cLine) : OpR X (compareOp .Eq) (rDat X.K false) := by
  intro pins s σ H a b v u Q I rx ry h
  obtain ⟨m, st, x, y, da, db, S, h1, h2, e1, e2, q⟩ := h
  obtain ⟨as, q1, q2, q3⟩ := datum_ok I S 20 x a v da h1 rx e1
  obtain ⟨bs, p1, p2, p3⟩ := datum_ok I S 20 y b u db h2 ry e2
  exact eq_dataH q1 p1 (shaped_of (by decide) q2 q3) (shaped_of (by decide) p2 p3) hu ⟨.bl _, H, I, rfl, q⟩
theorem op_neD (hu : X.A.units + 64 < cLine) : OpR X (compareOp .NotEq) (rDat X.K true) := by
  intro pins s σ H a b v u Q I rx ry h
  obtain ⟨m, st, x, y, da, db, S, h1, h2, e1, e2, q⟩ := h
  obtain ⟨as, q1, q2, q3⟩ := datum_ok I S 20 x a v da h1 rx e1
  obtain ⟨bs, p1, p2, p3⟩ := datum_ok I S 20 y b u db h2 ry e2
  exact ne_dataH q1 p1 (shaped_of (by decide) q2 q3) (shaped_of (by decide) p2 p3) hu ⟨.bl _, H, I, rfl, q⟩
theorem ow_eq (hu : X.A.units + 64 < cLine) : OpW X (compareOp .Eq) oEq := ⟨_, op_eqD hu, fun x y a b st H m Q S rx ry p => by
  unfold oEq at p
  cases e1 : datum st 20 x with
  | none => rw [e1] at p; exact False.elim p
  | some da =>
    cases e2 : datum st 20 y with
    | none => rw [e1, e2] at p; exact False.elim p
    | some db =>
      rw [e1, e2] at p
      exact ⟨m, st, x, y, da, db, S, rx, ry, e1, e2, p _ m H Ext.refl S mkBl⟩⟩
theorem ow_ne (hu : X.A.units + 64 < cLine) : OpW X (compareOp .NotEq) oNe := ⟨_, op_neD hu, fun x y a b st H m Q S rx ry p => by
  unfold oNe at p
  cases e1 : datum st 20 x with
  | none => rw [e1] at p; exact False.elim p
  | some da =>
    cases e2 : datum st 20 y with
    | none => rw [e1, e2] at p; exact False.elim p
    | some db =>
      rw [e1, e2] at p
      exact ⟨m, st, x, y, da, db, S, rx, ry, e1, e2, p _ m H Ext.refl S mkBl⟩⟩
def flatW : Wv → Bool
  | .non => true
  | .bl _ => true
  | .int _ => true
  | .str _ => true
  | _ => false
def eqF : Wv → Wv → Bool
  | .non, .non => true
  | .bl a, .bl b => a == b
  | .bl a, .int b => (if a then 1 else 0) == b
  | .int a, .bl b => a == (if b then 1 else 0)
  | .int a, .int b => a == b
  | .str a, .str b => a == b
  | _, _ => false
def seqOf (st : Hs) : Wv → Option (List Wv)
  | .tup ws => some ws
  | .ktp ws => some ws
  | .ref l => lstOf st l
  | _ => none
def oIn : Op2 := fun x y st => match seqOf st y with
  | some ws => if flatW x = true ∧ ws.all flatW = true then .ok (.bl (ws.any fun z => eqF z x)) st else .bad
  | none => .bad
def oNotIn : Op2 := fun x y st => match seqOf st y with
  | some ws => if flatW x = true ∧ ws.all flatW = true then .ok (.bl (!(ws.any fun z => eqF z x))) st else .bad
  | none => .bad
theorem flat_rel {m : Mp} {H : Hp} {x : Wv} {a : V} (h : RelW X.K m H x a) (f : flatW x = true) : flatV a = true := by
  cases x with
  | non => unfold RelW at h; subst h; rfl
  | bl b => unfold RelW at h; subst h; rfl
  | int b => unfold RelW at h; subst h; rfl
  | str b => unfold RelW at h; obtain ⟨h, _⟩ := h; subst h; rfl
  | _ => cases f
theorem eqF_rel {m : Mp} {H : Hp} {x y : Wv} {a b : V} (h : RelW X.K m H x a) (k : RelW X.K m H y b) (f : flatW x = true) (g : flatW y = true) : eqV a b = eqF x y := by
  cases x with
  | non =>
    unfold RelW at h; subst h
    cases y with
    | str j => unfold RelW at k; obtain ⟨k, _⟩ := k; subst k; rfl
    | tup j => cases g
    | ktp j => cases g
    | ref j => cases g
    | ty j => cases g
    | cls j => cases g
    | exn j => cases g
    | fn fp j => cases g
    | _ => unfold RelW at k; subst k; rfl
  | bl i =>
    unfold RelW at h; subst h
    cases y with
    | str j => unfold RelW at k; obtain ⟨k, _⟩ := k; subst k; rfl
    | tup j => cases g
    | ktp j => cases g
    | ref j => cases g
    | ty j => cases g
    | cls j => cases g
    | exn j => cases g
    | fn fp j => cases g
    | _ => unfold RelW at k; subst k; rfl
  | int i =>
    unfold RelW at h; subst h
    cases y with
    | str j => unfold RelW at k; obtain ⟨k, _⟩ := k; subst k; rfl
    | tup j => cases g
    | ktp j => cases g
    | ref j => cases g
    | ty j => cases g
    | cls j => cases g
    | exn j => cases g
    | fn fp j => cases g
    | _ => unfold RelW at k; subst k; rfl
  | str i =>
    unfold RelW at h; obtain ⟨h, _⟩ := h; subst h
    cases y with
    | str j => unfold RelW at k; obtain ⟨k, _⟩ := k; subst k; rfl
    | tup j => cases g
    | ktp j => cases g
    | ref j => cases g
    | ty j => cases g
    | cls j => cases g
    | exn j => cases g
    | fn fp j => cases g
    | _ => unfold RelW at k; subst k; rfl
  | _ => cases f
theorem flats_rel {m : Mp} {H : Hp} {x : Wv} {a : V} (h : RelW X.K m H x a) (f : flatW x = true) : ∀ {ws : List Wv} {xs : List V}, RelWs X.K m H ws xs → ws.all flatW = true → xs.all flatV = true ∧ inV a xs = ws.any fun z => eqF z x
  | [], xs, r, _ => by unfold RelWs at r; subst r; exact ⟨rfl, rfl⟩
  | w :: ws, xs, r, g => by
    unfold RelWs at r
    obtain ⟨y, yr, rfl, r1, r2⟩ := r
    rw [List.all_cons, Bool.and_eq_true] at g
    obtain ⟨q1, q2⟩ := flats_rel h f r2 g.2
    constructor
    · rw [List.all_cons, flat_rel r1 g.1, q1]; rfl
    · unfold inV at q2 ⊢
      rw [List.any_cons, List.any_cons, eqF_rel r1 h g.1 f, q2]
theorem seq_rel {m : Mp} {H : Hp} {st : Hs} {y : Wv} {b : V} {ws : List Wv} (S : Sim X.K m st H) (h : RelW X.K m H y b) (e : seqOf st y = some ws) : ∃ p xs, b = .ref p ∧ (SqL X.K H p xs ∨ SqT X.K H p xs) ∧ RelWs X.K m H ws xs := by
  cases y with
  | tup zs =>
    cases e
    unfold RelW at h
    obtain ⟨p, xs, e1, e2, e3⟩ := h
    exact ⟨p, xs, e1, .inr (SqT.of e2), e3⟩
  | ktp zs =>
    cases e
    unfold RelW at h
    obtain ⟨p, xs, e1, e2, e3⟩ := h
    exact ⟨p, xs, e1, .inr (.inr e2), e3⟩
  | ref l =>
    unfold RelW at h
    obtain ⟨p, e1, e2⟩ := h
    obtain ⟨xs, q1, q2⟩ := S.read e2 e
    exact ⟨p, xs, e1, .inl q1, q2⟩
  | _ => cases e
theorem ow_in : OpW X (compareOp .In) oIn := ⟨_, op_in_seq, fun x y a b st H m Q S rx ry p => by
  unfold oIn at p
  cases e : seqOf st y with
  | none => rw [e] at p; exact False.elim p
  | some ws =>
    rw [e] at p
    by_cases c : flatW x = true ∧ ws.all flatW = true
    · simp only [if_pos c] at p
      obtain ⟨q, xs, e1, e2, e3⟩ := seq_rel S ry e
      obtain ⟨f1, f2⟩ := flats_rel rx c.1 e3 c.2
      refine ⟨q, xs, e1, e2, flat_rel rx c.1, f1, ?_⟩
      rw [f2]
      exact p _ m H Ext.refl S mkBl
    · simp only [if_neg c] at p; exact False.elim p⟩
theorem ow_notIn : OpW X (compareOp .NotIn) oNotIn := ⟨_, op_notIn_seq, fun x y a b st H m Q S rx ry p => by
  unfold oNotIn at p
  cases e : seqOf st y with
  | none => rw [e] at p; exact False.elim p
  | some ws =>
    rw [e] at p
    by_cases c : flatW x = true ∧ ws.all flatW = true
    · simp only [if_pos c] at p
      obtain ⟨q, xs, e1, e2, e3⟩ := seq_rel S ry e
      obtain ⟨f1, f2⟩ := flats_rel rx c.1 e3 c.2
      refine ⟨q, xs, e1, e2, flat_rel rx c.1, f1, ?_⟩
      rw [f2]
      exact p _ m H Ext.refl S mkBl
    · simp only [if_neg c] at p; exact False.elim p⟩
def oIx : Op2
  | .str z, .int i, st => if z.length ≤ lim then (match atI z.cps.toList i with | some c => .ok (.str ⟨#[c]⟩) st | none => .bad) else .bad
  | x, .int i, st => match seqOf st x with
    | some ws => (match atI ws i with | some w => .ok w st | none => .bad)
    | none => .bad
  | _, _, _ => .bad
theorem atI_rel {m : Mp} {H : Hp} {ws : List Wv} {xs : List V} {i : Int} {w : Wv} (r : RelWs X.K m H ws xs) (h : atI ws i = some w) : ∃ x, atI xs i = some x ∧ RelW X.K m H w x := by
  unfold atI at h ⊢
  rw [← r.length]
  cases e : ixN ws.length i with
  | none => rw [e] at h; cases h
  | some j => rw [e] at h; exact r.get h
theorem atI_mem {α : Type} {xs : List α} {i : Int} {v : α} (h : atI xs i = some v) : v ∈ xs := by
  obtain ⟨j, _, h2, _⟩ := atI_get h
  exact List.mem_of_getElem? h2
theorem strOk_one {z : PySem.Str} {c : Nat} (h : PyData.strOk z = true) (hc : c ∈ z.cps.toList) : PyData.strOk ⟨#[c]⟩ = true := by
  unfold PyData.strOk at h ⊢
  rw [Array.all_eq_true_iff_forall_mem] at h
  have q := h c (by simpa using hc)
  simpa using q
theorem je_ix {a b : Expr} {ga gb : GE} {pos : Pos} (ha : JE X a ga) (hb : JE X b gb) (hs : PlainIx b := by exact fun _ _ => rfl) : JE X (.Subscript a b pos) (gBin oIx ga gb) :=
  JE.of (pe_ix ix_seq pe_SE pe_SE hs) fun ρ st σ H m Q S R p => read2 (op := oIx) (fun x y a b st H m Q S rx ry p => by
    have seqs : ∀ (i : Int), y = .int i → (match seqOf st x with | some ws => (match atI ws i with | some w => Re.ok w st | none => .bad) | none => .bad) = oIx x y st → rIx X.K a b H Q := fun i hy hp => by
      subst hy
      rw [← hp] at p
      cases e : seqOf st x with
      | none => rw [e] at p; exact False.elim p
      | some ws =>
        rw [e] at p
        dsimp only at p
        cases e1 : atI ws i with
        | none => rw [e1] at p; exact False.elim p
        | some w =>
          rw [e1] at p
          obtain ⟨q, xs, e2, e3, e4⟩ := seq_rel S rx e
          obtain ⟨v, f1, f2⟩ := atI_rel e4 e1
          rcases e3 with e3 | e3
          · exact .inl ⟨q, xs, i, v, e2, relInt ry, e3, f1, p v m H Ext.refl S f2⟩
          · exact .inr (.inl ⟨q, xs, i, v, e2, relInt ry, e3, f1, p v m H Ext.refl S f2⟩)
    cases y with
    | int i =>
      cases x with
      | str z =>
        dsimp only [oIx] at p
        by_cases c : z.length ≤ lim
        · simp only [if_pos c] at p
          cases e1 : atI z.cps.toList i with
          | none => rw [e1] at p; exact False.elim p
          | some ch =>
            rw [e1] at p
            exact .inr (.inr ⟨z, i, ch, (relStr rx).1, relInt ry, lim_le c, e1, p _ m H Ext.refl S (mkStr (strOk_one (relStr rx).2 (atI_mem e1)))⟩)
        · simp only [if_neg c] at p; exact False.elim p
      | _ => exact seqs i rfl rfl
    | _ => cases x <;> exact False.elim p) ha hb S R p
abbrev GO := Rho → Hs → Re (Option Int)
def SO (X : Cx) (e : Option Expr) : TO := fun σ H Q => ∀ (pins : List (Addr × Obj)) (s : Shared), Inv X pins σ H s → wpAny (model X.prog X.w) X.A (evalPart e X.env) (fun u s' => ∃ o H', Inv X pins σ H' s' ∧ IsPart u o ∧ Q o H') X.xe s
theorem po_SO {e : Option Expr} : PO X e (SO X e) := fun pins s _ _ _ I h => h pins s I
def okO (K : PySem.W.Frag) (m : Mp) (H : Hp) (Q : Option Int → Hp → Prop) (o : Option Int) (st : Hs) : Prop := ∀ (m' : Mp) (H' : Hp), Ext K m H m' H' → Sim K m' st H' → Q o H'
def JO (X : Cx) (e : Option Expr) (g : GO) : Prop := ∀ (ρ : Rho) (st : Hs) (σ : St) (H : Hp) (m : Mp) (Q : Option Int → Hp → Prop), Sim X.K m st H → RelEnv X.K m H ρ σ → PostG X σ m H (g ρ st) (okO X.K m H Q) → SO X e σ H Q
def gNoPart : GO := fun _ st => .ok none st
def gPart (g : GE) : GO := fun ρ st => (g ρ st).bind fun w st1 => match w with
  | .int i => .ok (some i) st1
  | _ => .bad
theorem jo_none : JO X none gNoPart := fun ρ st σ H m Q S R p pins s I => po_none pins s σ H Q I (p m H Ext.refl S)
theorem jo_some {e : Expr} {g : GE} (h : JE X e g) : JO X (some e) (gPart g) := fun ρ st σ H m Q S R p pins s I =>
  po_some pe_SE pins s σ H Q I (h.go S R (PostG.bind p) fun w st1 v m1 H1 p1 e1 S1 r1 => by
    cases w with
    | int i => exact ⟨i, relInt r1, p1 m1 H1 e1 S1⟩
    | _ => exact False.elim p1)
theorem JO.go {e : Option Expr} {g : GO} {ρ : Rho} {st : Hs} {σ : St} {H : Hp} {m : Mp} {T : Option Int → Hp → Prop} {ok : Option Int → Hs → Prop} (h : JO X e g) (S : Sim X.K m st H) (R : RelEnv X.K m H ρ σ) (p : PostG X σ m H (g ρ st) ok)
    (k : ∀ (b : Option Int) (st1 : Hs) (m1 : Mp) (H1 : Hp), ok b st1 → Ext X.K m H m1 H1 → Sim X.K m1 st1 H1 → T b H1) : SO X e σ H T :=
  h ρ st σ H m T S R (p.imp Ext.refl fun b st1 q m1 H1 e1 s1 => k b st1 m1 H1 q e1 s1)
def cutW (xs : List Wv) (lo hi : Option Int) : List Wv := (xs.drop (HT.sIx xs.length 0 lo)).take (HT.sIx xs.length xs.length hi - HT.sIx xs.length 0 lo)
def oSl (x : Wv) (lo hi : Option Int) (st : Hs) : Re Wv := match x with
  | .tup ws => if HT.sIx ws.length 0 lo = 0 ∧ HT.sIx ws.length ws.length hi = ws.length then .bad else .ok (.tup (cutW ws lo hi)) st
  | .ref l => match lstOf st l with
    | some ws => .ok (.ref st.length) (st ++ [.lst (cutW ws lo hi)])
    | none => .bad
  | _ => .bad
theorem cut_rel {m : Mp} {H : Hp} {ws : List Wv} {xs : List V} {lo hi : Option Int} (r : RelWs X.K m H ws xs) : RelWs X.K m H (cutW ws lo hi) (cutV xs lo hi) := by
  unfold cutW cutV
  rw [← r.length]
  exact (r.drop _).take _
def gSlice (ga : GE) (gl gh : GO) : GE := fun ρ st => (ga ρ st).bind fun x st1 => (gl ρ st1).bind fun lo st2 => (gh ρ st2).bind fun hi st3 => oSl x lo hi st3
theorem je_slice {a : Expr} {lo hi : Option Expr} {ga : GE} {gl gh : GO} {pos p2 : Pos} (ha : JE X a ga) (hl : JO X lo gl) (hh : JO X hi gh) : JE X (.Subscript a (.Slice lo hi none p2) pos) (gSlice ga gl gh) := by
  refine JE.of (pe_slice (sl_tup.or sl_list) pe_SE po_SO po_SO) fun ρ st σ H m Q S R p => ?_
  refine ha.go S R (PostG.bind p) fun x st1 v m1 H1 p1 e1 S1 rx => ?_
  refine hl.go S1 (R.mono e1) ((PostG.bind p1).imp e1 fun _ _ q => q) fun l st2 m2 H2 p2 e2 S2 => ?_
  refine hh.go S2 (R.mono (e1.trans e2)) ((PostG.bind p2).imp (e1.trans e2) fun _ _ q => q) fun h st3 m3 H3 p3 e3 S3 => ?_
  have e13 := e1.trans (e2.trans e3)
  have rx3 := RelW.mono (e2.trans e3) _ _ rx
  cases x with
  | tup ws =>
    have p3' : PostE X σ m H (if HT.sIx ws.length 0 l = 0 ∧ HT.sIx ws.length ws.length h = ws.length then .bad else .ok (.tup (cutW ws l h)) st3) Q := p3
    by_cases c : HT.sIx ws.length 0 l = 0 ∧ HT.sIx ws.length ws.length h = ws.length
    · rw [if_pos c] at p3'; exact False.elim p3'
    · rw [if_neg c] at p3'
      unfold RelW at rx3
      obtain ⟨q, xs, rfl, f1, f2⟩ := rx3
      refine .inl ⟨q, xs, rfl, SqT.of f1, by rw [← f2.length]; exact c, fun r hr => ?_⟩
      have e4 : Ext X.K m3 H3 m3 (upd H3 r (.tup (cutV xs l h))) := Ext.upd (.inl hr)
      exact p3' (.ref r) m3 _ (e13.trans e4) (S3.fresh hr) (by unfold RelW; exact ⟨r, _, rfl, upd_same, RelWs.mono e4 _ _ (cut_rel f2)⟩)
  | ref k =>
    have p3' : PostE X σ m H (match lstOf st3 k with | some ws => .ok (.ref st3.length) (st3 ++ [.lst (cutW ws l h)]) | none => .bad) Q := p3
    unfold RelW at rx3
    obtain ⟨q, rfl, f1⟩ := rx3
    cases e : lstOf st3 k with
    | none => rw [e] at p3'; exact False.elim p3'
    | some ws =>
      rw [e] at p3'
      obtain ⟨xs, g1, g2⟩ := S3.read f1 e
      exact .inr ⟨q, xs, rfl, g1, fun r hr => new_list p3' e13 S3 (cut_rel g2) r hr⟩
  | _ => exact False.elim p3
end
end J
namespace J
open PySem PySem.Spec PyProof.Rows L2
section
variable {X : Cx}
def CallW (X : Cx) (f : Value) (op : List Wv → Hs → Re Wv) : Prop := ∃ r, CallR X f r ∧ ∀ (ws : List Wv) (vs : List V) (st : Hs) (H : Hp) (m : Mp) (Q : VK), Sim X.K m st H → RelWs X.K m H ws vs → PostO X.K m H (op ws st) Q → r vs H Q
def gCallB (op : List Wv → Hs → Re Wv) (g : GA) : GE := fun ρ st => (g ρ st).bind fun ws st1 => (op ws st1).nox
theorem je_callB {x : Str} {id : String} {p pos : Pos} {e : Expr} {es : List Expr} {g : GA} {op : List Wv → Hs → Re Wv} (hc : CallW X (.builtin id) op) (hg : Gl X x) (hm : X.mg x = none) (hv : bootBuiltins x = some (.builtin id)) (ha : JA X (e :: es) g)
    (hn : x ≠ "__name__" := by decide) (hdb : (x == ("__debug__" : Str)) = false := by decide) (he : starEach (e :: es) X.env = (false, eval e X.env) :: starEach es X.env := by rfl) (hpl : (backTo pos (starEach es X.env)).any (·.1) = false := by rfl) :
    JE X (.Call (.Name x p) (e :: es) [] pos) (gCallB op g) := by
  obtain ⟨r, h1, h2⟩ := hc
  refine JE.of (pe_callB h1 hg hm hv pa_SA hn hdb he hpl) fun ρ st σ H m Q S R p => ?_
  exact ha.go S R (PostG.bind p) fun ws st1 vs m1 H1 p1 e1 S1 rs => h2 ws vs st1 H1 m1 Q S1 rs (PostO.shift (PostG.nox p1) e1)
theorem je_callTy {x : Str} {T : String} {p pos : Pos} {e : Expr} {es : List Expr} {g : GA} {op : List Wv → Hs → Re Wv} (hc : CallW X (.type T) op) (hg : Gl X x) (hm : X.mg x = none) (hv : bootBuiltins x = some (.type T)) (ha : JA X (e :: es) g)
    (hn : x ≠ "__name__" := by decide) (hdb : (x == ("__debug__" : Str)) = false := by decide) (he : starEach (e :: es) X.env = (false, eval e X.env) :: starEach es X.env := by rfl) (hpl : (backTo pos (starEach es X.env)).any (·.1) = false := by rfl) :
    JE X (.Call (.Name x p) (e :: es) [] pos) (gCallB op g) := by
  obtain ⟨r, h1, h2⟩ := hc
  refine JE.of (pe_callTy h1 hg hm hv pa_SA hn hdb he hpl) fun ρ st σ H m Q S R p => ?_
  exact ha.go S R (PostG.bind p) fun ws st1 vs m1 H1 p1 e1 S1 rs => h2 ws vs st1 H1 m1 Q S1 rs (PostO.shift (PostG.nox p1) e1)
theorem rel1 {m : Mp} {H : Hp} {w : Wv} {vs : List V} (r : RelWs X.K m H [w] vs) : ∃ v, vs = [v] ∧ RelW X.K m H w v := by
  unfold RelWs at r
  obtain ⟨v, t, rfl, h1, h2⟩ := r
  unfold RelWs at h2
  subst h2
  exact ⟨v, rfl, h1⟩
theorem rel2 {m : Mp} {H : Hp} {w w' : Wv} {vs : List V} (r : RelWs X.K m H [w, w'] vs) : ∃ v v', vs = [v, v'] ∧ RelW X.K m H w v ∧ RelW X.K m H w' v' := by
  unfold RelWs at r
  obtain ⟨v, t, rfl, h1, h2⟩ := r
  obtain ⟨v', rfl, h3⟩ := rel1 h2
  exact ⟨v, v', rfl, h1, h3⟩
def oLen : List Wv → Hs → Re Wv
  | [.str z], st => if z.length ≤ lim then .ok (.int z.length) st else .bad
  | [x], st => match seqOf st x with
    | some ws => .ok (.int ws.length) st
    | none => .bad
  | _, _ => .bad
theorem cw_len : CallW X (.builtin "len") oLen := ⟨_, call_len_seq.or call_len_str, fun ws vs st H m Q S r p => by
  match ws, r, p with
  | [], r, p => exact False.elim p
  | x :: y :: t, r, p => cases x <;> exact False.elim p
  | [x], r, p =>
    obtain ⟨v, rfl, rx⟩ := rel1 r
    have seqs : (match seqOf st x with | some ws => Re.ok (Wv.int ws.length) st | none => .bad) = oLen [x] st → (∃ p ys, [v] = [V.ref p] ∧ (SqL X.K H p ys ∨ SqT X.K H p ys) ∧ Q (.int ys.length) H) := fun hp => by
      rw [← hp] at p
      cases e : seqOf st x with
      | none => rw [e] at p; exact False.elim p
      | some ws =>
        rw [e] at p
        obtain ⟨q, xs, rfl, e2, e3⟩ := seq_rel S rx e
        refine ⟨q, xs, rfl, e2, ?_⟩
        rw [← e3.length]
        exact p _ m H Ext.refl S mkInt
    cases x with
    | str z =>
      have p' : PostO X.K m H (if z.length ≤ lim then .ok (.int z.length) st else .bad) Q := p
      by_cases c : z.length ≤ lim
      · rw [if_pos c] at p'
        obtain ⟨rfl, _⟩ := relStr rx
        exact .inr ⟨z, rfl, lim_le c, p' _ m H Ext.refl S mkInt⟩
      · rw [if_neg c] at p'; exact False.elim p'
    | _ => exact .inl (seqs rfl)⟩
def oAbs : List Wv → Hs → Re Wv
  | [.int i], st => .ok (.int (if i < 0 then -i else i)) st
  | _, _ => .bad
def isW (st : Hs) (T : String) : Wv → Option Bool
  | .non => some false
  | .bl _ => some (T == "bool" || T == "int")
  | .int _ => some (T == "int")
  | .str _ => some (T == "str")
  | .tup _ => some (T == "tuple")
  | .ktp _ => none
  | .ref l => (lstOf st l).map fun _ => T == "list"
  | .ty _ => none
  | .cls _ => none
  | .exn _ => none
  | .fn _ _ => none
def okTy (T : String) : Bool := T == "int" || T == "str" || T == "bool" || T == "tuple" || T == "list"
def oIsI : List Wv → Hs → Re Wv
  | [x, .ty T], st => if okTy T = true then (match isW st T x with | some b => .ok (.bl b) st | none => .bad) else .bad
  | _, _ => .bad
def rIsI (K : PySem.W.Frag) : List V → Hp → VK → Prop := fun vs H Q => ∃ m st x T v b, vs = [v, .ty T] ∧ Sim K m st H ∧ RelW K m H x v ∧ okTy T = true ∧ isW st T x = some b ∧ Q (.bl b) H
theorem call_isI : CallR X (.builtin "isinstance") (rIsI X.K) := by
  intro pins s σ H xs us Q I r h
  obtain ⟨m, st, x, T, v, b, rfl, S, rx, hT, hb, q⟩ := h
  obtain ⟨u, u', rfl, r1, r2⟩ := vals2 r
  cases r2
  have fin : ∀ tk, EP X pins σ Q (.bool b) { s with toks := tk } := fun tk => ⟨.bl b, H, I.tok tk, rfl, q⟩
  have fin0 : EP X pins σ Q (.bool b) s := ⟨.bl b, H, I, rfl, q⟩
  unfold okTy at hT
  simp only [Bool.or_eq_true, beq_iff_eq] at hT
  cases x with
  | non =>
    unfold RelW at rx; subst rx; cases r1
    cases hb
    rcases hT with (((rfl | rfl) | rfl) | rfl) | rfl <;>
      exact call_isinstance (isinstance_false_none (by decide) (by kernel_rfl) (by rw [isSubtype_type]; kernel_rfl)) (fin _)
  | bl c =>
    unfold RelW at rx; subst rx; cases r1
    rcases hT with (((rfl | rfl) | rfl) | rfl) | rfl <;> cases hb <;> first
      | exact call_isinstance_yes (Tx := "bool") rfl (by kernel_rfl) (by rw [isSubtype_type]; kernel_rfl) fin0
      | exact call_isinstance (isinstance_false_bool (by decide) (by kernel_rfl) (by rw [isSubtype_type]; kernel_rfl)) (fin _)
  | int c =>
    unfold RelW at rx; subst rx; obtain ⟨t, rfl⟩ := r1
    rcases hT with (((rfl | rfl) | rfl) | rfl) | rfl <;> cases hb <;> first
      | exact call_isinstance_yes (Tx := "int") (typeIs_int s c t) (by kernel_rfl) (by rw [isSubtype_type]; kernel_rfl) fin0
      | exact call_isinstance (isinstance_false_int (by decide) (by kernel_rfl) (by rw [isSubtype_type]; kernel_rfl)) (fin _)
  | str c =>
    obtain ⟨rfl, _⟩ := relStr rx; obtain ⟨t, rfl⟩ := r1
    rcases hT with (((rfl | rfl) | rfl) | rfl) | rfl <;> cases hb <;> first
      | exact call_isinstance_yes (Tx := "str") (typeIs_str s c t) (by kernel_rfl) (by rw [isSubtype_type]; kernel_rfl) fin0
      | exact call_isinstance (isinstance_false_str (by decide) (by kernel_rfl) (by rw [isSubtype_type]; kernel_rfl)) (fin _)
  | ktp ws => cases hb
  | tup ws =>
    unfold RelW at rx; obtain ⟨a, xs, rfl, h1, h2⟩ := rx; cases r1
    obtain ⟨its, rv, ht, hz⟩ := I.tuple (SqT.of h1)
    have hty := ht.typeIs
    obtain ⟨o, ho, hc, k, hd⟩ := ht
    rcases hT with (((rfl | rfl) | rfl) | rfl) | rfl <;> cases hb <;> first
      | exact call_isinstance_yes (Tx := "tuple") hty (by kernel_rfl) (by rw [isSubtype_type]; kernel_rfl) fin0
      | exact call_isinstance (isinstance_false_tuple (by decide) (by kernel_rfl) (by rw [isSubtype_type]; kernel_rfl)) ⟨⟨o, ho, hc⟩, fin _⟩
  | ref l =>
    unfold RelW at rx; obtain ⟨a, rfl, h1⟩ := rx; cases r1
    have hb' : (lstOf st l).map (fun _ => T == "list") = some b := hb
    cases e : lstOf st l with
    | none => rw [e] at hb'; cases hb'
    | some ws =>
      rw [e] at hb'
      obtain ⟨xs, hq, h2⟩ := S.read h1 e
      obtain ⟨its, rv, ht, hz⟩ := I.list hq
      have hty := ht.isList.typeIs
      obtain ⟨o, ho, hc, k, hd⟩ := ht.isList
      rcases hT with (((rfl | rfl) | rfl) | rfl) | rfl <;> cases hb' <;> first
        | exact call_isinstance_yes (Tx := "list") hty (by kernel_rfl) (by rw [isSubtype_type]; kernel_rfl) fin0
        | exact call_isinstance (isinstance_false_list (by decide) (by kernel_rfl) (by rw [isSubtype_type]; kernel_rfl)) ⟨⟨o, ho, hc⟩, fin _⟩
  | ty t => cases hb
  | cls t => cases hb
  | exn t => cases hb
  | fn fp t => cases hb
theorem cw_isI : CallW X (.builtin "isinstance") oIsI := ⟨_, call_isI, fun ws vs st H m Q S r p => by
  match ws, r, p with
  | [], r, p => exact False.elim p
  | [x], r, p => cases x <;> exact False.elim p
  | x :: y :: z :: t, r, p => cases y <;> exact False.elim p
  | [x, y], r, p =>
    obtain ⟨v, v', rfl, rx, ry⟩ := rel2 r
    cases y with
    | ty T =>
      unfold RelW at ry
      subst ry
      have p' : PostO X.K m H (if okTy T = true then (match isW st T x with | some b => .ok (.bl b) st | none => .bad) else .bad) Q := p
      by_cases c : okTy T = true
      · rw [if_pos c] at p'
        cases e : isW st T x with
        | none => rw [e] at p'; exact False.elim p'
        | some b => rw [e] at p'; exact ⟨m, st, x, T, v, b, rfl, S, rx, c, e, p' _ m H Ext.refl S mkBl⟩
      · rw [if_neg c] at p'; exact False.elim p'
    | _ => exact False.elim p⟩
def gNext : GS := fun ρ st => .nx ρ st
def gSeq (g h : GS) : GS := fun ρ st => match g ρ st with
  | .nx ρ' st' => h ρ' st'
  | r => r
theorem jss_nil : JSs X [] gNext := JSs.of pss_nil fun ρ st σ H m D S R p => p σ m H Ext.refl S R
theorem jss_cons {s : Stmt} {rest : List Stmt} {g h : GS} (h1 : JS X s g) (h2 : JSs X rest h) : JSs X (s :: rest) (gSeq g h) :=
  JSs.of (pss_cons ps_SS pss_SSs) fun ρ st σ H m D S R p => h1 ρ st σ H m _ S R (by
    unfold gSeq at p
    cases e : g ρ st with
    | nx ρ' st' => rw [e] at p; exact fun σ' m' H' e' S' R' => h2 ρ' st' σ' H' m' D S' R' (PostS.shift p e')
    | rt w st' => rw [e] at p; exact p
    | bk ρ' st' => rw [e] at p; exact p
    | ct ρ' st' => rw [e] at p; exact p
    | err c ρ' st' => rw [e] at p; exact p
    | bad => rw [e] at p; exact p)
theorem jss_one {s : Stmt} {g : GS} (h1 : JS X s g) : JSs X [s] g := JSs.of (pss_one ps_SS) fun ρ st σ H m D S R p => h1 ρ st σ H m D S R p
def gRet (g : GE) : GS := fun ρ st => (g ρ st).thn ρ fun w st' => .rt w st'
theorem js_ret {e : Expr} {g : GE} {pos : Pos} (h : JE X e g) : JS X (.Return (some e) pos) (gRet g) :=
  JS.of (ps_ret pe_SE) fun ρ st σ H m D S R p => h.go S R (PostS.of_thn R p) fun w st1 v m1 H1 q e1 S1 r1 => q v m1 H1 e1 S1 r1
def gExpr (g : GE) : GS := fun ρ st => (g ρ st).thn ρ fun _ st' => .nx ρ st'
theorem js_expr {e : Expr} {g : GE} {pos : Pos} (h : JE X e g) (hs : swapsWith e none pos.line X.env = pure false := by rfl) : JS X (.Expr e pos) (gExpr g) :=
  JS.of (ps_expr pe_SE hs) fun ρ st σ H m D S R p => h.go S R (PostS.of_thn R p) fun w st1 v m1 H1 q e1 S1 r1 => q σ m1 H1 e1 S1 (R.mono e1)
def gIf (gt : GT) (ga gb : GS) : GS := fun ρ st => (gt ρ st).thn ρ fun b st' => if b = true then ga ρ st' else gb ρ st'
theorem js_if {c : Expr} {a b : List Stmt} {gt : GT} {ga gb : GS} {pos : Pos} (hc : JT X c gt) (ha : JSs X a ga) (hb : JSs X b gb) : JS X (.If c a b pos) (gIf gt ga gb) :=
  JS.of (ps_if pt_ST pss_SSs pss_SSs) fun ρ st σ H m D S R p => hc.go S R (PostS.of_thn R p) fun k st1 m1 H1 q e1 S1 => by
    cases k with
    | true => rw [if_pos rfl] at q ⊢; exact ha ρ st1 σ H1 m1 D S1 (R.mono e1) (PostS.shift q e1)
    | false => rw [if_neg Bool.false_ne_true] at q ⊢; exact hb ρ st1 σ H1 m1 D S1 (R.mono e1) (PostS.shift q e1)
def gSet (i : Nat) (g : GE) : GS := fun ρ st => (g ρ st).thn ρ fun w st' => .nx (ρ.set i (some w)) st'
theorem js_set (i : Nat) {x : Str} {e : Expr} {g : GE} {pos pos' : Pos} (hN : X.N.Nodup) (h : JE X e g) (hi : X.N[i]? = some x := by rfl) (hx : Loc X.env.scope x := by first | exact Or.inl rfl | exact Or.inr rfl) (hs : swapsWith e (some (.Name x pos')) pos.line X.env = pure false := by rfl)
    (hf : X.fn x = true ∨ X.env.scope.names.lookup x = some .local := by first | exact .inl rfl | exact .inr rfl | assumption) : JS X (.Assign [.Name x pos'] e pos) (gSet i g) :=
  JS.of (ps_set hN hi hx pe_SE hs hf) fun ρ st σ H m D S R p => h.go S R (PostS.of_thn R p) fun w st1 v m1 H1 q e1 S1 r1 => q _ m1 H1 e1 S1 ((R.mono e1).set i r1)
def gNever : GS := fun _ _ => .bad
theorem js_never {s : Stmt} : JS X s gNever := JS.of ps_never fun ρ st σ H m D S R p => p
theorem jss_never {s : List Stmt} : JSs X s gNever := JSs.of pss_never fun ρ st σ H m D S R p => p
def oSet (o i v : Wv) (ρ : Rho) (st : Hs) : Rs := match o, i with
  | .ref l, .int k => match st[l]? with
    | some (.lst ws) => (match ixN ws.length k with | some j => .nx ρ (st.set l (.lst (ws.set j v))) | none => .bad)
    | _ => .bad
  | _, _ => .bad
def gSetI (ge go gi : GE) : GS := fun ρ st => (ge ρ st).thn ρ fun v st1 => (go ρ st1).thn ρ fun o st2 => (gi ρ st2).thn ρ fun i st3 => oSet o i v ρ st3
theorem js_setI {o i e : Expr} {go gi ge : GE} {pos pos' : Pos} (he : JE X e ge) (ho : JE X o go) (hi : JE X i gi) (hs : swapsWithSole [.Subscript o i pos'] e pos.line X.env = pure false := by rfl) (hw : swappedStores [.Subscript o i pos'] e X.env = pure none := by rfl)
    (h1 : (assignEach [.Subscript o i pos'] X.env).map (·.2) = [assign (.Subscript o i pos') X.env] := by rfl)
    (ha : ∀ v, assign (.Subscript o i pos') X.env v = (do
      let ov ← holding [v] (eval o X.env)
      let iv ← holding [v, ov] (eval i X.env)
      standAt pos'
      holding [v, ov, iv] (setItem ov iv v)
      release [v, ov, iv] []) := by intro _; rfl) : JS X (.Assign [.Subscript o i pos'] e pos) (gSetI ge go gi) := by
  refine JS.of (ps_asg pe_SE (pg_sub pe_SE pe_SE set_list ha) hs hw h1) fun ρ st σ H m D S R p => ?_
  refine he.go S R (PostS.of_thn R p) fun v st1 vv m1 H1 p1 e1 S1 rv => ?_
  refine ho.go S1 (R.mono e1) ((PostS.of_thn (m := m) (H := H) R p1).imp e1 fun _ _ q => q) fun o' st2 ov m2 H2 p2 e2 S2 ro => ?_
  refine hi.go S2 (R.mono (e1.trans e2)) ((PostS.of_thn (m := m) (H := H) R p2).imp (e1.trans e2) fun _ _ q => q) fun i' st3 iv m3 H3 p3 e3 S3 ri => ?_
  have e13 := e1.trans (e2.trans e3)
  cases o' with
  | ref l =>
    cases i' with
    | int k =>
      have p3' : PostS X m H (match st3[l]? with | some (.lst ws) => (match ixN ws.length k with | some j => .nx ρ (st3.set l (.lst (ws.set j v))) | none => .bad) | _ => .bad) D := p3
      have ro3 := RelW.mono e3 _ _ ro
      unfold RelW at ro3
      obtain ⟨a, rfl, f1⟩ := ro3
      cases e : st3[l]? with
      | none => rw [e] at p3'; exact False.elim p3'
      | some ob =>
        cases ob with
        | dct kvs => rw [e] at p3'; exact False.elim p3'
        | dcT kvs => rw [e] at p3'; exact False.elim p3'
        | scr ns => rw [e] at p3'; exact False.elim p3'
        | lst ws =>
          rw [e] at p3'
          cases ej : ixN ws.length k with
          | none => simp only [ej] at p3'; exact False.elim p3'
          | some j =>
            simp only [ej] at p3'
            obtain ⟨xs, g1, g2⟩ := S3.lstAt f1 e
            refine ⟨a, xs, k, j, rfl, relInt ri, g1, by rw [← g2.length]; exact ej, ?_⟩
            have rv3 := RelW.mono (e2.trans e3) _ _ rv
            have e4 : Ext X.K m3 H3 m3 (upd H3 a (.lst (xs.set j vv))) := Ext.upd (.inr ⟨xs, g1⟩)
            exact p3' σ m3 _ (e13.trans e4) (S3.write f1 e (g2.set j rv3)) (R.mono (e13.trans e4))
    | _ => exact False.elim p3
  | _ => cases i' <;> exact False.elim p3
open Classical in
noncomputable def forL (i : Nat) (gb : GS) (l : Nat) (all : List Wv) : List Wv → Rho → Hs → Rs
  | [], ρ, st => .nx ρ st
  | w :: r, ρ, st => match gb (ρ.set i (some w)) st with
    | .nx ρ' st' => if lstOf st' l = some all then forL i gb l all r ρ' st' else .bad
    | .ct ρ' st' => if lstOf st' l = some all then forL i gb l all r ρ' st' else .bad
    | .bk ρ' st' => .nx ρ' st'
    | .rt w st' => .rt w st'
    | .err c ρ' st' => .err c ρ' st'
    | .bad => .bad
end
end J
namespace J
open PySem PySem.Spec PyProof.Rows L2
def CXJ (P : Program) (w : World) : CXT := fun outer H s E e s' => ∃ H' C, Flown P w outer H s H' (.ref C) e s' ∧ E (.ref C) none H'
section
variable {X : Cx} {pins : List (Addr × Obj)} {σ : St} {Hc H' : Hp} {sc s' : Shared} {cls e : Value} {E : Value → Shared → Prop} {Q : Unit → Shared → Prop}
theorem old_ne (I : Inv X pins σ Hc sc) {b : Addr} {o : Obj} (q : X.s₀.heap.get? b = some o) : b ≠ X.env.locals := fun z => by
  have h1 := Heap.lt_size q
  have h2 := I.ok.above
  rw [z] at h1
  exact absurd (Nat.lt_of_lt_of_le h1 h2) (Nat.lt_irrefl _)
theorem old_out (I : Inv X pins σ Hc sc) (hst : X.stack = X.env :: X.outer) (hf : X.env.frame = some X.env.locals) {b : Addr} {o : Obj} (q : X.s₀.heap.get? b = some o) (hb : b ∉ frs X.outer) : b ∉ frs X.stack := fun z => by
  rw [hst] at z
  unfold frs at z
  rw [List.filterMap_cons, hf] at z
  rcases List.mem_cons.mp z with z | z
  · exact old_ne I q z
  · exact hb z
theorem in_stack (hst : X.stack = X.env :: X.outer) (hf : X.env.frame = some X.env.locals) {b : Addr} (hb : b ∈ frs X.outer) : b ∈ frs X.stack := by
  rw [hst]
  unfold frs
  rw [List.filterMap_cons, hf]
  exact List.mem_cons_of_mem _ hb
theorem un_out (hx : X.ex = []) (hst : X.stack = X.env :: X.outer) (hf : X.env.frame = some X.env.locals) (I : Inv X pins σ Hc sc) {B h2 : Heap} (un : Un (frs X.stack) [] Hc H' sc.heap s'.heap) (up : s'.heap.UpToSlots h2) (stay : B.StaysIn h2)
    (cov : ∀ b o, sc.heap.get? b = some o → b ∉ frs X.stack → ∃ o', B.get? b = some o' ∧ (Hc b = none → o' = o)) :
    Un (frs X.outer) [] X.H₀ H' X.s₀.heap h2 ∧ (∀ b o, X.s₀.heap.get? b = some o → b ∉ frs X.outer → ∃ o', B.get? b = some o' ∧ (X.H₀ b = none → o' = o)) := by
  have nx : ∀ b : Addr, b ∉ X.ex := fun b => by rw [hx]; simp
  have cov2 : ∀ b o, X.s₀.heap.get? b = some o → b ∉ frs X.outer → ∃ o', B.get? b = some o' ∧ (X.H₀ b = none → o' = o) := fun b o q hb => by
    obtain ⟨o1, q1⟩ := I.base.there b o q (nx b)
    obtain ⟨o2, q2, q3⟩ := cov b o1 q1 (old_out I hst hf q hb)
    refine ⟨o2, q2, fun n => ?_⟩
    have q4 := I.base.keep b o q n hb (nx b)
    rw [q4] at q1
    cases q1
    exact q3 (I.base.free b o q n (nx b))
  have sl : ∀ b o, X.s₀.heap.get? b = some o → X.H₀ b = none → b ∈ frs X.outer → ∃ sl, h2.get? b = some { o with slots := sl } := fun b o q n hb => by
    obtain ⟨s1, q1⟩ := I.base.slot b o q n hb (nx b)
    obtain ⟨s2, q2⟩ := un.slot b _ q1 (I.base.free b o q n (nx b)) (in_stack hst hf hb) (by simp)
    obtain ⟨_, o3, q3, q4⟩ := I.ok.funs.mem hb
    rw [q] at q3
    cases q3
    obtain ⟨s3, q5⟩ := up b _ q2 q4
    exact ⟨s3, q5⟩
  refine ⟨⟨fun b o q n hb _ => ?_, fun b o q n hb _ => sl b o q n hb, fun b o q n _ => ?_, fun b o q _ => ?_, fun b xs h => un.tups b xs (I.base.tups b xs h), fun b o u h => un.frzs b o u (I.base.frzs b o u h), fun b ps h => ?_⟩, cov2⟩
  · obtain ⟨o2, q2, q3⟩ := cov2 b o q hb
    rw [q3 n] at q2
    exact stay b o q2
  · obtain ⟨o1, q1⟩ := I.base.there b o q (nx b)
    exact un.free b o1 q1 (I.base.free b o q n (nx b)) (by simp)
  · by_cases hb : b ∈ frs X.outer
    · obtain ⟨s3, q3⟩ := sl b o q (I.ok.frf b hb) hb
      exact ⟨_, q3⟩
    · obtain ⟨o2, q2, _⟩ := cov2 b o q hb
      exact ⟨o2, stay b o2 q2⟩
  · obtain ⟨m1, t1⟩ := I.base.tbls b ps h
    obtain ⟨m2, t2⟩ := un.tbls b _ t1
    exact ⟨m1 ++ m2, by rw [← Array.append_assoc]; exact t2⟩
theorem leave_flown (hx : X.ex = []) (hst : X.stack = X.env :: X.outer) (hf : X.env.frame = some X.env.locals) (I : Inv X pins σ Hc sc) (F : Flown X.prog X.w X.stack Hc sc H' cls e s')
    (k : ∀ s2, Flown X.prog X.w X.outer X.H₀ X.s₀ H' cls e s2 → Q () s2) : wpAny (model X.prog X.w) X.A (leaving X.env e) Q E s' := by
  obtain ⟨a, a0, B, rfl, os, bare, un, hok, fl, cov⟩ := F
  have hfr : X.A.frames = some (X.env :: X.outer) := by rw [I.ok.frames, hst]
  have fl' : Heap.FlyingW B (X.env :: X.outer) a cls a0 s'.heap := by rw [← hst]; exact fl
  refine wpAny_leaves_onW hfr hf fl' fun h2 fl2 up => k _ ?_
  obtain ⟨u2, c2⟩ := un_out hx hst hf I un up fl2.1 cov
  exact ⟨a, a0, B, rfl, os.trans I.os, bare, u2, hok, fl2, c2⟩
theorem hok_hide {P : Program} {w : World} {H : Hp} {h : Heap} {l : List Addr} (ok : HOk P w H h) (fr : ∀ b ∈ l, H b = none) : HOk P w H (PySem.W.hideAll h l) := fun a o q =>
  (ok a o q).stay (fun b u hb r => PySem.W.hideAll_get _ r fun z => by
    have n := fr b z
    rcases hb with hb | hb
    · rw [hb, q] at n; cases n
    · rw [hb] at n; cases n) (fun _ r => r) fun _ _ r => r
theorem leave_made {a C : Addr} {args : List Value} (hx : X.ex = []) (hst : X.stack = X.env :: X.outer) (hf : X.env.frame = some X.env.locals) (I : Inv X pins σ Hc sc) (ho : s'.os = sc.os) (hgn : s'.gens = sc.gens)
    (M : Heap.MadeExcOf sc.heap s'.heap a (.ref C) args) (k : ∀ s2, Flown X.prog X.w X.outer X.H₀ X.s₀ Hc (.ref C) (.ref a) s2 → Q () s2) : wpAny (model X.prog X.w) X.A (leaving X.env (.ref a)) Q E s' := by
  have hfr : X.A.frames = some (X.env :: X.outer) := by rw [I.ok.frames, hst]
  have fs : sc.heap.FunFrames (PySem.W.hideAll sc.heap (frs X.stack)) (X.env :: X.outer) := by
    rw [← hst]
    exact PySem.W.funFrames_hide I.stack fun env he b hb => List.mem_filterMap.mpr ⟨env, he, hb⟩
  refine wpAny_leaves_madeW (base := PySem.W.hideAll sc.heap (frs X.stack)) hfr hf (fun b o q => PySem.W.of_hideAll _ q) fs M fun h2 t fl2 _ _ up => k _ ?_
  obtain ⟨u2, c2⟩ := un_out (H' := Hc) (s' := s') hx hst hf I (Un.kept M.keeps) up fl2.1 fun b o q hb => ⟨o, PySem.W.hideAll_get _ q hb, fun _ => rfl⟩
  exact ⟨a, .ref t, _, rfl, ho.trans I.os, by rw [show ({ s' with heap := h2 } : Shared).gens = sc.gens from hgn]; exact I.bare, u2, hok_hide I.hok I.stkFree, fl2, c2⟩
end
def PostF (K : PySem.W.Frag) (m : Mp) (H : Hp) (r : Re Wv) (Q : VK) (E : XK) : Prop := match r with
  | .ok w st => okE K m H Q w st
  | .err c st => ∀ (m' : Mp) (H' : Hp) (C : Addr), Ext K m H m' H' → Sim K m' st H' → ClsAt K c C → E (.ref C) none H'
  | .bad => False
def spW (K : PySem.W.Frag) (n : Nat) (F : List Wv → Hs → Re Wv) : Sp := fun vs H Q E => ∃ m st ws, Sim K m st H ∧ RelWs K m H ws vs ∧ ws.length = n ∧ PostF K m H (F ws st) Q E
def gCall (n : Nat) (F : List Wv → Hs → Re Wv) (g : GA) : GE := fun ρ st => (g ρ st).bind fun ws st1 => if ws.length = n then F ws st1 else .bad
section
variable {X : Cx}
theorem je_call {k n : Nat} {f : Addr} {fd : FuncData} {ps : List Str} {F : List Wv → Hs → Re Wv} {x : Str} {p pos : Pos} {e : Expr} {es : List Expr} {g : GA}
    (G : FnOk X.prog X.w X.K X.mg X.base (CXJ X.prog X.w) k f fd ps (spW X.K n F)) (hr : Room k X.A) (hm : X.mg x = some (.ref f)) (hk : PySem.W.keepIn X.K (.ref f) = true) (hb : Binds X.K fd ps []) (ha : JA X (e :: es) g) (hg : Gl X x := by rfl)
    (hdb : (x == ("__debug__" : Str)) = false := by decide) (he : starEach (e :: es) X.env = (false, eval e X.env) :: starEach es X.env := by rfl) (hpl : (backTo pos (starEach es X.env)).any (·.1) = false := by rfl) :
    JE X (.Call (.Name x p) (e :: es) [] pos) (gCall n F g) := by
  intro ρ st σ H m Q S R p pins s I
  have args := ha.go (T := fun vs H1 => ∃ ws st1 m1, PostE X σ m H (if ws.length = n then F ws st1 else .bad) Q ∧ Ext X.K m H m1 H1 ∧ Sim X.K m1 st1 H1 ∧ RelWs X.K m1 H1 ws vs) S R (PostG.bind p)
    fun ws st1 vs m1 H1 p1 e1 S1 rs => ⟨ws, st1, m1, p1, e1, S1, rs⟩
  refine wpAny_Call_Name_kw (ld_glob I hg hm ?_ hdb)
  refine PySem.W.callWith_K (h₀ := X.base) I.ok.mod.kin hk (thn (args pos pins s I) fun us s1 ⟨vs, H1, I1, r, ws, st1, m1, p1, e1, S1, rs⟩ => ⟨I1.kIn, ?_⟩) he hpl
  by_cases c : ws.length = n
  · rw [if_pos c] at p1
    let E : XK := fun cl _ H2 => ∃ c' st2 m2 C, cl = .ref C ∧ ClsAt X.K c' C ∧ F ws st1 = .err c' st2 ∧ Ext X.K m1 H1 m2 H2 ∧ Sim X.K m2 st2 H2
    have sp : spW X.K n F vs H1 Q E := by
      refine ⟨m1, st1, ws, S1, rs, c, ?_⟩
      cases er : F ws st1 with
      | ok w st2 => rw [er] at p1; exact PostE.shift (r := .ok w st2) p1 e1
      | err c' st2 => exact fun m2 H2 C e2 S2 hC => ⟨c', st2, m2, C, rfl, hC, er, e2, S2⟩
      | bad => rw [er] at p1; exact False.elim p1
    have hl : us.length = ps.length := by rw [← r.length]; exact G.len _ _ _ _ sp
    have bd := hb s1 us I1.kIn (by rw [List.append_nil]; exact hl)
    rw [List.append_nil] at bd
    refine wpAny_call (codeAny_mono (G.run X.A X.stack s1 H1 ⟨us, []⟩ us vs Q E hr I1.env0 bd r sp) fun rr s2 hq => ?_)
    cases rr with
    | error x =>
      obtain ⟨H2, C, fl, c', st2, m2, C', ec, hC, er, e2, S2⟩ := hq
      cases ec
      rw [er] at p1
      exact p1 m2 H2 x s2 (e1.trans e2) S2 ⟨C, pins, H1, s1, hC, I1, .inl fl⟩
    | ok fw =>
      cases fw with
      | ret u => exact I1.after hq
      | next => exact False.elim hq
      | brk => exact False.elim hq
      | cont => exact False.elim hq
  · rw [if_neg c] at p1; exact False.elim p1
end
def fnF (n : Nat) (g : GS) : List Wv → Hs → Re Wv := fun ws st => match g (ws.map some ++ List.replicate (n - ws.length) none) st with
  | .nx _ st' => .ok .non st'
  | .rt w st' => .ok w st'
  | .err c _ st' => .err c st'
  | _ => .bad
theorem startRel {K : PySem.W.Frag} {m : Mp} {H : Hp} {N : List Str} {ws : List Wv} {vs : List V} (r : RelWs K m H ws vs) (h : ws.length ≤ N.length) : RelEnv K m H (ws.map some ++ List.replicate (N.length - ws.length) none) (L2.start N vs) := by
  have hl := r.length
  refine ⟨by unfold L2.start; simp [hl], fun i w e => ?_⟩
  by_cases hi : i < ws.length
  · rw [List.getElem?_append_left (by simpa using hi), List.getElem?_map] at e
    cases q : ws[i]? with
    | none => rw [q] at e; cases e
    | some w' =>
      rw [q] at e
      cases e
      obtain ⟨x, h1, h2⟩ := r.get q
      refine ⟨x, ?_, h2⟩
      unfold L2.start
      rw [List.getElem?_append_left (by simp; omega), List.getElem?_map, h1]
      rfl
  · rw [List.getElem?_append_right (by simpa using hi), List.getElem?_replicate] at e
    split at e <;> cases e
section
variable {P : Program} {w : World} {K : PySem.W.Frag} {mg : Str → Option Value} {base : Heap}
theorem raised_out {N : List Str} {qual : Str} {scope : Scope} {f : Addr} {cdv : Value} {A : Around} {outer : List Env} {s s' : Shared} {H H' : Hp} {E : XK} {σ : St} {c : PySem.Str} {e : Value}
    (r : Raised (cxOf (CXJ P w) P w K mg base N qual scope f cdv A outer s H E) σ H' c e s') (h : ∀ C, ClsAt K c C → E (.ref C) none H') : (cxOf (CXJ P w) P w K mg base N qual scope f cdv A outer s H E).xe e s' := by
  obtain ⟨C, pins, Hc, sc, hC, I, r⟩ := r
  rcases r with fl | ⟨rfl, a, args, rfl, ho, hg, M⟩
  · exact leave_flown (X := cxOf (CXJ P w) P w K mg base N qual scope f cdv A outer s H E) rfl rfl rfl I fl fun s2 fl2 => ⟨H', C, fl2, h C hC⟩
  · exact leave_made (X := cxOf (CXJ P w) P w K mg base N qual scope f cdv A outer s H E) rfl rfl rfl I ho hg M fun s2 fl2 => ⟨H', C, fl2, h C hC⟩
def CodeOf (K : PySem.W.Frag) (f : Addr) (cdv : Value) : Prop := ∃ o, K.lookup f = some o ∧ ∃ fd, o.data = .func fd ∧ fd.code = cdv
theorem fn_ok {x qual : Str} {st : Stmt} {f : Addr} {fd : FuncData} {N ps : List Str} {k : Nat} {g : GS} (F : Fun K x qual st f fd) (S : FnScope N ps (defScope st))
    (body : ∀ (cdv : Value), CodeOf K f cdv → ∀ (A : Around) (outer : List Env) (s : Shared) (H : Hp) (E : XK), Room k (A.deeper (envOfC qual (defScope st) s.heap.objs.size f cdv)) → JSs (cxOf (CXJ P w) P w K mg base N qual (defScope st) f cdv A outer s H E) (defBody st) g) :
    FnOk P w K mg base (CXJ P w) (k + 1) f fd ps (spW K ps.length (fnF N.length g)) := by
  have hpl : ps.length ≤ N.length := by have := congrArg List.length S.pre; rw [List.length_take] at this; omega
  obtain ⟨oc, od, kV, doc, pm, an, cdv, ct, osl, rfl, lk, hcd⟩ := F.ex
  refine fn_of lk hcd S (fun vs H Q E h => ?_) fun A outer s H vs Q E hr h => ?_
  · obtain ⟨m, st', ws, _, r, hl, _⟩ := h
    rw [← r.length]; exact hl
  · obtain ⟨m, st', ws, S', r, hl, p⟩ := h
    refine ⟨_, pss_SSs, ?_⟩
    refine body cdv ⟨_, lk, _, rfl, rfl⟩ A outer s H E hr _ st' _ H m _ S' (startRel r (by omega)) ?_
    unfold fnF at p
    cases e : g (ws.map some ++ List.replicate (N.length - ws.length) none) st' with
    | nx ρ st2 => rw [e] at p; exact fun σ m' H' e' S2 R2 => p _ m' H' e' S2 (by unfold RelW; rfl)
    | rt w' st2 => rw [e] at p; exact p
    | bk ρ st2 => rw [e] at p; exact False.elim p
    | ct ρ st2 => rw [e] at p; exact False.elim p
    | err c ρ st2 => rw [e] at p; exact fun σ m' H' x s' e' S2 R2 rz => raised_out rz fun C hC => p m' H' C e' S2 hC
    | bad => rw [e] at p; exact False.elim p
end
def OnlyT (H : Hp) : Prop := ∀ b, H b = none ∨ (∃ o xs, H b = some (.frz o (.lst xs))) ∨ H b = some (.tbl #[])
theorem OnlyT.of {H : Hp} (h : Only H) : OnlyT H := fun b => by
  rcases h b with q | q
  · exact .inl q
  · exact .inr (.inl q)
theorem law_sp {K : PySem.W.Frag} {F : List Wv → Hs → Re Wv} (h : ∀ ns : List Int, ns.length ≤ 63 → ∃ st, F [.ref 0] [.scr ns] = .ok (.bl true) st) (H : Hp) (a : Addr) (ns : List Int) (hl : ns.length ≤ 63) (hO : OnlyT H) (hS : SqL K H a (ns.map V.int)) (hT : TbOk K H) :
    spW K 1 F [.ref a] H (fun v _ => v = .bl true) fun _ _ _ => False := by
  obtain ⟨st, e⟩ := h ns hl
  refine ⟨[a], [.scr ns], [.ref 0], ⟨rfl, fun l b o h1 h2 => ?_, fun l l' b ws ws' _ _ h2 _ k _ => ?_, hT⟩, RelWs.cons (by unfold RelW; exact ⟨a, rfl, rfl⟩) RelWs.nil, rfl, ?_⟩
  · cases l with
    | zero =>
      simp at h1 h2
      subst h1 h2
      show ScrOk K H a ns
      rcases hS with (q | ⟨o', q⟩) | q
      · rcases hO a with z | ⟨o', xs, z⟩ | z
        · rw [z] at q; cases q
        · rw [z] at q; cases q
        · rw [z] at q; cases q
      · exact .inl ⟨o', q⟩
      · exact .inr q
    | succ l => simp at h1
  · cases l with
    | zero => simp at h2; subst h2; simp [Ob.mu] at k
    | succ l => simp at h2
  · rw [e]
    intro v m' H' _ _ r
    unfold RelW at r
    exact r
end J
namespace J
open PySem PySem.Spec PyProof.Rows L2
def truW (w : Wv) (st : Hs) : Re Bool := match w with
  | .non => .ok false st
  | .bl b => .ok b st
  | .int i => .ok (i != 0) st
  | .str y => if y.length ≤ lim then .ok ((y.length : Int) != 0) st else .bad
  | .tup ws => .ok (!ws.isEmpty) st
  | .ktp _ => .bad
  | .ref l => match lstOf st l with
    | some ws => .ok (!ws.isEmpty) st
    | none => .bad
  | .ty _ => .bad
  | .cls _ => .bad
  | .exn _ => .bad
  | .fn _ _ => .bad
def gTru (g : GE) : GT := fun ρ st => (g ρ st).bind truW
section
variable {X : Cx}
theorem isE {m : Mp} {H : Hp} {ws : List Wv} {xs : List V} (r : RelWs X.K m H ws xs) : (!ws.isEmpty) = !xs.isEmpty := by
  have h := r.length
  cases ws <;> cases xs <;> simp_all
theorem jt_tru {e : Expr} {g : GE} (h : JE X e g) (he : ∀ whole, isTrue e X.env whole = (do let v ← whole; standAt e.pos; holding [v] (truthy v))) : JT X e (gTru g) :=
  JT.of (pt_truth pe_SE he) fun ρ st σ H m Q S R p => h.go S R (PostG.bind p) fun w st1 v m1 H1 p1 e1 S1 r1 => by
    cases w with
    | non => unfold RelW at r1; subst r1; exact ⟨false, rfl, p1 m1 H1 e1 S1⟩
    | bl b => unfold RelW at r1; subst r1; exact ⟨b, rfl, p1 m1 H1 e1 S1⟩
    | int i => unfold RelW at r1; subst r1; exact ⟨_, rfl, p1 m1 H1 e1 S1⟩
    | str y =>
      obtain ⟨rfl, _⟩ := relStr r1
      have p2 : PostT X σ m H (if y.length ≤ lim then .ok ((y.length : Int) != 0) st1 else .bad) Q := p1
      by_cases c : y.length ≤ lim
      · rw [if_pos c] at p2; exact ⟨_, ⟨lim_le c, rfl⟩, p2 m1 H1 e1 S1⟩
      · rw [if_neg c] at p2; exact False.elim p2
    | ktp ws => exact False.elim p1
    | tup ws =>
      unfold RelW at r1
      obtain ⟨a, xs, rfl, h1, h2⟩ := r1
      refine ⟨!xs.isEmpty, .inr (.inl ⟨xs, SqT.of h1, rfl⟩), ?_⟩
      rw [← isE h2]
      exact p1 m1 H1 e1 S1
    | ref l =>
      unfold RelW at r1
      obtain ⟨a, rfl, h1⟩ := r1
      have p2 : PostT X σ m H (match lstOf st1 l with | some ws => .ok (!ws.isEmpty) st1 | none => .bad) Q := p1
      cases el : lstOf st1 l with
      | none => rw [el] at p2; exact False.elim p2
      | some ws =>
        rw [el] at p2
        obtain ⟨xs, hq, h2⟩ := S1.read h1 el
        refine ⟨!xs.isEmpty, .inl ⟨xs, hq, rfl⟩, ?_⟩
        rw [← isE h2]
        exact p2 m1 H1 e1 S1
    | ty T => exact False.elim p1
    | cls T => exact False.elim p1
    | exn T => exact False.elim p1
    | fn fp T => exact False.elim p1
theorem all_fold {p : Nat → Bool} {x : Array Nat} (hx : x.all p = true) : ∀ (n : Nat) (a : Array Nat), a.all p = true → ((List.replicate n x).foldl (· ++ ·) a).all p = true
  | 0, a, h => h
  | n + 1, a, h => by
    rw [List.replicate_succ, List.foldl_cons]
    refine all_fold hx n _ ?_
    rw [Array.all_append, h, hx]
    rfl
theorem strOk_rep {x : PySem.Str} {n : Nat} (h : PyData.strOk x = true) : PyData.strOk (repS n x) = true := by
  unfold PyData.strOk at h ⊢
  unfold repS
  exact all_fold h n #[] (by simp)
theorem size_fold {x : Array Nat} : ∀ (n : Nat) (a : Array Nat), ((List.replicate n x).foldl (· ++ ·) a).size = a.size + x.size * n
  | 0, a => by simp
  | n + 1, a => by
    rw [List.replicate_succ, List.foldl_cons, size_fold n, Array.size_append, Nat.mul_succ]
    omega
theorem len_repS {x : PySem.Str} {n : Nat} : (repS n x).length = x.length * n := by
  show ((List.replicate n x.cps).foldl (· ++ ·) #[]).size = x.cps.size * n
  rw [size_fold]
  simp
def CMulS (x : PySem.Str) (n : Int) : Prop := 1 < n ∧ n ≤ 100000 ∧ x.length ≠ 0 ∧ x.length * n.toNat ≤ lim
instance {x n} : Decidable (CMulS x n) := by unfold CMulS; infer_instance
theorem op_mulS : OpR X (binaryOp .Mult) (fun x y H Q => ∃ z n, x = .str z ∧ y = .int n ∧ CMulS z n ∧ Q (.str (repS n.toNat z)) H) := by
  intro pins s σ H x y v u Q I rx ry h
  obtain ⟨z, n, rfl, rfl, ⟨h1, h2, h3, h4⟩, q⟩ := h
  obtain ⟨t, rfl⟩ := rx
  obtain ⟨t', rfl⟩ := ry
  have n1 : ¬ n < 1 := by omega
  have hlen : z.length ≤ lim := by
    refine Nat.le_trans ?_ h4
    exact Nat.le_mul_of_pos_right _ (by omega)
  have hne : (n == 1 || z.length == 0) = false := by
    have e1 : (n == 1) = false := by rw [beq_eq_false_iff_ne]; omega
    have e2 : (z.length == 0) = false := by rw [beq_eq_false_iff_ne]; exact h3
    rw [e1, e2]; rfl
  have hl : PySem.Builtin.Str.tooLong (z.length * n.toNat) = false := by
    unfold PySem.Builtin.Str.tooLong
    have q := lim_le h4
    first
      | exact decide_eq_false (by omega)
      | simp only [decide_eq_false_iff_not]; omega
  refine PySem.P.mul_str (by
      have e1 : ¬ n < -(2 ^ 63 : Int) := by omega
      have e2 : ¬ n ≥ 2 ^ 63 := by omega
      rw [decide_eq_false e1, decide_eq_false e2]; rfl) (fun _ _ => ?_) (fun _ _ => hl) ?_
  · have e : ((2 : Int) ^ 63 - 1) / 100000 ≤ (2 ^ 63 - 1) / n := by
      refine Int.le_ediv_of_mul_le (by omega) ?_
      have : ((2 : Int) ^ 63 - 1) / 100000 * n ≤ ((2 : Int) ^ 63 - 1) / 100000 * 100000 := Int.mul_le_mul_of_nonneg_left h2 (by decide)
      exact Int.le_trans this (by decide)
    have e' : (1000000 : Int) ≤ (2 ^ 63 - 1) / 100000 := by decide
    unfold lim at hlen
    omega
  · rw [if_neg n1, if_neg (by rw [hne]; exact Bool.false_ne_true)]
    exact ⟨by show (repS n.toNat z).length ≤ _; rw [len_repS]; exact lim_le h4, .str (repS n.toNat z), H, I.tok _, ⟨_, rfl⟩, q⟩
def oMulS : Op2
  | .int i, .int j, st => if IntMulOk i j then .ok (.int (i * j)) st else .bad
  | .str z, .int n, st => if CMulS z n then .ok (.str (repS n.toNat z)) st else .bad
  | _, _, _ => .bad
theorem ow_mulS : OpW X (binaryOp .Mult) oMulS := ⟨_, OpR.or op_mulG op_mulS, fun x y a b st H m Q S rx ry p => by
  cases x with
  | int i =>
    cases y with
    | int j =>
      cases relInt rx; cases relInt ry
      have p' : PostO X.K m H (if IntMulOk i j then .ok (.int (i * j)) st else .bad) Q := p
      by_cases c : IntMulOk i j
      · rw [if_pos c] at p'; exact .inl ⟨i, j, rfl, rfl, c, p' _ m H Ext.refl S mkInt⟩
      · rw [if_neg c] at p'; exact False.elim p'
    | _ => exact False.elim p
  | str z =>
    cases y with
    | int n =>
      obtain ⟨rfl, hz⟩ := relStr rx
      cases relInt ry
      have p' : PostO X.K m H (if CMulS z n then .ok (.str (repS n.toNat z)) st else .bad) Q := p
      by_cases c : CMulS z n
      · rw [if_pos c] at p'; exact .inr ⟨z, n, rfl, rfl, c, p' _ m H Ext.refl S (mkStr (strOk_rep hz))⟩
      · rw [if_neg c] at p'; exact False.elim p'
    | _ => exact False.elim p
  | _ => exact False.elim p⟩
def gBad : GE := fun _ _ => .bad
def gBadT : GT := fun _ _ => .bad
theorem je_bad {e : Expr} : JE X e gBad := fun ρ st σ H m Q S R p => False.elim p
theorem jt_bad {e : Expr} : JT X e gBadT := fun ρ st σ H m Q S R p => False.elim p
end
def Has (P : Program) (w : World) (K : PySem.W.Frag) (mg : Str → Option Value) (base : Heap) (k : Nat) (x : Str) (n : Nat) (F : List Wv → Hs → Re Wv) : Prop :=
  ∃ f fd ps, FnOk P w K mg base (CXJ P w) k f fd ps (spW K n F) ∧ mg x = some (.ref f) ∧ PySem.W.keepIn K (.ref f) = true ∧ Binds K fd ps []
theorem Has.mono {P : Program} {w : World} {K : PySem.W.Frag} {mg : Str → Option Value} {base : Heap} {j k : Nat} {x : Str} {n : Nat} {F : List Wv → Hs → Re Wv} (h : Has P w K mg base j x n F) (l : j ≤ k) : Has P w K mg base k x n F := by
  obtain ⟨f, fd, ps, G, r⟩ := h
  exact ⟨f, fd, ps, G.mono l, r⟩
def DefAt (K : PySem.W.Frag) (x : Str) (st : Stmt) : Prop := ∃ f fd, PySem.W.nsIn K mainGlobals x = some (some (.ref f)) ∧ Fun K x x st f fd
theorem def_at {K : PySem.W.Frag} {x : Str} {st : Stmt} {f : Addr} {oc : Value} {od an : Option Addr} {osl : Array (Option Value)} {kV doc pm cdv ct : Value} (a : PySem.W.nsIn K mainGlobals x = some (some (.ref f)))
    (l : K.lookup f = some ⟨oc, od, .func (PySem.W.fnOf x x (defArgs st) (defBody st) (defScope st) .none kV doc pm an cdv ct), osl⟩) (c : PySem.W.codeIn K cdv x = true) (k : PySem.W.keepIn K (.ref f) = true) : DefAt K x st := ⟨f, _, a, fun_mk l c k⟩
theorem boot_isI : bootBuiltins "isinstance" = some (.builtin "isinstance") := by decide +kernel
theorem boot_lenJ : bootBuiltins "len" = some (.builtin "len") := by decide +kernel
theorem boot_tyI : bootBuiltins "int" = some (.type "int") := by decide +kernel
theorem boot_tyS : bootBuiltins "str" = some (.type "str") := by decide +kernel
theorem boot_tyB : bootBuiltins "bool" = some (.type "bool") := by decide +kernel
theorem boot_tyT : bootBuiltins "tuple" = some (.type "tuple") := by decide +kernel
theorem boot_tyL : bootBuiltins "list" = some (.type "list") := by decide +kernel
end J
namespace J
open PySem PySem.Spec PyProof.Rows L2
def forT (i : Nat) (gb : GS) : List Wv → Rho → Hs → Rs
  | [], ρ, st => .nx ρ st
  | w :: r, ρ, st => match gb (ρ.set i (some w)) st with
    | .nx ρ' st' => forT i gb r ρ' st'
    | .ct ρ' st' => forT i gb r ρ' st'
    | .bk ρ' st' => .nx ρ' st'
    | .rt w st' => .rt w st'
    | .err c ρ' st' => .err c ρ' st'
    | .bad => .bad
section
variable {X : Cx}
theorem for_core (i : Nat) {body : List Stmt} {gb : GS} (hb : JSs X body gb) {J' : It} {ws : List Wv} {m1 : Mp} {H1 : Hp} {st1 : Hs} {ρ : Rho} {σ : St} {D : Ends} (S1 : Sim X.K m1 st1 H1) (R : RelEnv X.K m1 H1 ρ σ) (p1 : PostS X m1 H1 (forT i gb ws ρ st1) D)
    (hgo : ∀ (k : Nat) (H : Hp) (m' : Mp), Ext X.K m1 H1 m' H → k < ws.length → J'.go k H) (hstop : ∀ (k : Nat) (H : Hp) (m' : Mp), Ext X.K m1 H1 m' H → k = ws.length → J'.stop k H)
    (hy : ∀ (k : Nat) (hk : k < ws.length) (H : Hp) (x : V) (H' : Hp) (m' : Mp), Ext X.K m1 H1 m' H → J'.yld k H x H' → H' = H ∧ RelW X.K m' H ws[k] x) :
    ∃ W : Nat → Nat → St → Hp → Prop, (∃ m, W 0 m σ H1) ∧ ∀ k n σ H, W k n σ H →
      (J'.stop k H ∧ D.nx σ H) ∨ (J'.go k H ∧ ∃ N : St → Hp → Prop, (∀ σ' H', N σ' H' → ∃ m', m' < n ∧ W (k + 1) m' σ' H') ∧ ∀ x H', J'.yld k H x H' → gName i x σ H' fun σ2 H2 => SSs X body { D with nx := N, ct := N, bk := D.nx } σ2 H2) := by
  let Pv : Nat → St → Hp → Prop := fun k σ H => ∃ ρ st m', Ext X.K m1 H1 m' H ∧ Sim X.K m' st H ∧ RelEnv X.K m' H ρ σ ∧ PostS X m' H (forT i gb (ws.drop k) ρ st) D
  refine ⟨fun k n σ H => n = ws.length - k ∧ k ≤ ws.length ∧ Pv k σ H, ⟨ws.length, by simp, Nat.zero_le _, ρ, st1, m1, Ext.refl, S1, R, p1⟩, ?_⟩
  rintro k n σ2 H2 ⟨rfl, hk, ρ2, st2, m2, e2, S2, R2, p2⟩
  by_cases hlt : k < ws.length
  · refine .inr ⟨hgo k H2 m2 e2 hlt, Pv (k + 1), fun σ' H' p' => ⟨ws.length - (k + 1), by omega, rfl, hlt, p'⟩, fun x H' y => ?_⟩
    obtain ⟨ee, rx'⟩ := hy k hlt H2 x H' m2 e2 y
    subst ee
    have ed : ws.drop k = ws[k] :: ws.drop (k + 1) := List.drop_eq_getElem_cons hlt
    rw [ed] at p2
    refine hb _ st2 _ _ m2 _ S2 (R2.set i rx') ?_
    unfold forT at p2
    cases eg : gb (ρ2.set i (some ws[k])) st2 with
    | nx ρ3 st3 => rw [eg] at p2; exact fun σ3 m3 H3 e3 S3 R3 => ⟨ρ3, st3, m3, e2.trans e3, S3, R3, PostS.shift p2 e3⟩
    | ct ρ3 st3 => rw [eg] at p2; exact fun σ3 m3 H3 e3 S3 R3 => ⟨ρ3, st3, m3, e2.trans e3, S3, R3, PostS.shift p2 e3⟩
    | bk ρ3 st3 => rw [eg] at p2; exact p2
    | rt w3 st3 => rw [eg] at p2; exact p2
    | err c3 ρ3 st3 => rw [eg] at p2; exact p2
    | bad => rw [eg] at p2; exact p2
  · have e : k = ws.length := by omega
    subst e
    rw [List.drop_length] at p2
    exact .inl ⟨hstop _ H2 m2 e2 rfl, p2 σ2 m2 H2 Ext.refl S2 R2⟩
def iSeq (K : PySem.W.Frag) (tl : TE) : TI := fun σ H R => tl σ H fun x H1 => ∃ a, x = .ref a ∧ (((∃ xs, SqL K H1 a xs) ∧ R (Itl K a) H1) ∨ ((∃ xs, SqT K H1 a xs) ∧ R (Itt K a) H1))
theorem pi_seq {tg l : Expr} {tl : TE} (hl : PE X l tl) : PI X tg l (iSeq X.K tl) := by
  intro pins s σ H R I h
  refine thn (hl pins s σ H _ I h) fun v s1 ⟨x, H1, I1, r1, q1⟩ => ?_
  obtain ⟨a, e, q1⟩ := q1
  subst e
  cases r1
  have frs : ∀ b ∈ [s1.heap.objs.size], FpOk X pins H1 b := fun b hb => by
    have e : b = s1.heap.objs.size := by simpa using hb
    subst e
    exact I1.fpOk (Nat.le_refl _) (I1.hok.fresh (Nat.le_refl _))
  rcases q1 with ⟨⟨xs, hq⟩, q⟩ | ⟨⟨xs, hq⟩, q⟩
  · obtain ⟨its, rv, p, hz⟩ := I1.list hq
    refine wpAny_pyIter_list p.isList ?_
    exact ⟨s1.heap.objs.size, [s1.heap.objs.size], _, _, H1, rfl, I1.kept (t' := s1.toks) fun b o e => Heap.get?_push_of_some _ e, turn_list a _, ⟨_, Heap.get?_push_size _ rfl, rfl, rfl⟩, frs, q⟩
  · obtain ⟨its, rv, p, hz⟩ := I1.tuple hq
    refine wpAny_pyIter_tuple (show s1.heap.IsTuple a its.toArray from p) ?_
    exact ⟨s1.heap.objs.size, [s1.heap.objs.size], _, _, H1, rfl, I1.kept (t' := s1.toks) fun b o e => Heap.get?_push_of_some _ e, turn_tuple a _, ⟨_, Heap.get?_push_size _ rfl, rfl, rfl⟩, frs, q⟩
noncomputable def gFor (i : Nat) (gi : GE) (gb : GS) : GS := fun ρ st => (gi ρ st).thn ρ fun w st1 => match w with
  | .ref l => (match lstOf st1 l with | some ws => forL i gb l ws ws ρ st1 | none => .bad)
  | .tup ws => forT i gb ws ρ st1
  | .ktp ws => forT i gb ws ρ st1
  | _ => .bad
theorem js_for (i : Nat) {x : Str} {iter : Expr} {body : List Stmt} {gi : GE} {gb : GS} {pos pos' : Pos} (hN : X.N.Nodup) (hp : PassesOwn (model X.prog X.w) X.A X.env X.xe) (hc : X.calm = true) (hi : JE X iter gi) (hb : JSs X body gb)
    (hx : X.N[i]? = some x) (hlo : Loc X.env.scope x) (hlf : X.fn x = true ∨ X.env.scope.names.lookup x = some .local)
    (hs : ∀ x, foldedSetIterable iter X.env x = pure x) : JS X (.For (.Name x pos') iter body [] pos) (gFor i gi gb) := by
  refine JS.of (ps_for hp hc (pi_seq pe_SE) (pg_name hN hx hlo hlf) pss_SSs hs) fun ρ st σ H m D S R p => ?_
  refine hi.go S R (PostS.of_thn R p) fun w st1 v m1 H1 p1 e1 S1 rw' => ?_
  cases w with
  | ref l =>
    have p1' : PostS X m H (match lstOf st1 l with | some ws => forL i gb l ws ws ρ st1 | none => .bad) D := p1
    unfold RelW at rw'
    obtain ⟨a, rfl, hla⟩ := rw'
    cases el : lstOf st1 l with
    | none => rw [el] at p1'; exact False.elim p1'
    | some ws =>
      rw [el] at p1'
      obtain ⟨xs0, q0, _⟩ := S1.read hla el
      refine ⟨a, rfl, .inl ⟨⟨xs0, q0⟩, ?_⟩⟩
      let Pv : Nat → St → Hp → Prop := fun k σ H => ∃ ρ st m', Ext X.K m1 H1 m' H ∧ Sim X.K m' st H ∧ RelEnv X.K m' H ρ σ ∧ lstOf st l = some ws ∧ PostS X m' H (forL i gb l ws (ws.drop k) ρ st) D
      refine ⟨fun k n σ H => n = ws.length - k ∧ k ≤ ws.length ∧ Pv k σ H, ⟨ws.length, by simp, Nat.zero_le _, ρ, st1, m1, Ext.refl, S1, R.mono e1, el, PostS.shift p1' e1⟩, ?_⟩
      rintro k n σ2 H2 ⟨rfl, hk, ρ2, st2, m2, e2, S2, R2, l2, p2⟩
      obtain ⟨xs, hq, rws⟩ := S2.read (e2.pre _ _ hla) l2
      have hlen := rws.length
      by_cases hlt : k < ws.length
      · have hx' : k < xs.length := by omega
        refine .inr ⟨⟨xs, xs[k], hq, by simp [hx']⟩, Pv (k + 1), fun σ' H' p' => ⟨ws.length - (k + 1), by omega, rfl, hlt, p'⟩, fun x H' y => ?_⟩
        obtain ⟨ee, y⟩ := y
        subst ee
        have ey := y xs hq
        have ed : ws.drop k = ws[k] :: ws.drop (k + 1) := List.drop_eq_getElem_cons hlt
        obtain ⟨x', ex', rx'⟩ := rws.get (i := k) (w := ws[k]) (List.getElem?_eq_getElem hlt)
        rw [ey] at ex'
        cases ex'
        rw [ed] at p2
        refine hb _ st2 _ _ m2 _ S2 (R2.set i rx') ?_
        unfold forL at p2
        cases eg : gb (ρ2.set i (some ws[k])) st2 with
        | nx ρ3 st3 =>
          rw [eg] at p2
          by_cases c : lstOf st3 l = some ws
          · simp only [if_pos c] at p2
            exact fun σ3 m3 H3 e3 S3 R3 => ⟨ρ3, st3, m3, e2.trans e3, S3, R3, c, PostS.shift p2 e3⟩
          · simp only [if_neg c] at p2; exact False.elim p2
        | ct ρ3 st3 =>
          rw [eg] at p2
          by_cases c : lstOf st3 l = some ws
          · simp only [if_pos c] at p2
            exact fun σ3 m3 H3 e3 S3 R3 => ⟨ρ3, st3, m3, e2.trans e3, S3, R3, c, PostS.shift p2 e3⟩
          · simp only [if_neg c] at p2; exact False.elim p2
        | bk ρ3 st3 => rw [eg] at p2; exact p2
        | rt w3 st3 => rw [eg] at p2; exact p2
        | err c3 ρ3 st3 => rw [eg] at p2; exact p2
        | bad => rw [eg] at p2; exact p2
      · have e : k = ws.length := by omega
        subst e
        rw [List.drop_length] at p2
        exact .inl ⟨⟨xs, hq, by omega⟩, p2 σ2 m2 H2 Ext.refl S2 R2⟩
  | tup ws =>
    unfold RelW at rw'
    obtain ⟨a, xs, rfl, hq, rws⟩ := rw'
    have hlen := rws.length
    refine ⟨a, rfl, .inr ⟨⟨xs, SqT.of hq⟩, ?_⟩⟩
    refine for_core i hb (ws := ws) S1 (R.mono e1) (PostS.shift p1 e1) (fun k H m' e hk => ?_) (fun k H m' e hk => ?_) fun k hk H x H' m' e y => ?_
    · have hx' : k < xs.length := by omega
      exact ⟨xs, xs[k], SqT.of (e.tup _ _ hq), by simp [hx']⟩
    · exact ⟨xs, SqT.of (e.tup _ _ hq), by omega⟩
    · obtain ⟨ee, y⟩ := y
      refine ⟨ee, ?_⟩
      obtain ⟨x', ex', rx'⟩ := (RelWs.mono e _ _ rws).get (i := k) (w := ws[k]) (List.getElem?_eq_getElem hk)
      rw [y xs (SqT.of (e.tup _ _ hq))] at ex'
      cases ex'
      exact rx'
  | ktp ws =>
    unfold RelW at rw'
    obtain ⟨a, xs, rfl, hq, rws⟩ := rw'
    have hlen := rws.length
    refine ⟨a, rfl, .inr ⟨⟨xs, .inr hq⟩, ?_⟩⟩
    refine for_core i hb (ws := ws) S1 (R.mono e1) (PostS.shift p1 e1) (fun k H m' e hk => ?_) (fun k H m' e hk => ?_) fun k hk H x H' m' e y => ?_
    · have hx' : k < xs.length := by omega
      exact ⟨xs, xs[k], .inr hq, by simp [hx']⟩
    · exact ⟨xs, .inr hq, by omega⟩
    · obtain ⟨ee, y⟩ := y
      refine ⟨ee, ?_⟩
      obtain ⟨x', ex', rx'⟩ := (RelWs.mono e _ _ rws).get (i := k) (w := ws[k]) (List.getElem?_eq_getElem hk)
      rw [y xs (.inr hq)] at ex'
      cases ex'
      exact rx'
  | _ => exact False.elim p1
def rngW (lo : Int) (n : Nat) : List Wv := (List.range n).map fun k : Nat => Wv.int (lo + k)
theorem rngW_get? {lo : Int} {n k : Nat} (h : k < n) : (rngW lo n)[k]? = some (.int (lo + k)) := by
  unfold rngW
  rw [List.getElem?_map, List.getElem?_range h]
  rfl
theorem rngW_get {lo : Int} {n k : Nat} (h : k < (rngW lo n).length) : (rngW lo n)[k] = .int (lo + k) := by
  have q := rngW_get? (lo := lo) (n := n) (k := k) (by unfold rngW at h; simpa using h)
  rw [List.getElem?_eq_getElem h] at q
  exact Option.some.inj q
theorem rngW_len {lo : Int} {n : Nat} : (rngW lo n).length = n := by unfold rngW; simp
def CRng (i : Int) : Prop := -(2 ^ 62) ≤ i ∧ i < 2 ^ 62
noncomputable instance {i} : Decidable (CRng i) := Classical.propDecidable _
noncomputable def gForR1 (i : Nat) (ga : GA) (gb : GS) : GS := fun ρ st => (ga ρ st).thn ρ fun ws st1 => match ws with
  | [.int j] => if CRng j then forT i gb (rngW 0 j.toNat) ρ st1 else .bad
  | _ => .bad
theorem for_rng (i : Nat) {body : List Stmt} {gb : GS} (hb : JSs X body gb) {lo : Int} {n : Nat} {m1 : Mp} {H1 : Hp} {st1 : Hs} {ρ : Rho} {σ : St} {D : Ends} (S1 : Sim X.K m1 st1 H1) (R : RelEnv X.K m1 H1 ρ σ) (p1 : PostS X m1 H1 (forT i gb (rngW lo n) ρ st1) D) :
    ∃ W : Nat → Nat → St → Hp → Prop, (∃ m, W 0 m σ H1) ∧ ∀ k n' σ H, W k n' σ H →
      ((Itr lo n).stop k H ∧ D.nx σ H) ∨ ((Itr lo n).go k H ∧ ∃ N : St → Hp → Prop, (∀ σ' H', N σ' H' → ∃ m', m' < n' ∧ W (k + 1) m' σ' H') ∧ ∀ x H', (Itr lo n).yld k H x H' → gName i x σ H' fun σ2 H2 => SSs X body { D with nx := N, ct := N, bk := D.nx } σ2 H2) :=
  for_core i hb S1 R p1 (fun k H m' e hk => by rw [rngW_len] at hk; exact hk) (fun k H m' e hk => by rw [rngW_len] at hk; exact Nat.le_of_eq hk.symm) fun k hk H x H' m' e y => by
    obtain ⟨y1, y2⟩ := y
    refine ⟨y1, ?_⟩
    rw [rngW_get, y2]
    exact mkInt
theorem js_forR1 (i : Nat) {x : Str} {a : Expr} {body : List Stmt} {ga : GA} {gb : GS} {pos pos' p q : Pos} (hN : X.N.Nodup) (hp : PassesOwn (model X.prog X.w) X.A X.env X.xe) (hc : X.calm = true) (hg : Gl X "range") (hm : X.mg "range" = none) (ha : JA X [a] ga) (hb : JSs X body gb)
    (hx : X.N[i]? = some x) (hlo : Loc X.env.scope x) (hlf : X.fn x = true ∨ X.env.scope.names.lookup x = some .local) (hst : starEach [a] X.env = [(false, eval a X.env)]) : JS X (.For (.Name x pos') (.Call (.Name "range" p) [a] [] q) body [] pos) (gForR1 i ga gb) := by
  refine JS.of (ps_for hp hc (pi_range1 hg hm pa_SA hst) (pg_name hN hx hlo hlf) pss_SSs (fun _ => rfl)) fun ρ st σ H m D S R p => ?_
  refine ha.go S R (PostS.of_thn R p) fun ws st1 vs m1 H1 p1 e1 S1 rs => ?_
  match ws, rs, p1 with
  | [], rs, p1 => exact False.elim p1
  | x :: y :: t, rs, p1 => cases x <;> exact False.elim p1
  | [x], rs, p1 =>
    obtain ⟨v, rfl, r1⟩ := rel1 rs
    cases x with
    | int j =>
      cases relInt r1
      have p2 : PostS X m H (if CRng j then forT i gb (rngW 0 j.toNat) ρ st1 else .bad) D := p1
      by_cases c : CRng j
      · rw [if_pos c] at p2
        exact ⟨j, rfl, c.1, c.2, for_rng i hb S1 (R.mono e1) (PostS.shift p2 e1)⟩
      · rw [if_neg c] at p2; exact False.elim p2
    | _ => exact False.elim p1
theorem js_retN {pos : Pos} : JS X (.Return none pos) (gRet (gC .non)) := JS.of ps_retN fun ρ st σ H m D S R p => p .non m H Ext.refl S mkNon
end
end J
namespace J
open PySem PySem.Spec PyProof.Rows L2
abbrev bmV : List Value := [.type "ValueError", .type "Exception", .type "BaseException", .type "object"]
abbrev nwV : String := "ValueError.__new__"
structure ExcC (K : PySem.W.Frag) (c : PySem.Str) (C : Addr) : Prop where
  cls : ClsAt K c C
  exc : PySem.W.excIn K C bmV nwV = true
theorem exc_obj {K : PySem.W.Frag} {h : Heap} {C : Addr} (KX : K.In h) (q : PySem.W.excIn K C bmV nwV = true) :
    ∃ (bm : List Value) (N : Addr) (nm qn : Str) (bs : List Value) (hd : Bool) (sn : List Str) (sub : List Value) (ab : Bool) (col : Option Bool) (dd : Option Addr) (k0 k1 k2 k3 k5 : Option Value) (mN : Str → Option Value),
      h.get? C = some (excClassObj nm qn C N bs bm hd sn sub ab col dd k0 k1 k2 k3 k5 nwV) ∧ h.Ns N mN ∧ mN "__init__" = none ∧ OwnTail h bmV bm ∧ (∀ v r, PySem.W.mroIn K C v = some r → (Value.ref C :: bm).contains v = r) := by
  unfold PySem.W.excIn at q
  split at q
  · rename_i dd cd sl lk
    split at q
    · rename_i C1 bm k0 k1 k2 k3 n1 k5 em es
      simp only [Bool.and_eq_true, beq_iff_eq, Bool.not_eq_true'] at q
      obtain ⟨⟨⟨⟨⟨q1, q2⟩, q3⟩, q4⟩, q5⟩, q6⟩ := q
      subst q1 q2
      obtain ⟨nm, bs, mro, N, qn, hd, sn, sub, ab, col, del⟩ := cd
      dsimp only at em q3 q5 q6
      subst em q3
      have esl : sl = #[k0, k1, k2, k3, some (.builtin nwV), k5] := by
        cases sl with
        | mk l => exact congrArg Array.mk es
      subst esl
      refine ⟨bm, N, nm, qn, bs, hd, sn, sub, ab, col, dd, k0, k1, k2, k3, k5, _, KX _ _ lk, .of_isNs (PySem.W.isNs_of_in KX q5), PySem.W.nsMap_none_of_in KX q5 q6, PySem.W.tail_of_in KX q4, fun v r e => ?_⟩
      unfold PySem.W.mroIn PySem.W.clsIn at e
      rw [lk] at e
      first
        | exact Option.some.inj e
        | (simp at e; exact e)
    · cases q
  · cases q
section
variable {X : Cx}
end
end J
namespace J
open PySem PySem.Spec PyProof.Rows L2
structure ExcK (K : PySem.W.Frag) (C : Addr) : Prop where
  exc : PySem.W.excIn K C bmV nwV = true
  ga : PySem.W.findIn K (.ref C) "__getattribute__" = some (some (.builtin "BaseException.__getattribute__"))
  gx : PySem.W.findIn K (.ref C) "__getattr__" = some none
  cl : PySem.W.findIn K (.ref C) "__class__" = some (some (.builtin "object.__class__"))
section
variable {prog : Program} {w : World} {A : Around} {E : Value → Shared → Prop} {h : Heap} {g : Array GenState} {d : Drawn} {t : Nat} {os : OsState} {a C : Addr} {o : Obj} {K : PySem.W.Frag}
theorem xc_get {R : Result → Shared → Prop} (Y : K.In h) (Z : ExcK K C) (ha : h.get? a = some o) (hc : o.cls = .ref C) (k : R (.ok (.ret (.ref C))) ⟨h, g, d, t, os⟩) :
    codeAny (model prog w) A (.call (.builtin "getset_descriptor.__get__") ⟨[.builtin "object.__class__", .ref a, .ref C], []⟩) R ⟨h, g, d, t, os⟩ := by
  obtain ⟨bm, N, nm, qn, bs, hdd, sn, sub, ab, col, dd, k0, k1, k2, k3, k5, mN, hC, hN, hni, T, _⟩ := exc_obj Y Z.exc
  have ty : (⟨h, g, d, t, os⟩ : Shared).TypeIs (.builtin "object.__class__") "getset_descriptor" := F.typeOf_object_class
  have own : (Value.ref C :: bm).contains (.type (".".intercalate ("object.__class__".cutAt '.').dropLast)) = true := by
    rw [F.owner_object_class, List.contains_cons, T.hasType (X := "object") (b := true) (by decide)]; rfl
  refine codeAny_call_builtin F.slot_gs_get.plain F.entry_gs_get (F.slot_gs_get.check _ _ _ _ _ _ _ _ ty (F.args_gs_get _ _ _) ?_)
  repeat (any_goals (first | assumption | (with_reducible refine wpAny_loadPart_at ha ?_; rw [hc]) | (with_reducible refine wpAny_isSubtype_exc hC ?_; rw [own]) | wp_step))
  refine ⟨Code.quiet_builtin _ (by decide +kernel), codeAny_builtin F.entry_object_class ?_⟩
  repeat (any_goals (first | assumption | (with_reducible refine wpAny_loadPart_at ha ?_; rw [hc]) | wp_step))
theorem xc_entry {tk : Tok} {Q : Fin → Shared → Prop} (Y : K.In h) (Z : ExcK K C) (ha : h.get? a = some o) (hc : o.cls = .ref C) (k : Q (.done (.ret (.ref C))) ⟨h, g, d, t, os⟩) :
    wpAny (model prog w) A (Builtin.«object.__getattribute__» ⟨[.ref a, .str "__class__" tk], []⟩) Q E ⟨h, g, d, t, os⟩ := by
  have ty : (⟨h, g, d, t, os⟩ : Shared).TypeIs (.builtin "object.__class__") "getset_descriptor" := F.typeOf_object_class
  have t1 := F.typeOf_object_class
  have t2 := F.slot_gs_get.lookup
  have t3 := F.slot_gs_set.lookup
  have L := PySem.W.looks_findIn (M := model prog w) Y Z.cl
  repeat (any_goals (first | assumption | (with_reducible refine wpAny_loadPart_at ha ?_; rw [hc]) | with_reducible refine L.at ?_ | wp_step))
  refine xc_get Y Z ha hc ?_
  repeat (any_goals (first | assumption | wp_step))
theorem xc_check {M : Model} {nv : Value} {Q : Unit → Shared → Prop} (Y : K.In h) (Z : ExcK K C) (ha : h.get? a = some o) (hc : o.cls = .ref C) (k : Q () ⟨h, g, d, t, os⟩) :
    wpAny M A (checkBuiltinCall "BaseException.__getattribute__" ⟨[.ref a, nv], []⟩) Q E ⟨h, g, d, t, os⟩ := by
  obtain ⟨bm, N, nm, qn, bs, hdd, sn, sub, ab, col, dd, k0, k1, k2, k3, k5, mN, hC, hN, hni, T, _⟩ := exc_obj Y Z.exc
  have u1 : builtinKind "BaseException.__getattribute__" = some .slot := by decide +kernel
  have u2 : splitId "BaseException.__getattribute__" = some ("BaseException", "__getattribute__") := by decide +kernel
  have u3 : (Value.ref C :: bm).contains (.type "BaseException") = true := by rw [List.contains_cons, T.hasType (X := "BaseException") (b := true) (by decide)]; rfl
  have u4 := F.args_bexc_ga (.ref a) nv
  simp only [checkBuiltinCall, u1, u2]
  refine wpAny_bind ?_
  unfold isInstance
  repeat (first | (with_reducible refine wpAny_loadPart_at ha ?_; rw [hc]) | (with_reducible refine wpAny_isSubtype_exc hC ?_; rw [u3]) | wp_step)
  exact k
theorem xc_by {tk : Tok} {Q : Value → Shared → Prop} (Y : K.In h) (Z : ExcK K C) (ha : h.get? a = some o) (hc : o.cls = .ref C) (k : Q (.ref C) ⟨h, g, d, t, os⟩) :
    wpAny (model prog w) A (getAttrBy (.ref a) (.str "__class__" tk) false) Q E ⟨h, g, d, t, os⟩ := by
  have v1 := F.excAttr_ValueError.ga.bind (.ref a)
  have v2 : (Value.builtin "BaseException.__getattribute__" == Value.builtin "object.__getattribute__") = false := by decide +kernel
  have v3 : (onTheHeap (Value.ref C) && Value.builtin "BaseException.__getattribute__" == Value.builtin "object.__getattribute__") = false := by rw [v2]; rfl
  have v4 : (false && onTheHeap (Value.builtin "BaseException.__getattribute__")) = false := rfl
  have L1 := PySem.W.looks_findIn (M := model prog w) Y Z.ga
  have L2 := PySem.W.looks_findIn (M := model prog w) Y Z.gx
  repeat (any_goals (first | assumption | (with_reducible refine wpAny_loadPart_at ha ?_; rw [hc]) | with_reducible refine L1.at ?_ | with_reducible refine L2.at ?_ | wp_step))
  refine codeAny_call_builtin F.excAttr_ValueError.ga.plain F.entry_bexc_ga (xc_check Y Z ha hc (xc_entry Y Z ha hc ?_))
  repeat (any_goals (first | assumption | wp_step))
theorem xc_attr {Q : Option Value → Shared → Prop} (Y : K.In h) (Z : ExcK K C) (ha : h.get? a = some o) (hc : o.cls = .ref C) (k : Q (some (.ref C)) ⟨h, g, d, t + 1, os⟩) :
    wpAny (model prog w) A (getAttr? (.ref a) "__class__") Q E ⟨h, g, d, t, os⟩ := by
  unfold getAttr? getAttrBy?
  repeat (any_goals (first | assumption | with_reducible apply xc_by Y Z ha hc | wp_step))
end
end J
namespace J
open PySem PySem.Spec PyProof.Rows L2
structure Stk (X : Cx) : Prop where
  st : X.stack = X.env :: X.outer
  fr : X.env.frame = some X.env.locals
  ex : X.ex = []
section
variable {X : Cx} {pins : List (Addr × Obj)} {σ : St} {Hc H' : Hp} {sc s' : Shared} {B h2 : Heap} {a C : Addr} {a0 : Value}
end
end J
namespace J
open PySem PySem.Spec PyProof.Rows L2
theorem kitx_exn {K : PySem.W.Frag} {a C : Addr} (Z : ExcK K C) : PySem.W.KitX K (.ref a) (.ref C) (ExnAt a C) where
  ty := fun M h _ p => by
    obtain ⟨o, h1, h2, _⟩ := p
    rw [← h2]
    exact (PySem.W.Looks.ld h1).andThen .now
  it := fun M h Y _ => by
    obtain ⟨bm, N, nm, qn, bs, hdd, sn, sub, ab, col, dd, k0, k1, k2, k3, k5, mN, hC, _⟩ := exc_obj Y Z.exc
    intro A' Q' E' s' k q
    unfold isType loadHead
    exact wpAny_bind (wpAny_loadPart (k _ _ hC) (wpAny_pure q))
  ne := fun h tp dd its n sl Y e => by
    obtain ⟨bm, N, nm, qn, bs, hdd, sn, sub, ab, col, dd', k0, k1, k2, k3, k5, mN, hC, _⟩ := exc_obj Y Z.exc
    refine Bool.eq_false_iff.mpr fun q => ?_
    have z : C = tp := Value.ref.inj (beq_iff_eq.mp q)
    subst z
    rw [hC] at e
    have z2 : Value.type "type" = Value.type "tuple" := congrArg Obj.cls (Option.some.inj e)
    exact absurd z2 (by decide)
  ca := fun {prog w A E Q s} Y p k => by
    obtain ⟨o, h1, h2, _⟩ := p
    obtain ⟨h, g, d, t, os⟩ := s
    exact xc_attr Y Z h1 h2 k
abbrev Tab := List ((PySem.Str × PySem.Str) × Bool)
abbrev TabT := List ((PySem.Str × String) × Bool)
structure TabOk (K : PySem.W.Frag) (tb : Tab) (tt : TabT) (tc : Tab) : Prop where
  own : ∀ c d b C D, tb.lookup (c, d) = some b → ClsAt K c C → ClsAt K d D → ExcK K C ∧ PySem.W.kitOne K (.ref C) (.ref D) = some b
  cat : ∀ c d b C D, tc.lookup (c, d) = some b → ClsAt K c C → ClsAt K d D → PySem.W.excIn K C bmV nwV = true ∧ PySem.W.excIn K D bmV nwV = true ∧ PySem.W.mroIn K C (.ref D) = some b
  typ : ∀ c T b C, tt.lookup (c, T) = some b → ClsAt K c C → ExcK K C ∧ PySem.W.kitOne K (.ref C) (.type T) = some b
def anyTab (tb : Tab) (c : PySem.Str) : List Wv → Option Bool
  | [] => some false
  | .cls d :: r => (match tb.lookup (c, d) with
    | some true => some true
    | some false => anyTab tb c r
    | none => none)
  | _ => none
theorem anyTab_ok {K : PySem.W.Frag} {m : Mp} {H : Hp} {tb : Tab} {tt : TabT} {tc : Tab} (O : TabOk K tb tt tc) {c : PySem.Str} {C : Addr} (hC : ClsAt K c C) : ∀ {ds : List Wv} {vs : List V} {its : List Value} {b : Bool}, RelWs K m H ds vs → Vals vs its → anyTab tb c ds = some b → PySem.W.kitAny K (.ref C) its = some b
  | [], vs, its, b, r, v, e => by
    unfold RelWs at r
    subst r
    cases v
    cases e
    rfl
  | w :: ds, vs, its, b, r, v, e => by
    unfold RelWs at r
    obtain ⟨x, t, rfl, r1, r2⟩ := r
    cases v with
    | cons h1 h2 =>
      cases w with
      | cls d =>
        unfold RelW at r1
        obtain ⟨D, rfl, hD⟩ := r1
        cases h1
        unfold anyTab at e
        unfold PySem.W.kitAny
        cases q : tb.lookup (c, d) with
        | none => rw [q] at e; cases e
        | some k =>
          rw [q] at e
          obtain ⟨_, z3⟩ := O.own c d k C D q hC hD
          rw [z3]
          cases k with
          | true => cases e; rfl
          | false => exact anyTab_ok O hC r2 h2 e
      | _ => cases e
def oIsA (tb : Tab) (tt : TabT) : List Wv → Hs → Re Wv
  | [.exn c, .cls d], st => (match tb.lookup (c, d) with | some b => .ok (.bl b) st | none => .bad)
  | [.exn c, .ty T], st => (match tt.lookup (c, T) with | some b => .ok (.bl b) st | none => .bad)
  | [.exn c, .tup (.cls d :: ds)], st => (match anyTab tb c (.cls d :: ds) with | some b => .ok (.bl b) st | none => .bad)
  | ws, st => oIsI ws st
section
variable {X : Cx}
theorem call_isA : CallR X (.builtin "isinstance") (fun vs H Q => ∃ a C v c b, vs = [.ref a, v] ∧ H a = some (.ext (ExnAt a C)) ∧ ExcK X.K C ∧ RelV v c ∧ PySem.W.kitOne X.K (.ref C) c = some b ∧ Q (.bl b) H) := by
  intro pins s σ H xs us Q I r h
  obtain ⟨a, C, v, c, b, rfl, ha, Z, rc, e, q⟩ := h
  obtain ⟨u, u', rfl, r1, r2⟩ := vals2 r
  cases r1
  have uc : u' = c := by
    cases v with
    | int i => obtain ⟨t, rfl⟩ := rc; cases e
    | str i => obtain ⟨t, rfl⟩ := rc; cases e
    | byt i => obtain ⟨t, rfl⟩ := rc; cases e
    | flt i => obtain ⟨t, rfl⟩ := rc; cases e
    | non => cases rc; cases r2; rfl
    | bl i => cases rc; cases r2; rfl
    | ref i => cases rc; cases r2; rfl
    | ty i => cases rc; cases r2; rfl
  subst uc
  exact PySem.W.kia_one (kitx_exn Z) I.kIn (I.hok a _ ha).1 e (by intro z; cases z) fun tk => ⟨.bl b, H, I.tok tk, rfl, q⟩
theorem call_isAT : CallR X (.builtin "isinstance") (fun vs H Q => ∃ a C p xs b, vs = [.ref a, .ref p] ∧ H a = some (.ext (ExnAt a C)) ∧ ExcK X.K C ∧ SqT X.K H p xs ∧ (∀ its, Vals xs its → PySem.W.kitAny X.K (.ref C) its = some b) ∧ Q (.bl b) H) := by
  intro pins s σ H xs us Q I r h
  obtain ⟨a, C, p, ys, b, rfl, ha, Z, hT, e, q⟩ := h
  obtain ⟨u, u', rfl, r1, r2⟩ := vals2 r
  cases r1
  cases r2
  obtain ⟨its, rv, ⟨o, g1, g2, n, g3⟩, z⟩ := I.tuple hT
  obtain ⟨oc, od, oda, osl⟩ := o
  cases g2
  cases g3
  exact PySem.W.kia_tup (kitx_exn Z) I.kIn (I.hok a _ ha).1 g1 (e its rv) (by intro z; cases z) fun tk => ⟨.bl b, H, I.tok tk, rfl, q⟩
theorem cw_isA {tb : Tab} {tt : TabT} {tc : Tab} (O : TabOk X.K tb tt tc) : CallW X (.builtin "isinstance") (oIsA tb tt) := by
  obtain ⟨r, h1, h2⟩ := cw_isI (X := X)
  refine ⟨_, call_isA.or (call_isAT.or h1), fun ws vs st H m Q S rs p => ?_⟩
  unfold oIsA at p
  split at p
  · rename_i _ c d
    cases e : tb.lookup (c, d) with
    | none => rw [e] at p; exact False.elim p
    | some b =>
      rw [e] at p
      obtain ⟨v, v', rfl, r1, r2⟩ := rel2 rs
      unfold RelW at r1 r2
      obtain ⟨a, C, rfl, hC, ha⟩ := r1
      obtain ⟨D, rfl, hD⟩ := r2
      obtain ⟨z1, z3⟩ := O.own c d b C D e hC hD
      exact .inl ⟨a, C, .ref D, .ref D, b, rfl, ha, z1, rfl, z3, p _ m H Ext.refl S mkBl⟩
  · rename_i _ c T
    cases e : tt.lookup (c, T) with
    | none => rw [e] at p; exact False.elim p
    | some b =>
      rw [e] at p
      obtain ⟨v, v', rfl, r1, r2⟩ := rel2 rs
      unfold RelW at r1 r2
      obtain ⟨a, C, rfl, hC, ha⟩ := r1
      subst r2
      obtain ⟨z1, z3⟩ := O.typ c T b C e hC
      exact .inl ⟨a, C, .ty T, .type T, b, rfl, ha, z1, rfl, z3, p _ m H Ext.refl S mkBl⟩
  · rename_i _ c d ds
    cases e : anyTab tb c (.cls d :: ds) with
    | none => rw [e] at p; exact False.elim p
    | some b =>
      rw [e] at p
      obtain ⟨v, v', rfl, r1, r2⟩ := rel2 rs
      unfold RelW at r1
      obtain ⟨a, C, rfl, hC, ha⟩ := r1
      have r2' := r2
      unfold RelW at r2'
      obtain ⟨t, xs, rfl, hT, rx⟩ := r2'
      have Z : ExcK X.K C := by
        have rx' := rx
        unfold RelWs at rx'
        obtain ⟨x, r, _, rd, _⟩ := rx'
        unfold RelW at rd
        obtain ⟨D, _, hD⟩ := rd
        unfold anyTab at e
        cases q : tb.lookup (c, d) with
        | none => rw [q] at e; cases e
        | some k => exact (O.own c d k C D q hC hD).1
      exact .inr (.inl ⟨a, C, t, xs, b, rfl, ha, Z, SqT.of hT, fun its hv => anyTab_ok O hC rx hv e, p _ m H Ext.refl S mkBl⟩)
  · exact .inr (.inr (h2 ws vs st H m Q S rs p))
end
section
variable {X : Cx} {pins : List (Addr × Obj)} {σ : St} {H : Hp} {s : Shared}
abbrev reX (X : Cx) (A' : Around) (cm : Bool) (pn : List (Addr × Obj)) (E : Value → Shared → Prop) : Cx := { X with A := A', calm := cm, pn := pn, xe := E }
end
end J
namespace J
open PySem PySem.Spec PyProof.Rows L2
section
variable {X : Cx}
end
end J
namespace J
open PySem PySem.Spec PyProof.Rows L2
section
variable {X : Cx}
def oStr : List Wv → Hs → Re Wv
  | [.int i], st => if i.natAbs.log2 < 1920 then .ok (.str (toString i : String)) st else .bad
  | _, _ => .bad
def mApp (o v : Wv) (st : Hs) : Re Wv := match o with
  | .ref l => (match st[l]? with
    | some (.lst ws) => if ws.length < lim then .ok .non (st.set l (.lst (ws ++ [v]))) else .bad
    | _ => .bad)
  | _ => .bad
def gMeth (mt : Wv → Wv → Hs → Re Wv) (go ga : GE) : GE := fun ρ st => (go ρ st).bind fun o st1 => match o with
  | .ref l => (match lstOf st1 l with
    | some _ => (ga ρ st1).bind fun v st2 => (mt o v st2).nox
    | none => .bad)
  | _ => .bad
def MtW (X : Cx) (id : String) (mt : Wv → Wv → Hs → Re Wv) : Prop := ∃ r, MtR X id r ∧ ∀ (o w : Wv) (x v : V) (st : Hs) (H : Hp) (m : Mp) (Q : VK), Sim X.K m st H → RelW X.K m H o x → RelW X.K m H w v → PostO X.K m H (mt o w st) Q → r x [v] H Q
theorem mw_app : MtW X "list.append" mApp := ⟨_, mt_append, fun o w x v st H m Q S ro rw' p => by
  cases o with
  | ref l =>
    unfold RelW at ro
    obtain ⟨a, rfl, ha⟩ := ro
    have p' : PostO X.K m H (match st[l]? with | some (.lst ws) => if ws.length < lim then .ok .non (st.set l (.lst (ws ++ [w]))) else .bad | _ => .bad) Q := p
    cases e : st[l]? with
    | none => rw [e] at p'; exact False.elim p'
    | some ob =>
      cases ob with
      | dct kvs => rw [e] at p'; exact False.elim p'
      | dcT kvs => rw [e] at p'; exact False.elim p'
      | scr ns => rw [e] at p'; exact False.elim p'
      | lst ws =>
        rw [e] at p'
        dsimp only at p'
        by_cases c : ws.length < lim
        · rw [if_pos c] at p'
          obtain ⟨xs, h1, h2⟩ := S.lstAt ha e
          have e4 : Ext X.K m H m (upd H a (.lst (xs ++ [v]))) := Ext.upd (.inr ⟨xs, h1⟩)
          exact ⟨a, xs, v, rfl, rfl, h1, by rw [← h2.length]; exact lim_lt c, p' _ m _ e4 (S.write ha e (h2.append (RelWs.cons rw' RelWs.nil))) mkNon⟩
        · rw [if_neg c] at p'; exact False.elim p'
  | _ => exact False.elim p⟩
theorem je_meth {x name : Str} {id : String} {e : Expr} {go ga : GE} {p apos cpos : Pos} {mt : Wv → Wv → Hs → Re Wv} (hm : MtW X id mt) (slot : Slot "list" name id) (hty : typeOf (.builtin id) = pure (.type "method_descriptor")) (ho : JE X (.Name x p) go) (ha : JE X e ga)
    (hst : starEach [e] X.env = [(false, eval e X.env)]) (hline : (apos.endLine == cpos.line) = true) : JE X (.Call (.Attribute (.Name x p) name apos) [e] [] cpos) (gMeth mt go ga) := by
  obtain ⟨r, h1, h2⟩ := hm
  have hfew : ((backTo cpos (starEach [e] X.env)).all (fun x => !x.1) && (backToKw cpos (keywordEach [] X.env)).all (fun x => x.1.isSome) && decide ([e].length + ([] : List Keyword).length + (if ([] : List Keyword).isEmpty then 0 else 1) < 30)) = true := by
    rw [hst]; rfl
  refine JE.of (pe_bm PySem.F.plainAttrs_list slot hty h1 pe_SE pa_SA rfl hfew hline hst rfl) fun ρ st σ H m Q S R p => ?_
  refine ho.go S R (PostG.bind p) fun o st1 v m1 H1 p1 e1 S1 ro => ?_
  cases o with
  | ref l =>
    dsimp only at p1
    cases el : lstOf st1 l with
    | none => rw [el] at p1; exact False.elim p1
    | some ws0 =>
      rw [el] at p1
      dsimp only at p1
      have ro' := ro
      unfold RelW at ro'
      obtain ⟨a, rfl, hla⟩ := ro'
      obtain ⟨xs, hq, _⟩ := S1.read hla el
      refine ⟨.inl ⟨rfl, xs, hq⟩, ?_⟩
      refine (ja_cons ha ja_nil hst).go S1 (R.mono e1) (ok := fun ws st2 => PostG X σ m H (match ws with | [w] => (mt (.ref l) w st2).nox | _ => .bad) (okE X.K m H Q)) ?_ fun ws st2 vs m2 H2 p2 e2 S2 rs => ?_
      · have p3 := (PostG.bind p1).imp e1 (fun _ _ q => q)
        show PostG X σ m1 H1 ((ga ρ st1).bind fun x st1 => (gNil ρ st1).bind fun xs st2 => .ok (x :: xs) st2) _
        cases eg : ga ρ st1 with
        | ok w st2 => rw [eg] at p3; exact p3
        | err c st2 => rw [eg] at p3; exact p3
        | bad => rw [eg] at p3; exact p3
      · match ws, rs, p2 with
        | [], rs, p2 => exact False.elim p2
        | [w], rs, p2 =>
          obtain ⟨v2, rfl, rw2⟩ := rel1 rs
          exact h2 (.ref l) w (.ref a) v2 st2 H2 m2 Q S2 (RelW.mono e2 _ _ ro) rw2 (PostO.shift (PostG.nox p2) (e1.trans e2))
        | _ :: _ :: _, rs, p2 => exact False.elim p2
  | _ => exact False.elim p1
end
end J
namespace J
open PySem PySem.Spec PyProof.Rows L2
section
variable {X : Cx}
def oStr2 : List Wv → Hs → Re Wv
  | [.str z], st => .ok (.str z) st
  | ws, st => oStr ws st
def oInt : List Wv → Hs → Re Wv
  | [.int i], st => .ok (.int i) st
  | [.bl b], st => .ok (.int (if b then 1 else 0)) st
  | _, _ => .bad
theorem cw_int : CallW X (.type "int") oInt := ⟨_, call_int1, fun ws vs st H m Q S rs p => by
  match ws, rs, p with
  | [], rs, p => exact False.elim p
  | x :: y :: t, rs, p => cases x <;> exact False.elim p
  | [x], rs, p =>
    obtain ⟨v, rfl, r1⟩ := rel1 rs
    cases x with
    | int i => cases relInt r1; exact .inl ⟨i, rfl, p _ m H Ext.refl S mkInt⟩
    | bl b => cases relBl r1; exact .inr ⟨b, rfl, p _ m H Ext.refl S mkInt⟩
    | _ => exact False.elim p⟩
def oMax : List Wv → Hs → Re Wv
  | [.int i, .int j], st => .ok (.int (if j > i then j else i)) st
  | _, _ => .bad
def oMin : List Wv → Hs → Re Wv
  | [.int i, .int j], st => .ok (.int (if j < i then j else i)) st
  | _, _ => .bad
theorem cw_min (hc : X.calm = true) : CallW X (.builtin "min") oMin := ⟨_, call_min2 hc, fun ws vs st H m Q S rs p => by
  match ws, rs, p with
  | [], rs, p => exact False.elim p
  | [x], rs, p => cases x <;> exact False.elim p
  | x :: y :: z :: t, rs, p => cases x <;> cases y <;> exact False.elim p
  | [x, y], rs, p =>
    obtain ⟨v, v', rfl, r1, r2⟩ := rel2 rs
    cases x with
    | int i =>
      cases y with
      | int j => cases relInt r1; cases relInt r2; exact ⟨i, j, rfl, p _ m H Ext.refl S mkInt⟩
      | _ => exact False.elim p
    | _ => cases y <;> exact False.elim p⟩
def setL : List Nat → List Wv → Rho → Option Rho
  | [], [], ρ => some ρ
  | i :: is, w :: ws, ρ => setL is ws (ρ.set i (some w))
  | _, _, _ => none
def tgs : List Nat → TGs
  | [] => L2.gNil
  | i :: is => L2.gCons (gName i) (tgs is)
theorem setL_run {m : Mp} {H : Hp} {Q : St → Hp → Prop} : ∀ {is : List Nat} {ws : List Wv} {xs : List V} {ρ ρ' : Rho} {σ : St}, RelWs X.K m H ws xs → RelEnv X.K m H ρ σ → setL is ws ρ = some ρ' → (∀ σ', RelEnv X.K m H ρ' σ' → Q σ' H) → tgs is xs σ H Q
  | [], [], xs, ρ, ρ', σ, r, R, e, k => by
    unfold RelWs at r
    subst r
    cases e
    exact ⟨rfl, k σ R⟩
  | i :: is, w :: ws, xs, ρ, ρ', σ, r, R, e, k => by
    unfold RelWs at r
    obtain ⟨x, rr, rfl, h1, h2⟩ := r
    exact ⟨x, rr, rfl, setL_run (is := is) h2 (R.set i h1) e k⟩
  | [], _ :: _, _, _, _, _, _, _, e, _ => by cases e
  | _ :: _, [], _, _, _, _, _, _, e, _ => by cases e
inductive Slots (X : Cx) : List Expr → List Nat → Prop
  | nil : Slots X [] []
  | cons {x : Str} {p : Pos} {i : Nat} {es : List Expr} {is : List Nat} : X.N[i]? = some x → (Loc X.env.scope x ∧ (X.fn x = true ∨ X.env.scope.names.lookup x = some .local)) → Slots X es is → Slots X (.Name x p :: es) (i :: is)
theorem pgs_slots (hN : X.N.Nodup) : ∀ {es : List Expr} {is : List Nat}, Slots X es is → PGs X es (tgs is)
  | _, _, .nil => pgs_nil
  | _, _, .cons h1 h2 r => pgs_cons (pg_name hN h1 h2.1 h2.2) (pgs_slots hN r) rfl
theorem each_len : ∀ {es : List Expr} {is : List Nat}, Slots X es is → (assignEach es X.env).length = is.length
  | _, _, .nil => rfl
  | _, _, .cons _ _ r => congrArg (· + 1) (each_len r)
theorem each_star : ∀ {es : List Expr} {is : List Nat}, Slots X es is → (assignEach es X.env).findIdx? (·.1) = none
  | _, _, .nil => rfl
  | _, _, .cons (x := x) (p := p) (es := es) _ _ r => by
    have q := each_star r
    show List.findIdx? _ ((false, assign (.Name x p) X.env) :: assignEach es X.env) = none
    rw [List.findIdx?_cons]
    simp [q]
open Classical in
end
end J
namespace J
open PySem PySem.Spec PyProof.Rows L2
def clF (env : Env) : List (Str × NameKind) → List (Str × Addr) → List (Str × Addr)
  | [], acc => acc
  | (n, k) :: r, acc => if k = .free then clF env r ((n, (env.cells.lookup n).getD 0) :: acc) else clF env r acc
theorem clos_run (env : Env) : ∀ (names : List (Str × NameKind)) (acc : List (Str × Addr)), (∀ y ∈ names, y.2 = .free → ∃ c, env.cells.lookup y.1 = some c) →
    (forIn names acc fun x r => match x with
      | (name, kind) => if (kind == NameKind.free) = true then do let c ← cellOf env name; pure (ForInStep.yield ((name, c) :: r)) else (pure (ForInStep.yield r) : Sem _)) = pure (clF env names acc)
  | [], acc, _ => rfl
  | (n, k) :: r, acc, h => by
    have ih := fun acc => clos_run env r acc fun y hy => h y (List.mem_cons_of_mem _ hy)
    rw [List.forIn_cons]
    by_cases hk : k = .free
    · subst hk
      obtain ⟨c, e⟩ := h (n, .free) List.mem_cons_self rfl
      have e' : env.cells.lookup n = some c := e
      have cc : cellOf env n = pure c := by unfold cellOf; rw [e']
      simp only [beq_self_eq_true, if_true, cc]
      have q : clF env ((n, .free) :: r) acc = clF env r ((n, c) :: acc) := by
        show (if NameKind.free = .free then clF env r ((n, (env.cells.lookup n).getD 0) :: acc) else _) = _
        rw [if_pos rfl, e']
        rfl
      rw [q, ← ih]
      rfl
    · have hb : (k == NameKind.free) = false := by simpa using hk
      simp only [hb, Bool.false_eq_true, if_false]
      have q : clF env ((n, k) :: r) acc = clF env r acc := by
        show (if k = .free then _ else clF env r acc) = _
        rw [if_neg hk]
      rw [q, ← ih]
      rfl
theorem clos_is {env : Env} {scope : Scope} (h : ∀ y ∈ scope.names, y.2 = .free → ∃ c, env.cells.lookup y.1 = some c) : closureFor scope env = pure (clF env scope.names []) := by
  have q := clos_run env scope.names [] h
  unfold closureFor
  first
    | (rw [← q]; rfl)
    | (simp only [bind_pure]; exact q)
theorem clF_sub {env : Env} : ∀ {names : List (Str × NameKind)} {acc : List (Str × Addr)} {y : Str} {c : Addr}, (∀ y ∈ names, y.2 = .free → ∃ c, env.cells.lookup y.1 = some c) → (∀ y c, acc.lookup y = some c → env.cells.lookup y = some c) → (clF env names acc).lookup y = some c → env.cells.lookup y = some c
  | [], acc, y, c, _, ha, e => ha y c e
  | (n, k) :: r, acc, y, c, h, ha, e => by
    unfold clF at e
    by_cases hk : k = .free
    · rw [if_pos hk] at e
      subst hk
      obtain ⟨c0, e0⟩ := h (n, .free) List.mem_cons_self rfl
      have e0' : env.cells.lookup n = some c0 := e0
      refine clF_sub (fun y hy => h y (List.mem_cons_of_mem _ hy)) (fun y' c' e' => ?_) e
      rw [List.lookup_cons] at e'
      cases q : y' == n with
      | true =>
        rw [q] at e'
        have q' := eq_of_beq q
        subst q'
        rw [e0'] at e' ⊢
        exact e'
      | false => rw [q] at e'; exact ha y' c' e'
    · rw [if_neg hk] at e
      exact clF_sub (fun y hy => h y (List.mem_cons_of_mem _ hy)) ha e
theorem clF_has {env : Env} {y : Str} : ∀ {names : List (Str × NameKind)} {acc : List (Str × Addr)}, ((∃ c, acc.lookup y = some c) ∨ (y, NameKind.free) ∈ names) → ∃ c, (clF env names acc).lookup y = some c
  | [], acc, h => by
    rcases h with h | h
    · exact h
    · cases h
  | (n, k) :: r, acc, h => by
    unfold clF
    by_cases hk : k = .free
    · rw [if_pos hk]
      refine clF_has ?_
      rw [List.lookup_cons]
      cases q : y == n with
      | true => exact .inl ⟨_, rfl⟩
      | false =>
        rcases h with h | h
        · exact .inl h
        · rcases List.mem_cons.mp h with h | h
          · cases h; simp at q
          · exact .inr h
    · rw [if_neg hk]
      refine clF_has ?_
      rcases h with h | h
      · exact .inl h
      · rcases List.mem_cons.mp h with h | h
        · cases h; exact absurd rfl hk
        · exact .inr h
theorem lookup_mem {α β : Type} [BEq α] [LawfulBEq α] {y : α} {k : β} : ∀ {names : List (α × β)}, names.lookup y = some k → (y, k) ∈ names
  | [], h => by cases h
  | (n, j) :: r, h => by
    rw [List.lookup_cons] at h
    cases q : y == n with
    | true =>
      rw [q] at h
      cases h
      have q' := eq_of_beq q
      subst q'
      exact List.mem_cons_self
    | false => rw [q] at h; exact List.mem_cons_of_mem _ (lookup_mem h)
theorem rel_look {env : Env} : ∀ {names : List (Str × NameKind)} {y : Str}, (names.map fun (n, k) => if (k == NameKind.free && env.scope.kind == .function && env.kindOf n == some .cell) then (n, NameKind.cell) else (n, k)).lookup y =
    (names.lookup y).map fun k => if (k == NameKind.free && env.scope.kind == .function && env.kindOf y == some .cell) = true then NameKind.cell else k
  | [], y => rfl
  | (n, k) :: r, y => by
    have ih := rel_look (env := env) (names := r) (y := y)
    show List.lookup y ((if (k == NameKind.free && env.scope.kind == .function && env.kindOf n == some .cell) = true then (n, NameKind.cell) else (n, k)) :: _) = _
    cases q : y == n with
    | true =>
      have q' := eq_of_beq q
      subst q'
      by_cases hc : (k == NameKind.free && env.scope.kind == .function && env.kindOf y == some .cell) = true
      · rw [if_pos hc]
        simp only [List.lookup_cons, beq_self_eq_true, Option.map_some]
        rw [if_pos hc]
      · rw [if_neg hc]
        simp only [List.lookup_cons, beq_self_eq_true, Option.map_some]
        rw [if_neg hc]
    | false =>
      by_cases hc : (k == NameKind.free && env.scope.kind == .function && env.kindOf n == some .cell) = true
      · rw [if_pos hc]; simp only [List.lookup_cons, q]; exact ih
      · rw [if_neg hc]; simp only [List.lookup_cons, q]; exact ih
open Classical in
noncomputable def compG (ck : Hs → Prop) (gt : Wv → Hs → Re Bool) (ge : Wv → Hs → Re Wv) (l : Nat) : List Wv → Hs → Option Hs
  | [], st => some st
  | w :: r, st => match gt w st with
    | .ok false st1 => if ck st1 then compG ck gt ge l r st1 else none
    | .ok true st1 => (match ge w st1 with
      | .ok v st2 => (match mApp (.ref l) v st2 with
        | .ok _ st3 => if ck st3 then compG ck gt ge l r st3 else none
        | _ => none)
      | _ => none)
    | _ => none
abbrev Caps := List (Str × Nat)
def capR (cs : Caps) (ρ : Rho) : Rho := cs.map fun p => (ρ[p.2]?).getD none
def capS (cs : Caps) (σ : St) : St := cs.map fun p => (σ[p.2]?).getD none
theorem cap_rel {K : PySem.W.Frag} {m : Mp} {H : Hp} {ρ : Rho} {σ : St} (cs : Caps) (R : RelEnv K m H ρ σ) : RelEnv K m H (capR cs ρ) (capS cs σ) := by
  refine ⟨by unfold capR capS; simp, fun i w e => ?_⟩
  unfold capR at e
  rw [List.getElem?_map] at e
  cases q : cs[i]? with
  | none => rw [q] at e; cases e
  | some p =>
    rw [q] at e
    have e' : (ρ[p.2]?).getD none = some w := by simpa using e
    cases q2 : ρ[p.2]? with
    | none => rw [q2] at e'; cases e'
    | some o =>
      rw [q2] at e'
      have e2 : o = some w := e'
      subst e2
      obtain ⟨v, h1, h2⟩ := R.get _ _ q2
      refine ⟨v, ?_, h2⟩
      unfold capS
      rw [List.getElem?_map, q]
      simp [h1]
def compX (X : Cx) (scope : Scope) (x : Str) (cs : Caps) (C : Addr) (s0 : Shared) (H0 : Hp) (fp : List Addr) (pn : List (Addr × Obj)) : Cx where
  prog := X.prog
  w := X.w
  K := X.K
  mg := X.mg
  base := X.base
  A := X.A
  N := x :: cs.map (·.1)
  s₀ := s0
  H₀ := H0
  env := compEnvC scope (clF X.env scope.names []) C X.env
  outer := X.stack
  stack := X.stack
  ex := fp
  fn := fun _ => false
  calm := true
  pn := pn
  xe := fun _ _ => False
structure CScope (X : Cx) (scope : Scope) (x : Str) (cs : Caps) : Prop where
  kind : scope.kind = .function
  look : ∀ y ∈ scope.names, scope.names.lookup y.1 = some y.2
  cell : ∀ y ∈ scope.names, y.2 ≠ .cell
  var : scope.names.lookup x = some .local
  cap : ∀ y ∈ scope.names, y.2 = .free → X.env.kindOf y.1 = some .cell ∨ X.env.kindOf y.1 = some .free
  at_ : ∀ p ∈ cs, X.N[p.2]? = some p.1 ∧ scope.names.lookup p.1 = some .free
  nd : (x :: cs.map (·.1)).Nodup
section
variable {X : Cx} {pins : List (Addr × Obj)} {σ : St} {H : Hp} {s : Shared} {scope : Scope} {x : Str} {cs : Caps}
theorem fp_stack (I : Inv X pins σ H s) {b : Addr} (f : FpOk X pins H b) : b ∉ frs X.stack := fun z => by
  rcases List.mem_cons.mp (I.stkSub b z) with q | q
  · exact f.2.1 q
  · exact f.2.2.1 q
theorem CScope.has (S : CScope X scope x cs) (ok : X.Ok) : ∀ y ∈ scope.names, y.2 = .free → ∃ c, X.env.cells.lookup y.1 = some c := fun y hy e => ok.has y.1 (S.cap y hy e)
theorem CScope.sub (S : CScope X scope x cs) (ok : X.Ok) {y : Str} {c : Addr} (e : (clF X.env scope.names []).lookup y = some c) : X.env.cells.lookup y = some c :=
  clF_sub (S.has ok) (fun _ _ z => by cases z) e
theorem CScope.kindIn (S : CScope X scope x cs) (ok : X.Ok) {C : Addr} {y : Str} (h : (compEnvC scope (clF X.env scope.names []) C X.env).kindOf y = some .cell ∨ (compEnvC scope (clF X.env scope.names []) C X.env).kindOf y = some .free) : scope.names.lookup y = some .free := by
  have q : (compEnvC scope (clF X.env scope.names []) C X.env).kindOf y = (scope.names.lookup y).map fun k => if (k == NameKind.free && X.env.scope.kind == .function && X.env.kindOf y == some .cell) = true then NameKind.cell else k := rel_look
  rw [q] at h
  cases e : scope.names.lookup y with
  | none => rw [e] at h; simp at h
  | some k =>
    rw [e] at h
    simp only [Option.map_some, Option.some.injEq] at h
    by_cases hk : k = .free
    · rw [hk]
    · have hb : (k == NameKind.free) = false := by simpa using hk
      rw [hb] at h
      simp only [Bool.false_and, Bool.false_eq_true, if_false] at h
      rcases h with h | h
      · exact absurd h (S.cell (y, k) (lookup_mem e))
      · exact absurd h hk
theorem CScope.free_vis (S : CScope X scope x cs) {C : Addr} {y : Str} (e : scope.names.lookup y = some .free) : (compEnvC scope (clF X.env scope.names []) C X.env).kindOf y = some .cell ∨ (compEnvC scope (clF X.env scope.names []) C X.env).kindOf y = some .free := by
  have q : (compEnvC scope (clF X.env scope.names []) C X.env).kindOf y = (scope.names.lookup y).map fun k => if (k == NameKind.free && X.env.scope.kind == .function && X.env.kindOf y == some .cell) = true then NameKind.cell else k := rel_look
  rw [q, e]
  simp only [Option.map_some]
  split
  · exact .inl rfl
  · exact .inr rfl
theorem comp_inv {fp : List Addr} {h2 : Heap} {tk : Nat} (S : CScope X scope x cs) (hc : X.calm = true) (I : Inv X pins σ H s) (hf : ∀ b ∈ fp, FpOk X pins H b) (hl : ∀ b ∈ fp, b < s.heap.objs.size)
    (ns : h2.Ns s.heap.objs.size (fun y => ([] : List (Str × Value)).reverse.lookup y)) (sb : Heap.SameBut s.heap.objs.size (s.heap.push { cls := .type "dict", data := .dict #[] }) h2) :
    Inv (compX X scope x cs s.heap.objs.size s H fp (X.pn ++ pins)) [] (none :: capS cs σ) H { s with heap := h2, toks := tk } := by
  have keep : ∀ b o, s.heap.get? b = some o → h2.get? b = some o := fun b o e => (sb.2 b (Nat.ne_of_lt (Heap.lt_size e))).trans (Heap.get?_push_of_some _ e)
  have sub : ∀ {y : Str} {c : Addr}, (clF X.env scope.names []).lookup y = some c → X.env.cells.lookup y = some c := fun e => S.sub I.ok e
  have cellK : ∀ y c, X.env.cells.lookup y = some c → ∀ v, s.heap.IsCell c v → h2.IsCell c v := fun y c _ v ⟨o, ho, hd⟩ => ⟨o, keep c o ho, hd⟩
  refine ⟨⟨I.ok.mod, S.kind, I.ok.glob, I.ok.blt, Nat.le_refl _, (fun y z c e1 e2 => I.ok.inj y z c (sub e1) (sub e2)), fun y h => clF_has (.inr (lookup_mem (S.kindIn I.ok h))), (fun y c e => by cases e), fun _ => I.ok.hd hc, I.ok.frames, .inl rfl, fun b hb => ⟨Nat.ne_of_lt (hl b hb), fun y c e => (hf b hb).2.2.2.2.1 y c (sub e)⟩, I.bs, Nat.le_trans I.ok.bsz I.sz, fun b o e hb => ?_, fun b hb => fp_stack I (hf b hb), I.stack, I.stkFree⟩, rfl, I.bare, Un.kept keep, ⟨_, ns, fun i y v e1 e2 e3 => ?_⟩, (fun y c e => ?_), I.fresh, (fun y c e => I.freeC y c (sub e)), fun p hp => ?_, I.hok.kept keep, by unfold compX capS; simp⟩
  · rcases (hf b hb).2.2.2.1 with z | z
    · exact I.ok.noex b o e z
    · exact absurd (Nat.lt_of_lt_of_le (Heap.lt_size e) (Nat.le_trans I.ok.bsz z)) (Nat.lt_irrefl _)
  · cases i with
    | zero => cases e2
    | succ i =>
      have e1' : (cs.map (·.1))[i]? = some y := e1
      have e2' : (capS cs σ)[i]? = some (some v) := e2
      unfold capS at e2'
      rw [List.getElem?_map] at e1' e2'
      cases q : cs[i]? with
      | none => rw [q] at e1'; cases e1'
      | some p =>
        rw [q] at e1' e2'
        have y1 : p.1 = y := by simpa using e1'
        have e4 : (σ[p.2]?).getD none = some v := by simpa using e2'
        have e5 : σ[p.2]? = some (some v) := by
          cases q2 : σ[p.2]? with
          | none => rw [q2] at e4; cases e4
          | some o =>
            rw [q2] at e4
            have : o = some v := e4
            rw [this]
        have hp := S.at_ p (List.mem_iff_getElem?.mpr ⟨i, q⟩)
        rw [y1] at hp
        have kd := S.cap (y, .free) (lookup_mem hp.2) rfl
        obtain ⟨m, hn, hl'⟩ := I.loc
        obtain ⟨u, r, l⟩ := hl' p.2 y v hp.1 e5 (.inr kd)
        refine ⟨u, r, .inr ⟨S.free_vis hp.2, ?_⟩⟩
        rcases l with ⟨l, _⟩ | ⟨_, c, e, z⟩
        · rcases kd with kd | kd
          · have kd' : X.env.kindOf y = some .cell := kd
            rw [kd'] at l; cases l
          · have kd' : X.env.kindOf y = some .free := kd
            rw [kd'] at l; cases l
        · obtain ⟨c', e'⟩ := clF_has (env := X.env) (y := y) (names := scope.names) (acc := []) (.inr (lookup_mem hp.2))
          have := sub e'
          rw [e] at this
          cases this
          exact ⟨c, e', cellK y c e _ z⟩
  · obtain ⟨v, z⟩ := I.cell y c (sub e)
    exact ⟨v, cellK y c (sub e) v z⟩
  · rw [List.append_nil] at hp
    obtain ⟨e, n, ne, nf, d⟩ := I.pin p hp
    refine ⟨keep _ _ e, n, Nat.ne_of_lt (Heap.lt_size e), fun z => ?_, d⟩
    rcases List.mem_cons.mp (I.stkSub p.1 z) with q | q
    · exact ne q
    · exact nf q
theorem comp_end {fp : List Addr} {Hb He : Hp} {sb se : Shared} {C : Addr} {σ' : St} {pins' : List (Addr × Obj)} (I : Inv X pins σ Hb sb) (hf : ∀ b ∈ fp, FpOk X pins Hb b) (J : Inv (compX X scope x cs C sb Hb fp (X.pn ++ pins)) pins' σ' He se) : Inv X pins σ He se := by
  have un : Un (frs X.stack) fp Hb He sb.heap se.heap := J.base
  exact I.call' (ch := fp) J.os un J.hok J.bare fun b hb => ⟨(hf b hb).2.2.2.1, (hf b hb).2.1, (hf b hb).2.2.2.2.1, fun p hp => (hf b hb).2.2.2.2.2 p hp⟩
theorem comp_gone {He : Hp} {se : Shared} {C : Addr} {h2 : Heap} (I : Inv X pins σ He se) (f : FpOk X pins He C) (same : Heap.SameBut C se.heap h2) : Inv X pins σ He { se with heap := h2 } :=
  I.turned (t' := se.toks) (it := C) (fun b o hb e => (same.2 b hb).trans e) f.1 f.2.1 f.2.2.2.1 f.2.2.2.2.1 f.2.2.2.2.2
end
def JTs (X : Cx) (ifs : List Expr) (g : GT) : Prop := ∀ (ρ : Rho) (st : Hs) (σ : St) (H : Hp) (m : Mp) (Q : Bool → Hp → Prop), Sim X.K m st H → RelEnv X.K m H ρ σ → PostT X σ m H (g ρ st) Q → ∀ (pins : List (Addr × Obj)) (s : Shared), Inv X pins σ H s →
  wpAny (model X.prog X.w) X.A (forIn ifs true fun c r => if r = true then do let ok ← isTrue c X.env (eval c X.env); pure (ForInStep.yield ok) else pure (ForInStep.yield r)) (TP X pins σ Q) X.xe s
section
variable {X : Cx}
theorem jts_nil : JTs X [] (fun _ st => .ok true st) := fun ρ st σ H m Q S R p pins s I => wpAny_tests_nil ⟨H, I, p m H Ext.refl S⟩
theorem jts_one {c : Expr} {g : GT} (h : JT X c g) : JTs X [c] g := fun ρ st σ H m Q S R p pins s I => wpAny_tests_one (h ρ st σ H m Q S R p pins s I)
theorem comp_block {pins : List (Addr × Obj)} {σ : St} {ρ : Rho} {scope : Scope} {x : Str} {cs : Caps} {px pos : Pos} {elt iter : Expr} {ifs : List Expr} {gt : GT} {ge : GE} {ck : Hs → Prop} {ws : List Wv} {E : Value → Shared → Prop}
    {RR : Value → Addr → Result → Shared → Prop}
    {it : Addr} {fp : List Addr} {tn : Nat → Heap → Prop} {J' : It} {H2 : Hp} {s2 : Shared} {m1 : Mp} {st1 stF : Hs} (S : CScope X scope x cs) (hc : X.calm = true) (I2 : Inv X pins σ H2 s2) (T : Turn X.prog X.w X.K (.Name x px) J' fp it tn) (t0 : tn 0 s2.heap) (f2 : ∀ b ∈ fp, FpOk X pins H2 b)
    (S1 : Sim X.K m1 st1 H2) (R : RelEnv X.K m1 H2 ρ σ) (hck : ck (st1 ++ [.lst []])) (run : compG ck (fun w => gt (some w :: capR cs ρ)) (fun w => ge (some w :: capR cs ρ)) st1.length ws (st1 ++ [.lst []]) = some stF)
    (hE : ∀ C s0 H0 pn, JE (compX X scope x cs C s0 H0 fp pn) elt ge) (hT : ∀ C s0 H0 pn, JTs (compX X scope x cs C s0 H0 fp pn) ifs gt)
    (hgo : ∀ (k : Nat) (H : Hp) (m' : Mp) (st : Hs), Ext X.K m1 H2 m' H → Sim X.K m' st H → ck st → k < ws.length → J'.go k H) (hstop : ∀ (k : Nat) (H : Hp) (m' : Mp) (st : Hs), Ext X.K m1 H2 m' H → Sim X.K m' st H → ck st → k = ws.length → J'.stop k H)
    (hy : ∀ (k : Nat) (hk : k < ws.length) (H : Hp) (v : V) (H' : Hp) (m' : Mp) (st : Hs), Ext X.K m1 H2 m' H → Sim X.K m' st H → ck st → J'.yld k H v H' → H' = H ∧ RelW X.K m' H ws[k] v)
    (fin : ∀ (D C : Addr) (mm : Str → Option Value) (m' : Mp) (H' : Hp) (s' : Shared), Ext X.K m1 H2 m' H' → Sim X.K m' stF H' → m'[st1.length]? = some D → Inv X pins σ H' s' → FpOk X pins H' C → s'.heap.Ns C mm → (∀ y c, X.env.cells.lookup y = some c → c ≠ C) → RR (.ref D) C (.ok .next) s') :
    wpAny (model X.prog X.w) X.A (newList []) (fun acc s3 => wpAny (model X.prog X.w) X.A (newFunctionEnv scope X.env.globals (clF X.env scope.names []) [] X.env.qual none .none (some X.env)) (fun cenv s4 =>
      codeAny (model X.prog X.w) X.A (.compStart (.ListComp elt [⟨.Name x px, iter, ifs, 0⟩] scope pos) 0 (.ref it) acc { cenv with scope := relabel scope X.env }) (RR acc cenv.locals) s4) E s3) E s2 := by
  refine wpAny_newList ?_
  have I3 : Inv X pins σ (upd H2 s2.heap.objs.size (.lst [])) { s2 with heap := s2.heap.push { cls := .type "list", data := .seq ([] : List Value).toArray } } := I2.lnew (ys := []) (its := []) (t' := s2.toks) .nil (Nat.zero_le _)
  have lt2 : ∀ b ∈ fp, b < s2.heap.objs.size := fun b hb => by
    obtain ⟨o, e, _⟩ := T.obj _ _ t0 b hb
    exact Heap.lt_size e
  have hD : H2 s2.heap.objs.size = none := I2.fresh
  have f3 : ∀ b ∈ fp, FpOk X pins (upd H2 s2.heap.objs.size (.lst [])) b := fun b hb => ⟨by rw [upd_ne (Nat.ne_of_lt (lt2 b hb))]; exact (f2 b hb).1, (f2 b hb).2⟩
  have S3 := S1.alloc (ws := []) (xs := []) hD RelWs.nil
  have e3 : Ext X.K m1 H2 (m1 ++ [s2.heap.objs.size]) (upd H2 s2.heap.objs.size (.lst [])) := Ext.more.trans (Ext.upd (.inl hD))
  have lab : (m1 ++ [s2.heap.objs.size])[st1.length]? = some s2.heap.objs.size := by
    rw [← S1.len, List.getElem?_append_right (Nat.le_refl _), Nat.sub_self]; rfl
  generalize hs3 : ({ s2 with heap := s2.heap.push { cls := .type "list", data := .seq ([] : List Value).toArray } } : Shared) = s3 at I3
  have k23 : ∀ b o, s2.heap.get? b = some o → s3.heap.get? b = some o := fun b o e => by rw [← hs3]; exact Heap.get?_push_of_some _ e
  have lt3 : ∀ b ∈ fp, b < s3.heap.objs.size := fun b hb => by
    obtain ⟨o, e, _⟩ := T.obj _ _ t0 b hb
    exact Heap.lt_size (k23 b o e)
  generalize hDD : s2.heap.objs.size = D at *
  generalize hH3 : upd H2 D (.lst []) = H3 at *
  generalize hm3 : m1 ++ [D] = m3 at *
  have R3 : RelEnv X.K m3 H3 (capR cs ρ) (capS cs σ) := (cap_rel cs R).mono e3
  generalize hrr : capR cs ρ = ρc at *
  generalize hss : capS cs σ = σc at *
  refine wpAny_newFunctionEnv S.cell (fun _ z => nomatch z) (fun h4 ns4 sb4 => ?_) S.kind
  have Ic := comp_inv (tk := s3.toks + ([] : List (Str × Value)).length) S hc I3 f3 lt3 ns4 sb4
  rw [hss] at Ic
  have k34 : ∀ b o, s3.heap.get? b = some o → h4.get? b = some o := fun b o e => (sb4.2 b (Nat.ne_of_lt (Heap.lt_size e))).trans (Heap.get?_push_of_some _ e)
  have t4 : tn 0 h4 := T.keep _ _ _ t0 fun b _ o e => k34 b o (k23 b o e)
  let Xc := compX X scope x cs s3.heap.objs.size s3 H3 fp (X.pn ++ pins)
  have vis : Xc.env.scope.names.lookup x = some .local := lookup_relabel_local S.var
  have fpc : ∀ (H' : Hp), (∀ b ∈ fp, H' b = none) → ∀ b ∈ fp, FpOk Xc [] H' b := fun H' hn b hb => ⟨hn b hb, Nat.ne_of_lt (lt3 b hb), fp_stack I3 (f3 b hb), .inl hb, fun y c e => (f3 b hb).2.2.2.2.1 y c (S.sub I3.ok e), fun p hp => (f2 b hb).2.2.2.2.2 p (by have hp' : p ∈ (X.pn ++ pins) ++ [] := hp; rw [List.append_nil] at hp'; exact hp')⟩
  let Pv : Nat → Shared → Prop := fun k s' => ∃ z H' st m', Inv Xc [] (z :: σc) H' s' ∧ tn k s'.heap ∧ (∀ b ∈ fp, H' b = none) ∧ Ext X.K m3 H3 m' H' ∧ Sim X.K m' st H' ∧ ck st ∧ compG ck (fun w => gt (some w :: ρc)) (fun w => ge (some w :: ρc)) st1.length (ws.drop k) st = some stF
  have loop : ∀ s4 : Shared, Pv 0 s4 → codeAny (model X.prog X.w) X.A (.compLoop (.ListComp elt [⟨.Name x px, iter, ifs, 0⟩] scope pos) 0 (.ref it) (.ref D) (compEnvC scope (clF X.env scope.names []) s3.heap.objs.size X.env)) (RR (.ref D) s3.heap.objs.size) s4 := fun s4 p0 => by
    refine codeAny_compLoop_tests (fun n s' => ∃ k, n = ws.length - k ∧ k ≤ ws.length ∧ Pv k s') ?_ ws.length ⟨0, by simp, Nat.zero_le _, p0⟩
    rintro n s5 ⟨k, rfl, hk, z5, H5, st5, m5, I5, tn5, fr5, e5, S5, c5, run5⟩
    have e15 := e3.trans e5
    by_cases hlt : k < ws.length
    · refine thn (T.item Xc rfl rfl rfl rfl k [] s5 (z5 :: σc) H5 _ I5 (fpc H5 fr5) tn5 (hgo k H5 m5 st5 e15 S5 c5 hlt)) fun r s6 h6 => ?_
      obtain ⟨u, rfl, h6⟩ := h6
      show wpAny (model X.prog X.w) X.A (pure () >>= fun _ => assign (.Name x px) Xc.env u) _ _ s6
      refine wpAny_bind (thn h6 fun _ s7 h7 => ?_)
      obtain ⟨v, H7, I7, rv, yl, tn7, fr7⟩ := h7
      obtain ⟨rfl, rw7⟩ := hy k hlt H5 v H7 m5 st5 e15 S5 c5 yl
      have I7' := I7.pinned (fpc H7 fr7) (T.obj _ _ tn7)
      refine wpAny_assign_Name (store_ok (i := 0) I7' S.nd rfl (.inl vis) rv (fun s8 I8 => ?_) (.inr vis))
      have I8' : Inv Xc ([] ++ pinsAt fp s7.heap) (some v :: σc) H7 s8 := I8
      have R8 : RelEnv X.K m5 H7 (some ws[k] :: ρc) (some v :: σc) := by
        have R5 := R3.mono e5
        refine ⟨by simp [R5.len], fun i w e => ?_⟩
        cases i with
        | zero =>
          cases e
          exact ⟨v, rfl, rw7⟩
        | succ i => exact R5.get i w e
      have ed : ws.drop k = ws[k] :: ws.drop (k + 1) := List.drop_eq_getElem_cons hlt
      rw [ed] at run5
      unfold compG at run5
      have back : ∀ {H' : Hp} {s' : Shared} {m' : Mp} {st : Hs}, Inv Xc ([] ++ pinsAt fp s7.heap) (some v :: σc) H' s' → Ext X.K m3 H3 m' H' → Sim X.K m' st H' → ck st → compG ck (fun w => gt (some w :: ρc)) (fun w => ge (some w :: ρc)) st1.length (ws.drop (k + 1)) st = some stF → ∃ n', n' < ws.length - k ∧ ∃ k', n' = ws.length - k' ∧ k' ≤ ws.length ∧ Pv k' s' :=
        fun {H' s' m' st} I' e' S' c' r' => ⟨ws.length - (k + 1), by omega, k + 1, rfl, hlt, some v, H', st, m', I'.unpinned, T.keep _ _ _ tn7 fun b hb o e => (I'.pin (b, o) (List.mem_append_right _ (List.mem_append_right _ (mem_pinsAt hb e)))).1, fun b hb => by
          obtain ⟨o, e, _⟩ := T.obj _ _ tn7 b hb
          exact (I'.pin (b, o) (List.mem_append_right _ (List.mem_append_right _ (mem_pinsAt hb e)))).2.1, e', S', c', r'⟩
      cases eg : gt (some ws[k] :: ρc) st5 with
      | err c st6 => rw [eg] at run5; cases run5
      | bad => rw [eg] at run5; cases run5
      | ok b st6 =>
        rw [eg] at run5
        have tst := hT s3.heap.objs.size s3 H3 (X.pn ++ pins) (some ws[k] :: ρc) st5 (some v :: σc) H7 m5 (fun b' H' => b' = b ∧ ∃ m', Ext X.K m5 H7 m' H' ∧ Sim X.K m' st6 H') S5 R8 (by rw [eg]; exact fun m' H' e' S' => ⟨rfl, m', e', S'⟩) ([] ++ pinsAt fp s7.heap) s8 I8'
        refine wpAny_mono tst (fun ok s9 h9 => ?_) fun _ _ z => False.elim z
        obtain ⟨H9, I9, rfl, m9, e9, S9⟩ := h9
        cases ok with
        | false =>
          dsimp only at run5
          by_cases c6 : ck st6
          · rw [if_pos c6] at run5
            rw [if_neg Bool.false_ne_true]
            exact back I9 (e5.trans e9) S9 c6 run5
          · rw [if_neg c6] at run5; cases run5
        | true =>
          dsimp only at run5
          rw [if_pos rfl]
          cases ee : ge (some ws[k] :: ρc) st6 with
          | err c st7 => rw [ee] at run5; cases run5
          | bad => rw [ee] at run5; cases run5
          | ok w st7 =>
            rw [ee] at run5
            dsimp only at run5
            cases ea : mApp (.ref st1.length) w st7 with
            | err c st8 => rw [ea] at run5; cases run5
            | bad => rw [ea] at run5; cases run5
            | ok w2 st8 =>
              rw [ea] at run5
              dsimp only at run5
              by_cases c8 : ck st8
              · rw [if_pos c8] at run5
                have el := hE s3.heap.objs.size s3 H3 (X.pn ++ pins) (some ws[k] :: ρc) st6 (some v :: σc) H9 m9 (fun v' H' => ∃ m', Ext X.K m9 H9 m' H' ∧ Sim X.K m' st7 H' ∧ RelW X.K m' H' w v') S9 (R8.mono e9) (by rw [ee]; exact fun v' m' H' e' S' r' => ⟨m', e', S', r'⟩) ([] ++ pinsAt fp s7.heap) s9 I9
                refine wpAny_mono el (fun u2 s10 h10 => ?_) fun _ _ z => False.elim z
                obtain ⟨v2, H10, I10, r2, m10, e10, S10, rw10⟩ := h10
                obtain ⟨r, h1, h2⟩ := mw_app (X := Xc)
                have eA := (e5.trans e9).trans e10
                have ro : RelW X.K m10 H10 (.ref st1.length) (.ref D) := by unfold RelW; exact ⟨D, rfl, eA.pre _ _ lab⟩
                have rd := h2 (.ref st1.length) w (.ref D) v2 st7 H10 m10 (fun _ H' => ∃ m', Ext X.K m10 H10 m' H' ∧ Sim X.K m' st8 H') S10 ro rw10 (by rw [ea]; exact fun v' m' H' e' S' r' => ⟨m', e', S'⟩)
                refine wpAny_mono (h1 ([] ++ pinsAt fp s7.heap) s10 (some v :: σc) H10 (.ref D) [v2] (.ref D) [u2] _ I10 rfl (.cons r2 .nil) rd) (fun _ s11 h11 => ?_) fun _ _ z => False.elim z
                obtain ⟨_, H11, I11, _, m11, e11, S11⟩ := h11
                exact back I11 (eA.trans e11) S11 c8 run5
              · rw [if_neg c8] at run5; cases run5
    · have ek : k = ws.length := by omega
      subst ek
      refine thn (T.done Xc rfl rfl rfl rfl _ [] s5 (z5 :: σc) H5 _ I5 (fpc H5 fr5) tn5 (hstop _ H5 m5 st5 e15 S5 c5 rfl)) fun r s6 h6 => ?_
      obtain ⟨rfl, I6⟩ := h6
      rw [List.drop_length] at run5
      cases run5
      obtain ⟨mm, ns6, _⟩ := id I6.loc
      have fC := I3.fpOk (H' := H5) (Nat.le_refl _) I6.free
      exact fin D _ mm m5 H5 _ e15 S5 (e5.pre _ _ lab) (comp_end I3 f3 I6) fC ns6 fC.2.2.2.2.1
  have p0 : Pv 0 { s3 with heap := h4, toks := s3.toks + ([] : List (Str × Value)).length } := ⟨none, H3, st1 ++ [Ob.lst []], m3, Ic, t4, fun b hb => (f3 b hb).1, Ext.refl, S3, hck, by rw [List.drop_zero]; exact run⟩
  exact codeAny_compStart_list (loop _ p0) (T.self X.A 0 _ _ _ t4 (loop _ p0))
end
end J
namespace J
open PySem PySem.Spec PyProof.Rows L2
abbrev Wk := Option Nat × List Wv
def ckOf (w : Wk) (st : Hs) : Prop := match w.1 with
  | some l => lstOf st l = some w.2
  | none => True
structure ItFor (X : Cx) (w : Wk) (m1 : Mp) (H1 : Hp) (J' : It) : Prop where
  go : ∀ (k : Nat) (H : Hp) (m' : Mp) (st : Hs), Ext X.K m1 H1 m' H → Sim X.K m' st H → ckOf w st → k < w.2.length → J'.go k H
  stop : ∀ (k : Nat) (H : Hp) (m' : Mp) (st : Hs), Ext X.K m1 H1 m' H → Sim X.K m' st H → ckOf w st → k = w.2.length → J'.stop k H
  yld : ∀ (k : Nat) (hk : k < w.2.length) (H : Hp) (v : V) (H' : Hp) (m' : Mp) (st : Hs), Ext X.K m1 H1 m' H → Sim X.K m' st H → ckOf w st → J'.yld k H v H' → H' = H ∧ RelW X.K m' H w.2[k] v
abbrev GI := Rho → Hs → Re Wk
def JI (X : Cx) (tg iter : Expr) (gi : GI) : Prop := ∃ wi, PI X tg iter wi ∧ ∀ (ρ : Rho) (st : Hs) (σ : St) (H : Hp) (m : Mp) (R : It → Hp → Prop), Sim X.K m st H → RelEnv X.K m H ρ σ →
  PostG X σ m H (gi ρ st) (fun w st1 => ∀ (m1 : Mp) (H1 : Hp) (J' : It), Ext X.K m H m1 H1 → Sim X.K m1 st1 H1 → ckOf w st1 → ItFor X w m1 H1 J' → R J' H1) → wi σ H R
def seqW (w : Wv) (st : Hs) : Re Wk := match w with
  | .ref l => (match lstOf st l with | some ws => .ok (some l, ws) st | none => .bad)
  | .tup ws => .ok (none, ws) st
  | .ktp ws => .ok (none, ws) st
  | _ => .bad
def giSeq (g : GE) : GI := fun ρ st => (g ρ st).bind seqW
section
variable {X : Cx}
theorem ji_seq {tg iter : Expr} {g : GE} (h : JE X iter g) : JI X tg iter (giSeq g) := by
  refine ⟨_, pi_seq pe_SE, fun ρ st σ H m Q S R p => ?_⟩
  refine h.go S R (PostG.bind p) fun w st1 v m1 H1 p1 e1 S1 rw' => ?_
  cases w with
  | ref l =>
    unfold RelW at rw'
    obtain ⟨a, rfl, hla⟩ := rw'
    unfold seqW at p1
    cases el : lstOf st1 l with
    | none => simp only [el] at p1; exact False.elim p1
    | some ws =>
      simp only [el] at p1
      obtain ⟨xs0, q0, _⟩ := S1.read hla el
      refine ⟨a, rfl, .inl ⟨⟨xs0, q0⟩, p1 m1 H1 _ e1 S1 el ⟨fun k H' m' st' e S' c hk => ?_, fun k H' m' st' e S' c hk => ?_, fun k hk H' v H'' m' st' e S' c y => ?_⟩⟩⟩
      · obtain ⟨xs, hq, rws⟩ := S'.read (e.pre _ _ hla) c
        have hx' : k < xs.length := by rw [← rws.length]; exact hk
        exact ⟨xs, xs[k], hq, by simp [hx']⟩
      · obtain ⟨xs, hq, rws⟩ := S'.read (e.pre _ _ hla) c
        exact ⟨xs, hq, by rw [← rws.length, hk]; exact Nat.le_refl _⟩
      · obtain ⟨xs, hq, rws⟩ := S'.read (e.pre _ _ hla) c
        obtain ⟨ee, y⟩ := y
        refine ⟨ee, ?_⟩
        obtain ⟨x', ex', rx'⟩ := rws.get (i := k) (w := ws[k]) (List.getElem?_eq_getElem hk)
        rw [y xs hq] at ex'
        cases ex'
        exact rx'
  | tup ws =>
    unfold RelW at rw'
    obtain ⟨a, xs, rfl, hq, rws⟩ := rw'
    refine ⟨a, rfl, .inr ⟨⟨xs, SqT.of hq⟩, p1 m1 H1 _ e1 S1 trivial ⟨fun k H' m' st' e S' c hk => ?_, fun k H' m' st' e S' c hk => ?_, fun k hk H' v H'' m' st' e S' c y => ?_⟩⟩⟩
    · have hx' : k < xs.length := by rw [← rws.length]; exact hk
      exact ⟨xs, xs[k], SqT.of (e.tup _ _ hq), by simp [hx']⟩
    · exact ⟨xs, SqT.of (e.tup _ _ hq), by rw [← rws.length, hk]; exact Nat.le_refl _⟩
    · obtain ⟨ee, y⟩ := y
      refine ⟨ee, ?_⟩
      obtain ⟨x', ex', rx'⟩ := (RelWs.mono e _ _ rws).get (i := k) (w := ws[k]) (List.getElem?_eq_getElem hk)
      rw [y xs (SqT.of (e.tup _ _ hq))] at ex'
      cases ex'
      exact rx'
  | ktp ws =>
    unfold RelW at rw'
    obtain ⟨a, xs, rfl, hq, rws⟩ := rw'
    refine ⟨a, rfl, .inr ⟨⟨xs, .inr hq⟩, p1 m1 H1 _ e1 S1 trivial ⟨fun k H' m' st' e S' c hk => ?_, fun k H' m' st' e S' c hk => ?_, fun k hk H' v H'' m' st' e S' c y => ?_⟩⟩⟩
    · have hx' : k < xs.length := by rw [← rws.length]; exact hk
      exact ⟨xs, xs[k], .inr hq, by simp [hx']⟩
    · exact ⟨xs, .inr hq, by rw [← rws.length, hk]; exact Nat.le_refl _⟩
    · obtain ⟨ee, y⟩ := y
      refine ⟨ee, ?_⟩
      obtain ⟨x', ex', rx'⟩ := (RelWs.mono e _ _ rws).get (i := k) (w := ws[k]) (List.getElem?_eq_getElem hk)
      rw [y xs (.inr hq)] at ex'
      cases ex'
      exact rx'
  | _ => exact False.elim p1
theorem it_rng {lo : Int} {n : Nat} {m1 : Mp} {H1 : Hp} : ItFor X (none, rngW lo n) m1 H1 (Itr lo n) where
  go := fun k H m' st e S c hk => by
    have : (rngW lo n).length = n := rngW_len
    have hk' : k < (rngW lo n).length := hk
    rw [this] at hk'; exact hk'
  stop := fun k H m' st e S c hk => by
    have : (rngW lo n).length = n := rngW_len
    have hk' : k = (rngW lo n).length := hk
    rw [this] at hk'; exact Nat.le_of_eq hk'.symm
  yld := fun k hk H v H' m' st e S c y => by
    obtain ⟨y1, y2⟩ := y
    refine ⟨y1, ?_⟩
    have q : (rngW lo n)[k]'hk = .int (lo + k) := rngW_get hk
    show RelW X.K m' H ((rngW lo n)[k]'hk) v
    rw [q, y2]
    exact mkInt
noncomputable def rng1W (ws : List Wv) (st : Hs) : Re Wk := match ws with
  | [.int j] => if CRng j then .ok (none, rngW 0 j.toNat) st else .bad
  | _ => .bad
noncomputable def rng2W (ws : List Wv) (st : Hs) : Re Wk := match ws with
  | [.int a, .int j] => if CRng a ∧ CRng j then .ok (none, rngW a (j - a).toNat) st else .bad
  | _ => .bad
noncomputable def giR1 (g : GA) : GI := fun ρ st => (g ρ st).bind rng1W
noncomputable def giR2 (g : GA) : GI := fun ρ st => (g ρ st).bind rng2W
theorem ji_r1 {tg a : Expr} {ga : GA} {p q : Pos} (hg : Gl X "range") (hm : X.mg "range" = none) (ha : JA X [a] ga) (hst : starEach [a] X.env = [(false, eval a X.env)]) : JI X tg (.Call (.Name "range" p) [a] [] q) (giR1 ga) := by
  refine ⟨_, pi_range1 hg hm pa_SA hst, fun ρ st σ H m Q S R p => ?_⟩
  refine ha.go S R (PostG.bind p) fun ws st1 vs m1 H1 p1 e1 S1 rs => ?_
  match ws, rs, p1 with
  | [], rs, p1 => exact False.elim p1
  | x :: y :: t, rs, p1 => cases x <;> exact False.elim p1
  | [x], rs, p1 =>
    obtain ⟨v, rfl, r1⟩ := rel1 rs
    cases x with
    | int j =>
      cases relInt r1
      unfold rng1W at p1
      by_cases c : CRng j
      · simp only [if_pos c] at p1
        exact ⟨j, rfl, c.1, c.2, p1 m1 H1 _ e1 S1 trivial it_rng⟩
      · simp only [if_neg c] at p1; exact False.elim p1
    | _ => exact False.elim p1
def gBadI : GI := fun _ _ => .bad
theorem pi_never {tg iter : Expr} : PI X tg iter (fun _ _ _ => False) := fun _ _ _ _ _ _ h => h.elim
theorem ji_bad {tg iter : Expr} : JI X tg iter gBadI := ⟨_, pi_never, fun ρ st σ H m Q S R p => p⟩
noncomputable def compRun (cs : Caps) (gt : GT) (ge : GE) (ρ : Rho) (w : Wk) (st : Hs) : Re Wv := match compG (ckOf w) (fun v => gt (some v :: capR cs ρ)) (fun v => ge (some v :: capR cs ρ)) st.length w.2 (st ++ [.lst []]) with
  | some stF => .ok (.ref st.length) stF
  | none => .bad
noncomputable def gComp (cs : Caps) (gi : GI) (gt : GT) (ge : GE) : GE := fun ρ st => (gi ρ st).bind fun w st1 => compRun cs gt ge ρ w st1
theorem lstOf_app {st : Hs} {l : Nat} {ws : List Wv} {more : Hs} (h : lstOf st l = some ws) : lstOf (st ++ more) l = some ws := by
  unfold lstOf at h ⊢
  cases e : st[l]? with
  | none => rw [e] at h; cases h
  | some o =>
    have hl := (List.getElem?_eq_some_iff.mp e).1
    rw [List.getElem?_append_left hl, e]
    rw [e] at h
    exact h
theorem ckOf_app {w : Wk} {st more : Hs} (h : ckOf w st) : ckOf w (st ++ more) := by
  obtain ⟨o, ws⟩ := w
  cases o with
  | none => trivial
  | some l => exact lstOf_app h
theorem comp_go {scope : Scope} {x : Str} {cs : Caps} {px pos : Pos} {elt iter : Expr} {ifs : List Expr} {gi : GI} {gt : GT} {ge : GE} {use : Option (Value → Sem Unit)} {Q : Value → Shared → Prop} {P : Wv → Hs → Prop}
    {ρ : Rho} {st : Hs} {σ : St} {H : Hp} {m : Mp} {pins : List (Addr × Obj)} {s : Shared} {ps : Pos}
    (CS : CScope X scope x cs) (hc : X.calm = true) (hi : JI X (.Name x px) iter gi) (hE : ∀ C s0 H0 fp pn, JE (compX X scope x cs C s0 H0 fp pn) elt ge) (hT : ∀ C s0 H0 fp pn, JTs (compX X scope x cs C s0 H0 fp pn) ifs gt) (hs : ∀ x, foldedSetIterable iter X.env x = pure x)
    (S : Sim X.K m st H) (R : RelEnv X.K m H ρ σ) (I : Inv X pins σ H s) (p : PostG X σ m H (gComp cs gi gt ge ρ st) P)
    (fin : ∀ (w : Wv) (stF : Hs) (v : V) (D C : Addr) (mm : Str → Option Value) (m' : Mp) (H' : Hp) (s' : Shared), P w stF → Ext X.K m H m' H' → Sim X.K m' stF H' → RelW X.K m' H' w v → v = .ref D → Inv X pins σ H' s' → FpOk X pins H' C → s'.heap.Ns C mm → compPost (model X.prog X.w) X.A X.xe use Q (.ref D) C (.ok .next) s') :
    wpAny (model X.prog X.w) X.A (comprehension (.ListComp elt [⟨.Name x px, iter, ifs, 0⟩] scope pos) scope X.env ps (newList []) false (eval iter X.env) use) Q X.xe s := by
  obtain ⟨wi, hpi, hw⟩ := hi
  let R' : It → Hp → Prop := fun J' H1 => ∃ (w : Wk) (st1 : Hs) (m1 : Mp), PostG X σ m H (compRun cs gt ge ρ w st1) P ∧ Ext X.K m H m1 H1 ∧ Sim X.K m1 st1 H1 ∧ ckOf w st1 ∧ ItFor X w m1 H1 J'
  have hr := hw ρ st σ H m R' S R ((PostG.bind p).imp Ext.refl fun w st1 q m1 H1 J' e1 S1 c1 it1 => ⟨w, st1, m1, q, e1, S1, c1, it1⟩)
  refine wpAny_comprehension_free (g := ⟨.Name x px, iter, ifs, 0⟩) (gs := []) (cl := clF X.env scope.names []) rfl hs (clos_is (CS.has I.ok)) CS.kind (fun y hy e => by rw [CS.look y hy, e]) (thn (hpi pins s σ H R' I hr) fun v s1 h1 => thn h1 fun itv s2 h2 => ?_)
  obtain ⟨it, fp, tn, J', H1, rfl, I2, T, t0, f2, w, st1, m1, q, e1, S1, c1, it1⟩ := h2
  unfold compRun at q
  cases run : compG (ckOf w) (fun v => gt (some v :: capR cs ρ)) (fun v => ge (some v :: capR cs ρ)) st1.length w.2 (st1 ++ [.lst []]) with
  | none => rw [run] at q; exact False.elim q
  | some stF =>
    rw [run] at q
    refine comp_block (RR := fun acc C => compPost (model X.prog X.w) X.A X.xe use Q acc C) CS hc I2 T t0 f2 S1 (R.mono e1) (ckOf_app c1) run (fun C s0 H0 pn => hE C s0 H0 fp pn) (fun C s0 H0 pn => hT C s0 H0 fp pn) it1.go it1.stop it1.yld ?_
    intro D C mm m' H' s' e' S' lab I' fC ns _
    exact fin _ stF (.ref D) D C mm m' H' s' q (e1.trans e') S' (by unfold RelW; exact ⟨D, rfl, lab⟩) rfl I' fC ns
theorem je_comp {scope : Scope} {x : Str} {cs : Caps} {px pos : Pos} {elt iter : Expr} {ifs : List Expr} {gi : GI} {gt : GT} {ge : GE}
    (CS : CScope X scope x cs) (hc : X.calm = true) (hi : JI X (.Name x px) iter gi) (hE : ∀ C s0 H0 fp pn, JE (compX X scope x cs C s0 H0 fp pn) elt ge) (hT : ∀ C s0 H0 fp pn, JTs (compX X scope x cs C s0 H0 fp pn) ifs gt) (hs : ∀ x, foldedSetIterable iter X.env x = pure x) :
    JE X (.ListComp elt [⟨.Name x px, iter, ifs, 0⟩] scope pos) (gComp cs gi gt ge) := fun ρ st σ H m Q S R p pins s I => by
  rw [eval_ListComp]
  refine comp_go (use := none) CS hc hi hE hT hs S R I p ?_
  intro w stF v D C mm m' H' s' q e' S' rw' ev I' fC ns
  exact ⟨mm, ns, fun h' same => ⟨.ref D, H', comp_gone I' fC same, rfl, ev ▸ q v m' H' e' S' rw'⟩⟩
theorem js_setC (i : Nat) {scope : Scope} {x y : Str} {cs : Caps} {px pos spos py : Pos} {elt iter : Expr} {ifs : List Expr} {gi : GI} {gt : GT} {ge : GE} (hN : X.N.Nodup)
    (CS : CScope X scope x cs) (hc : X.calm = true) (hi : JI X (.Name x px) iter gi) (hE : ∀ C s0 H0 fp pn, JE (compX X scope x cs C s0 H0 fp pn) elt ge) (hT : ∀ C s0 H0 fp pn, JTs (compX X scope x cs C s0 H0 fp pn) ifs gt) (hs : ∀ x, foldedSetIterable iter X.env x = pure x)
    (hx : X.N[i]? = some y) (hl : Loc X.env.scope y) (hf : X.fn y = true ∨ X.env.scope.names.lookup y = some .local) :
    JS X (.Assign [.Name y py] (.ListComp elt [⟨.Name x px, iter, ifs, 0⟩] scope pos) spos) (gSet i (gComp cs gi gt ge)) := by
  have sw : ∃ b, swapsWith (.ListComp elt [⟨.Name x px, iter, ifs, 0⟩] scope pos) (some (.Name y py)) spos.line X.env = pure b := ⟨_, rfl⟩
  obtain ⟨b, sw⟩ := sw
  cases b with
  | false => exact js_set i hN (je_comp CS hc hi hE hT hs) hx hl sw hf
  | true =>
    intro ρ st σ H m D S R p pins s I
    rw [exec_Assign_Name_used _ _ _ _ sw]
    refine wpAny_bind (wpAny_standAt (wpAny_bind ?_))
    show wpAny _ X.A (do let _ ← comprehension (.ListComp elt [⟨.Name x px, iter, ifs, 0⟩] scope pos) scope X.env _ (newList []) false (eval iter X.env) (some (assign (.Name y py) X.env))) _ _ s
    refine wpAny_bind (wpAny_mono (comp_go (use := some (assign (.Name y py) X.env)) (Q := fun _ s' => SP X pins D .next s') CS hc hi hE hT hs S R I (PostS.of_thn R p) ?_) (fun _ s' hq => wpAny_pure (wpAny_pure hq)) fun _ _ e => e)
    intro w stF v D' C mm m' H' s' q e' S' rw' ev I' fC ns
    refine wpAny_assign_Name (store_ok2 (i := i) I' hN hx hl (show RelV v (.ref D') by rw [ev]; rfl) (fun s2 I2 h2 => ?_) hf)
    obtain ⟨a, sb, ha⟩ := h2
    have hca : C ≠ a := by
      rcases ha with z | z
      · rw [z]; exact fC.2.1
      · exact Ne.symm (fC.2.2.2.2.1 y a z)
    exact ⟨mm, ns.sameBut sb hca, fun h' same => ⟨_, _, comp_gone I2 fC same, q _ m' H' e' S' ((R.mono e').set i rw')⟩⟩
end
end J
namespace J
open PySem PySem.Spec PyProof.Rows L2
section
variable {X : Cx}
def CRep (n : Nat) (k : Int) : Prop := -(2 ^ 62) ≤ k ∧ k < 2 ^ 62 ∧ n * k.toNat ≤ lim
noncomputable instance {n k} : Decidable (CRep n k) := Classical.propDecidable _
noncomputable def oMulL0 : Op2
  | .ref l, .int n, st => match st[l]? with
    | some (.lst ws) => if CRep ws.length n then .ok (.ref st.length) (st ++ [.lst (List.replicate n.toNat ws).flatten]) else .bad
    | _ => .bad
  | x, y, st => oMulS x y st
theorem relWs_rep {K : PySem.W.Frag} {m : Mp} {H : Hp} {ws : List Wv} {xs : List V} (r : RelWs K m H ws xs) : ∀ n : Nat, RelWs K m H (List.replicate n ws).flatten (List.replicate n xs).flatten
  | 0 => RelWs.nil
  | n + 1 => by
    rw [List.replicate_succ, List.flatten_cons, List.replicate_succ, List.flatten_cons]
    exact r.append (relWs_rep r n)
theorem ow_mulL : OpW X (binaryOp .Mult) oMulL0 := by
  obtain ⟨r, h1, h2⟩ := ow_mulS (X := X)
  refine ⟨_, OpR.or op_rep h1, fun x y a b st H m Q S rx ry p => ?_⟩
  unfold oMulL0 at p
  split at p
  · rename_i l n
    unfold RelW at rx
    obtain ⟨a1, rfl, hl⟩ := rx
    cases relInt ry
    cases e : st[l]? with
    | none => rw [e] at p; exact False.elim p
    | some o =>
      cases o with
      | dct kvs => rw [e] at p; exact False.elim p
      | dcT kvs => rw [e] at p; exact False.elim p
      | scr ns => rw [e] at p; exact False.elim p
      | lst ws =>
        rw [e] at p
        dsimp only at p
        by_cases c : CRep ws.length n
        · rw [if_pos c] at p
          obtain ⟨xs, q1, q2⟩ := S.lstAt hl e
          refine .inl ⟨a1, n, xs, rfl, rfl, q1, by have := c.1; omega, by have := c.2.1; omega, by rw [← q2.length]; exact lim_le c.2.2, fun q hq => ?_⟩
          exact new_list p Ext.refl S (relWs_rep q2 n.toNat) q hq
        · rw [if_neg c] at p; exact False.elim p
  · exact .inr (h2 x y a b st H m Q S rx ry p)
def oTupC : List Wv → Hs → Re Wv
  | [.ref l], st => match lstOf st l with
    | some ws => .ok (.tup ws) st
    | none => .bad
  | [.tup ws], st => .ok (.tup ws) st
  | _, _ => .bad
theorem cw_tup : CallW X (.type "tuple") oTupC := ⟨_, call_tuple_of, fun ws vs st H m Q S rs p => by
  match ws, rs, p with
  | [], rs, p => exact False.elim p
  | x :: y :: t, rs, p => cases x <;> exact False.elim p
  | [x], rs, p =>
    obtain ⟨v, rfl, r1⟩ := rel1 rs
    cases x with
    | ref l =>
      unfold oTupC at p
      unfold RelW at r1
      obtain ⟨a, rfl, hl⟩ := r1
      cases e : lstOf st l with
      | none => simp only [e] at p; exact False.elim p
      | some ws =>
        simp only [e] at p
        obtain ⟨xs, q1, q2⟩ := S.read hl e
        refine ⟨a, xs, rfl, .inl ⟨q1, fun q hq => ?_⟩⟩
        have e2 : Ext X.K m H m (upd H q (.tup xs)) := Ext.upd (.inl hq)
        exact p (.ref q) m _ e2 (S.fresh hq) (by unfold RelW; exact ⟨q, xs, rfl, upd_same, RelWs.mono e2 _ _ q2⟩)
    | tup ws =>
      have r1' := r1
      unfold RelW at r1'
      obtain ⟨a, xs, rfl, q1, q2⟩ := r1'
      exact ⟨a, xs, rfl, .inr ⟨SqT.of q1, p _ m H Ext.refl S r1⟩⟩
    | _ => exact False.elim p⟩
end
end J
namespace J
open PySem PySem.Spec PyProof.Rows L2
section
variable {X : Cx}
def intsOf : List Wv → Option (List Int)
  | [] => some []
  | .int b :: r => (match intsOf r with | some l => some (b :: l) | none => none)
  | _ => none
theorem intsOf_map : ∀ ns : List Int, intsOf (ns.map Wv.int) = some ns
  | [] => rfl
  | n :: r => by rw [List.map_cons]; unfold intsOf; rw [intsOf_map r]
theorem intsOf_rel {K : PySem.W.Frag} {m : Mp} {H : Hp} : ∀ {ws : List Wv} {xs : List V} {bs : List Int}, RelWs K m H ws xs → intsOf ws = some bs → xs = bs.map V.int
  | [], xs, bs, r, h => by
    unfold RelWs at r
    cases h
    exact r
  | w :: ws, xs, bs, r, h => by
    unfold RelWs at r
    obtain ⟨x, t, rfl, r1, r2⟩ := r
    cases w with
    | int b =>
      unfold intsOf at h
      cases e : intsOf ws with
      | none => rw [e] at h; cases h
      | some l =>
        rw [e] at h
        cases h
        unfold RelW at r1
        rw [r1, intsOf_rel r2 e]
        rfl
    | _ => cases h
theorem vals_int : ∀ {ns : List Int} {its : List Value}, Vals (ns.map V.int) its → ∃ xs : List (Int × Tok), its = xs.map (fun p => Value.int p.1 p.2) ∧ xs.map (·.1) = ns
  | [], its, r => by cases r; exact ⟨[], rfl, rfl⟩
  | n :: ns, its, r => by
    cases r with
    | cons h t =>
      obtain ⟨tk, rfl⟩ := h
      obtain ⟨xs, e1, e2⟩ := vals_int t
      exact ⟨(n, tk) :: xs, by rw [e1]; rfl, by rw [← e2]; rfl⟩
theorem numAt_map (xs : List (Int × Tok)) (i : Nat) : numAt xs.toArray i = (xs.map (·.1)).getD i 0 := by
  unfold numAt
  rw [List.getElem?_toArray, List.getD_eq_getElem?_getD, List.getElem?_map]
theorem preSum_map (xs : List (Int × Tok)) : ∀ k, preSum (numAt xs.toArray) k = ((xs.map (·.1)).take k).sum
  | 0 => by simp [preSum]
  | k + 1 => by
    unfold preSum
    rw [preSum_map xs k, numAt_map]
    rw [PySem.sum_take_succ]
theorem call_sumI (hc : X.calm = true) : CallR X (.builtin "sum") (fun xs H Q => ∃ (p : Addr) (ns : List Int), xs = [.ref p] ∧ SqL X.K H p (ns.map V.int) ∧ Q (.int ns.sum) H) := by
  intro pins s σ H xs us Q I r h
  obtain ⟨p, ns, rfl, hq, q⟩ := h
  obtain ⟨u, rfl, rx⟩ := vals1 r
  cases rx
  obtain ⟨its, r', pl, hz⟩ := I.list hq
  obtain ⟨xs, rfl, rfl⟩ := vals_int r'
  have hl := pl.isList
  have e : (xs.map fun p => Value.int p.1 p.2).toArray = intItems xs.toArray := by unfold intItems; simp
  rw [e] at hl
  refine sum_intListG (I.ok.hd hc) hl fun h' tk t' hk => ⟨.int _, H, I.kept hk, ⟨t', ?_⟩, q⟩
  rw [preSum_map, List.take_of_length_le (by simp)]
def oSum : List Wv → Hs → Re Wv
  | [.ref l], st => match lstOf st l with
    | some ws => (match intsOf ws with | some ns => .ok (.int ns.sum) st | none => .bad)
    | none => .bad
  | _, _ => .bad
theorem cw_sum (hc : X.calm = true) : CallW X (.builtin "sum") oSum := ⟨_, call_sumI hc, fun ws vs st H m Q S rs p => by
  match ws, rs, p with
  | [], rs, p => exact False.elim p
  | x :: y :: t, rs, p => cases x <;> exact False.elim p
  | [x], rs, p =>
    obtain ⟨v, rfl, r1⟩ := rel1 rs
    cases x with
    | ref l =>
      unfold oSum at p
      unfold RelW at r1
      obtain ⟨a, rfl, hl⟩ := r1
      cases e : lstOf st l with
      | none => simp only [e] at p; exact False.elim p
      | some ws =>
        simp only [e] at p
        cases e2 : intsOf ws with
        | none => simp only [e2] at p; exact False.elim p
        | some bs =>
          simp only [e2] at p
          obtain ⟨xs, q1, q2⟩ := S.read hl e
          have q3 := intsOf_rel q2 e2
          subst q3
          exact ⟨a, bs, rfl, q1, p _ m H Ext.refl S mkInt⟩
    | _ => exact False.elim p⟩
def mxI (n : Int) (r : List Int) : Int := r.foldl (fun a b => if b > a then b else a) n
def mnI (n : Int) (r : List Int) : Int := r.foldl (fun a b => if b < a then b else a) n
theorem mnI_is : ∀ (r : List Int) (n : Int), mnI n r ∈ n :: r ∧ ∀ a ∈ n :: r, mnI n r ≤ a
  | [], n => by simp [mnI]
  | b :: r, n => by
    have e : mnI n (b :: r) = mnI (if b < n then b else n) r := rfl
    obtain ⟨h1, h2⟩ := mnI_is r (if b < n then b else n)
    rw [e]
    constructor
    · rcases List.mem_cons.mp h1 with z | z
      · rw [z]; split <;> simp
      · simp [z]
    · intro a ha
      have hn : mnI (if b < n then b else n) r ≤ n ∧ mnI (if b < n then b else n) r ≤ b := by
        have q := h2 _ List.mem_cons_self
        revert q
        split <;> intro q <;> constructor <;> omega
      rcases List.mem_cons.mp ha with z | z
      · rw [z]; exact hn.1
      · rcases List.mem_cons.mp z with z | z
        · rw [z]; exact hn.2
        · exact h2 a (List.mem_cons_of_mem _ z)
theorem mn_eq {n M : Int} {r : List Int} (h : M ∈ n :: r) (k : ∀ a ∈ n :: r, M ≤ a) : M = mnI n r := by
  obtain ⟨h1, h2⟩ := mnI_is r n
  have := h2 M h
  have := k _ h1
  omega
theorem getD_memJ {l : List Int} {i : Nat} (h : i < l.length) : l.getD i 0 ∈ l := by
  rw [List.getD_eq_getElem?_getD, List.getElem?_eq_getElem h]
  exact List.getElem_mem h
theorem call_minL (hc : X.calm = true) : CallR X (.builtin "min") (fun xs H Q => ∃ (p : Addr) (n : Int) (ns : List Int), xs = [.ref p] ∧ SqL X.K H p ((n :: ns).map V.int) ∧ Q (.int (mnI n ns)) H) := by
  intro pins s σ H xs us Q I r h
  obtain ⟨p, n, ns, rfl, hq, q⟩ := h
  obtain ⟨u, rfl, rx⟩ := vals1 r
  cases rx
  obtain ⟨its, r', pl, hz⟩ := I.list hq
  obtain ⟨xs, rfl, e0⟩ := vals_int r'
  have hl := pl.isList
  have e : (xs.map fun p => Value.int p.1 p.2).toArray = intItems xs.toArray := by unfold intItems; simp
  rw [e] at hl
  have hsz : xs.length = (n :: ns).length := by rw [← e0]; simp
  have hs0 : 0 < xs.toArray.size := by simp [hsz]
  refine min_intList (I.ok.hd hc) hl hs0 fun v h' tk hv hk => ?_
  obtain ⟨t, rfl⟩ := intItems_at hv
  obtain ⟨h1, h2⟩ := PySem.argBest_lt (numAt xs.toArray) (xs.toArray.size - 1)
  refine ⟨.int _, H, I.kept hk, ⟨t, ?_⟩, q⟩
  congr 1
  have hn := fun i => numAt_map xs i
  rw [e0] at hn
  refine mn_eq ?_ fun a ha => ?_
  · rw [hn]
    refine getD_memJ ?_
    have : xs.toArray.size = (n :: ns).length := by simp [hsz]
    omega
  · obtain ⟨j, hj, rfl⟩ := List.mem_iff_getElem.mp ha
    have q2 := h2 j (by have : xs.toArray.size = (n :: ns).length := by simp [hsz]
                        omega)
    rw [hn j, List.getD_eq_getElem?_getD, List.getElem?_eq_getElem hj] at q2
    exact q2
def oMax2 : List Wv → Hs → Re Wv
  | [.ref l], st => match lstOf st l with
    | some ws => (match intsOf ws with | some (n :: r) => .ok (.int (mxI n r)) st | _ => .bad)
    | none => .bad
  | ws, st => oMax ws st
def oMin2 : List Wv → Hs → Re Wv
  | [.ref l], st => match lstOf st l with
    | some ws => (match intsOf ws with | some (n :: r) => .ok (.int (mnI n r)) st | _ => .bad)
    | none => .bad
  | ws, st => oMin ws st
theorem CallW.or {f : Value} {op op' : List Wv → Hs → Re Wv} (g : List Wv → Hs → Re Wv) (h : CallW X f op) (h' : CallW X f op') (k : ∀ ws st, g ws st = op ws st ∨ g ws st = op' ws st) : CallW X f g := by
  obtain ⟨r, h1, h2⟩ := h
  obtain ⟨r', h1', h2'⟩ := h'
  refine ⟨_, h1.or h1', fun ws vs st H m Q S rs p => ?_⟩
  rcases k ws st with e | e
  · rw [e] at p; exact .inl (h2 ws vs st H m Q S rs p)
  · rw [e] at p; exact .inr (h2' ws vs st H m Q S rs p)
def oMinL : List Wv → Hs → Re Wv
  | [.ref l], st => match lstOf st l with
    | some ws => (match intsOf ws with | some (n :: r) => .ok (.int (mnI n r)) st | _ => .bad)
    | none => .bad
  | _, _ => .bad
theorem cw_minL (hc : X.calm = true) : CallW X (.builtin "min") oMinL := ⟨_, call_minL hc, fun ws vs st H m Q S rs p => by
  match ws, rs, p with
  | [], rs, p => exact False.elim p
  | x :: y :: t, rs, p => cases x <;> exact False.elim p
  | [x], rs, p =>
    obtain ⟨v, rfl, r1⟩ := rel1 rs
    cases x with
    | ref l =>
      unfold oMinL at p
      unfold RelW at r1
      obtain ⟨a, rfl, hl⟩ := r1
      cases e : lstOf st l with
      | none => simp only [e] at p; exact False.elim p
      | some ws =>
        simp only [e] at p
        cases e2 : intsOf ws with
        | none => simp only [e2] at p; exact False.elim p
        | some bs =>
          cases bs with
          | nil => simp only [e2] at p; exact False.elim p
          | cons n bs =>
            simp only [e2] at p
            obtain ⟨xs, q1, q2⟩ := S.read hl e
            have q3 := intsOf_rel q2 e2
            subst q3
            exact ⟨a, n, bs, rfl, q1, p _ m H Ext.refl S mkInt⟩
    | _ => exact False.elim p⟩
theorem cw_min2 (hc : X.calm = true) : CallW X (.builtin "min") oMin2 := CallW.or oMin2 (cw_minL hc) (cw_min hc) fun ws st => by
  unfold oMin2 oMinL
  split
  · exact .inl rfl
  · exact .inr rfl
end
end J
namespace J
open PySem PySem.Spec PyProof.Rows L2
section
variable {X : Cx}
theorem strOk_iff {z : PySem.Str} : PyData.strOk z = true ↔ ∀ c ∈ z.cps.toList, c < 1114112 := by
  unfold PyData.strOk
  rw [Array.all_eq_true_iff_forall_mem]
  constructor
  · intro h c hc
    simpa using h c (Array.mem_toList_iff.mp hc)
  · intro h c hc
    simpa using h c (Array.mem_toList_iff.mpr hc)
end
end J
namespace J
open PySem PySem.Spec PyProof.Rows L2
section
variable {X : Cx}
theorem sl_str : SlR X (fun x lo hi H Q => ∃ z, x = .str z ∧ z.length ≤ sizeLine ∧ Q (.str (Txt.slice z lo hi)) H) := by
  intro pins s σ H x v vl vu lo hi sl Q I rx hs pl pu h
  obtain ⟨z, rfl, hz, q⟩ := h
  obtain ⟨t, rfl⟩ := rx
  have fin : ∀ t' k, EP X pins σ Q (.str (Txt.slice z lo hi) t') { s with toks := k } := fun t' k => ⟨.str _, H, I.tok k, ⟨t', rfl⟩, q⟩
  refine ⟨"str", _, PySem.F.slot_str_getitem.lookup, typeIs_str _ _ _, ?_⟩
  have hl := Nat.le_trans (Txt.slice_le z lo hi) hz
  cases pl with
  | none =>
    cases pu with
    | none => exact wpAny_getItem_str_slice (l := none) (u := none) (st := none) hs rfl (post_val_or_str ⟨hl, fin⟩)
    | int j tj => exact wpAny_getItem_str_slice (l := none) (u := some (j, tj)) (st := none) hs rfl (post_val_or_str ⟨hl, fin⟩)
  | int i ti =>
    cases pu with
    | none => exact wpAny_getItem_str_slice (l := some (i, ti)) (u := none) (st := none) hs rfl (post_val_or_str ⟨hl, fin⟩)
    | int j tj => exact wpAny_getItem_str_slice (l := some (i, ti)) (u := some (j, tj)) (st := none) hs rfl (post_val_or_str ⟨hl, fin⟩)
theorem mem_slice {z : PySem.Str} {lo hi : Option Int} {c : Nat} (h : c ∈ (Txt.slice z lo hi).cps.toList) : c ∈ z.cps.toList := by
  unfold Txt.slice at h
  split at h
  · exact h
  · simp only [List.mem_filterMap] at h
    obtain ⟨i, _, e⟩ := h
    rw [Array.getElem?_eq_some_iff] at e
    obtain ⟨hi, rfl⟩ := e
    exact Array.mem_toList_iff.mpr (Array.getElem_mem hi)
theorem strOk_slice {z : PySem.Str} {lo hi : Option Int} (h : PyData.strOk z = true) : PyData.strOk (Txt.slice z lo hi) = true := by
  rw [strOk_iff] at h ⊢
  exact fun c hc => h c (mem_slice hc)
end
section
open HT
theorem getItem_whole {prog : Program} {w : World} {A : Around} {E : Value → Shared → Prop} {s : Shared} {t sl : Addr} {us : Array Value} {vl vu : Value} {lo hi : Option Int} {Q : Value → Shared → Prop} (ht : IsTup s.heap t us) (hs : s.heap.IsSliceOf sl vl vu .none) (pl : IsPart vl lo) (pu : IsPart vu hi)
    (hw : sIx us.size 0 lo = 0 ∧ sIx us.size us.size hi = us.size) (h : Q (.ref t) s) : wpAny (model prog w) A (getItem (.ref t) (.ref sl)) Q E s := by
  obtain ⟨os, o1, o2, o3⟩ := id hs
  have tys : s.TypeIs (.ref sl) "slice" := ⟨os, o1, o2⟩
  unfold getItem; try with_reducible refine wpAny_holding ?_
  first | refine wpAny_bind (wpAny_pure ?_) | skip
  refine wpAny_bind (wpAny_sequenceKey ht.typeIs (by decide) ?_); refine wpAny_bind (wpAny_callSpecial?_slot (name := Str.ofString "__getitem__") ht.typeIs PyProof.Rows.slot_tuple_getitem (wpAny_call_entry PyProof.Rows.slot_tuple_getitem ht.typeIs entry_tuple_getitem ?_ (args_tuple_getitem _ _)))
  show wpAny _ _ (Builtin.Tuple.tupleItemsOf (.ref t) >>= _) _ _ _; refine wpAny_bind (tupleItemsOf_ ht ?_); refine wpAny_bind (wpAny_typeOf tys ?_)
  rw [if_pos (by decide)]; refine wpAny_bind (sliceApplied_gen hs pl pu ?_)
  rw [hw.1, hw.2]
  have yes : ((((0 : Nat) : Int)) == 0 && (1 : Int) == 1 && (us.size - 0) == us.size) = true := by simp
  show wpAny _ _ (if ((((0 : Nat) : Int)) == 0 && (1 : Int) == 1 && (us.size - 0) == us.size) = true then _ else _) _ _ s
  rw [if_pos yes]
  refine wpAny_bind (m := Builtin.Tuple.tupleIsExact _) ?_
  unfold Builtin.Tuple.tupleIsExact
  refine wpAny_bind (wpAny_typeOf ht.typeIs (wpAny_pure ?_))
  rw [if_pos (by decide)]
  exact wpAny_bind (wpAny_rule (wpAny_pure ⟨_, rfl, wpAny_pure h⟩))
end
section
variable {X : Cx}
def rSlW (K : PySem.W.Frag) : V → Option Int → Option Int → Hp → VK → Prop := fun x lo hi H Q => ∃ a xs, x = .ref a ∧ SqT K H a xs ∧ (HT.sIx xs.length 0 lo = 0 ∧ HT.sIx xs.length xs.length hi = xs.length) ∧ Q (.ref a) H
theorem sl_whole : SlR X (rSlW X.K) := by
  intro pins s σ H x v vl vu lo hi sl Q I rx hs pl pu h
  obtain ⟨a, xs, rfl, hx, hw, q⟩ := h
  cases rx
  obtain ⟨its, r, ht, hz⟩ := I.tuple hx
  have n : its.toArray.size = xs.length := by rw [List.size_toArray]; exact r.length.symm
  exact ⟨"tuple", _, PyProof.Rows.slot_tuple_getitem.lookup, ht.typeIs, getItem_whole ht hs pl pu (by rw [n]; exact hw) ⟨.ref a, H, I, rfl, q⟩⟩
def isWh (n : Nat) (lo hi : Option Int) : Prop := HT.sIx n 0 lo = 0 ∧ HT.sIx n n hi = n
instance {n : Nat} {lo hi : Option Int} : Decidable (isWh n lo hi) := inferInstanceAs (Decidable (HT.sIx n 0 lo = 0 ∧ HT.sIx n n hi = n))
def oSl2 (x : Wv) (lo hi : Option Int) (st : Hs) : Re Wv := match x with
  | .str z => if z.length ≤ lim then .ok (.str (Txt.slice z lo hi)) st else .bad
  | .tup ws => if isWh ws.length lo hi then .ok (.tup ws) st else oSl (.tup ws) lo hi st
  | x => oSl x lo hi st
def gSlice2 (ga : GE) (gl gh : GO) : GE := fun ρ st => (ga ρ st).bind fun x st1 => (gl ρ st1).bind fun lo st2 => (gh ρ st2).bind fun hi st3 => oSl2 x lo hi st3
theorem je_slice2 {a : Expr} {lo hi : Option Expr} {ga : GE} {gl gh : GO} {pos p2 : Pos} (ha : JE X a ga) (hl : JO X lo gl) (hh : JO X hi gh) : JE X (.Subscript a (.Slice lo hi none p2) pos) (gSlice2 ga gl gh) := by
  have hS : JE X (.Subscript a (.Slice lo hi none p2) pos) (fun ρ st => (ga ρ st).bind fun x st1 => (gl ρ st1).bind fun lo st2 => (gh ρ st2).bind fun hi st3 => match x with | .str z => if z.length ≤ lim then .ok (.str (Txt.slice z lo hi)) st3 else .bad | _ => .bad) := by
    refine JE.of (pe_slice sl_str pe_SE po_SO po_SO) fun ρ st σ H m Q S R p => ?_
    refine ha.go S R (PostG.bind p) fun x st1 v m1 H1 p1 e1 S1 rx => ?_
    refine hl.go S1 (R.mono e1) ((PostG.bind p1).imp e1 fun _ _ q => q) fun l st2 m2 H2 p2 e2 S2 => ?_
    refine hh.go S2 (R.mono (e1.trans e2)) ((PostG.bind p2).imp (e1.trans e2) fun _ _ q => q) fun h st3 m3 H3 p3 e3 S3 => ?_
    have e13 := e1.trans (e2.trans e3)
    cases x with
    | str z =>
      dsimp only at p3
      by_cases c : z.length ≤ lim
      · rw [if_pos c] at p3
        unfold RelW at rx
        obtain ⟨rfl, hz⟩ := rx
        exact ⟨z, rfl, lim_le c, p3 _ m3 H3 e13 S3 (mkStr (strOk_slice hz))⟩
      · rw [if_neg c] at p3; exact False.elim p3
    | _ => exact False.elim p3
  have hW : JE X (.Subscript a (.Slice lo hi none p2) pos) (fun ρ st => (ga ρ st).bind fun x st1 => (gl ρ st1).bind fun lo st2 => (gh ρ st2).bind fun hi st3 => match x with | .tup ws => if isWh ws.length lo hi then .ok (.tup ws) st3 else oSl (.tup ws) lo hi st3 | _ => .bad) := by
    refine JE.of (pe_slice (SlR.or sl_whole sl_tup) pe_SE po_SO po_SO) fun ρ st σ H m Q S R p => ?_
    refine ha.go S R (PostG.bind p) fun x st1 v m1 H1 p1 e1 S1 rx => ?_
    refine hl.go S1 (R.mono e1) ((PostG.bind p1).imp e1 fun _ _ q => q) fun l st2 m2 H2 p2 e2 S2 => ?_
    refine hh.go S2 (R.mono (e1.trans e2)) ((PostG.bind p2).imp (e1.trans e2) fun _ _ q => q) fun h st3 m3 H3 p3 e3 S3 => ?_
    have e13 := e1.trans (e2.trans e3)
    cases x with
    | tup ws =>
      dsimp only at p3
      have rx' := RelW.mono (e2.trans e3) _ _ rx
      unfold RelW at rx'
      obtain ⟨a', xs, rfl, f1, f2⟩ := rx'
      by_cases c : isWh ws.length l h
      · rw [if_pos c] at p3
        unfold isWh at c
        rw [f2.length] at c
        exact .inl ⟨a', xs, rfl, SqT.of f1, c, p3 _ m3 H3 e13 S3 (by unfold RelW; exact ⟨a', xs, rfl, f1, f2⟩)⟩
      · rw [if_neg c] at p3
        unfold oSl at p3
        dsimp only at p3
        unfold isWh at c
        rw [if_neg c] at p3
        rw [f2.length] at c
        refine .inr ⟨a', xs, rfl, SqT.of f1, c, fun q hq => ?_⟩
        have eU : Ext X.K m3 H3 m3 (L2.upd H3 q (.tup (cutV xs l h))) := Ext.updW (.inl hq)
        exact p3 (.ref q) m3 _ (e13.trans eU) (S3.fresh hq) (by unfold RelW; exact ⟨q, _, rfl, L2.upd_same, RelWs.mono eU _ _ (cut_rel f2)⟩)
    | _ => exact False.elim p3
  intro ρ st σ H m Q S R p
  unfold gSlice2 at p
  cases e1 : ga ρ st with
  | bad => rw [e1] at p; exact False.elim p
  | err c st1 => rw [e1] at p; exact je_slice ha hl hh ρ st σ H m Q S R (by unfold gSlice; rw [e1]; exact p)
  | ok x st1 =>
    rw [e1] at p
    cases x with
    | str z => exact hS ρ st σ H m Q S R (by dsimp only; rw [e1]; exact p)
    | tup ws => exact hW ρ st σ H m Q S R (by dsimp only; rw [e1]; exact p)
    | _ => exact je_slice ha hl hh ρ st σ H m Q S R (by unfold gSlice; rw [e1]; exact p)
def oIn2 : Op2
  | .str i, .str j, st => .ok (.bl (!(Builtin.Str.occurrences j i 0 j.length 1).isEmpty)) st
  | x, y, st => oIn x y st
def oNotIn2 : Op2
  | .str i, .str j, st => .ok (.bl (!(!(Builtin.Str.occurrences j i 0 j.length 1).isEmpty))) st
  | x, y, st => oNotIn x y st
theorem ow_in2 : OpW X (compareOp .In) oIn2 := by
  obtain ⟨r, h1, h2⟩ := ow_in (X := X)
  refine ⟨_, OpR.or op_in_str h1, fun x y a b st H m Q S rx ry p => ?_⟩
  unfold oIn2 at p
  split at p
  · rename_i i j
    unfold RelW at rx ry
    obtain ⟨rfl, _⟩ := rx
    obtain ⟨rfl, _⟩ := ry
    exact .inl ⟨i, j, rfl, rfl, p _ m H Ext.refl S mkBl⟩
  · exact .inr (h2 x y a b st H m Q S rx ry p)
theorem ow_notIn2 : OpW X (compareOp .NotIn) oNotIn2 := by
  obtain ⟨r, h1, h2⟩ := ow_notIn (X := X)
  refine ⟨_, OpR.or op_notIn_str h1, fun x y a b st H m Q S rx ry p => ?_⟩
  unfold oNotIn2 at p
  split at p
  · rename_i i j
    unfold RelW at rx ry
    obtain ⟨rfl, _⟩ := rx
    obtain ⟨rfl, _⟩ := ry
    exact .inl ⟨i, j, rfl, rfl, p _ m H Ext.refl S mkBl⟩
  · exact .inr (h2 x y a b st H m Q S rx ry p)
end
end J
namespace J
open PySem PySem.Spec PyProof.Rows L2 PySem.W
section
variable {X : Cx}
end
section
variable {X : Cx}
end
section
variable {X : Cx}
end
end J
namespace J
open PySem PySem.Spec PyProof.Rows L2
def Its (x : Str) : It := ⟨fun i _ => i < x.cps.size, fun i H v H' => H' = H ∧ ∃ c, x.cps[i]? = some c ∧ v = .str ⟨#[c]⟩, fun i _ => x.cps.size ≤ i⟩
theorem turn_ascii {P : Program} {w : World} {K : PySem.W.Frag} {tg : Expr} (x : Str) (t : Tok) (it : Addr) : Turn P w K tg (Its x) [it] it (fun i h => h.IsStrIter it "str_ascii_iterator" x t i) where
  mem := List.mem_singleton.mpr rfl
  obj := fun i h st b hb => by
    cases List.mem_singleton.mp hb
    obtain ⟨o, e, c, d⟩ := st
    exact ⟨o, e, fun v z => by rw [d] at z; cases z⟩
  keep := fun i h h' st k => let ⟨o, e, r⟩ := st; ⟨o, k it (List.mem_singleton.mpr rfl) o e, r⟩
  item := by
    intro X hP hw hK hc i pins s σ H E I hf st hg
    subst hP; subst hw; subst hK
    obtain ⟨f0, f1, f2, f3, f4, f5⟩ := hf it (List.mem_singleton.mpr rfl)
    have hi : i < x.cps.size := hg
    refine wpAny_pyNext_ascii_item st (c := x.cps[i]) (by simp [hi]) fun h' st' sb => ?_
    have I1 : L2.Inv X pins σ H { s with heap := h', toks := s.toks + 1 } := I.turned (t' := s.toks + 1) (fun b o hb e => sb.extBut b o hb e) f0 f1 f3 f4 f5
    obtain ⟨o, e, c, d⟩ := id st'
    exact ⟨_, rfl, go_of (s := { s with heap := h', toks := s.toks + 1 }) e c d (by decide) ⟨.str ⟨#[x.cps[i]]⟩, H, I1, ⟨_, rfl⟩, ⟨rfl, _, by simp [hi], rfl⟩, st', fun b hb => (hf b hb).1⟩⟩
  done := by
    intro X hP hw hK hc i pins s σ H E I hf st hg
    subst hP; subst hw; subst hK
    obtain ⟨f0, f1, f2, f3, f4, f5⟩ := hf it (List.mem_singleton.mpr rfl)
    have hi : x.cps.size ≤ i := hg
    exact wpAny_pyNext_ascii_end (I.ok.hd hc) st (by simp [hi]) fun h' eb => ⟨rfl, I.turned (t' := s.toks) (fun b o hb e => eb b o hb e) f0 f1 f3 f4 f5⟩
  self := fun _ _ _ _ _ st h => wpAny_pyIter_striter_ascii st h
theorem turn_wide {P : Program} {w : World} {K : PySem.W.Frag} {tg : Expr} (x : Str) (t : Tok) (it : Addr) : Turn P w K tg (Its x) [it] it (fun i h => h.IsStrIter it "str_iterator" x t i) where
  mem := List.mem_singleton.mpr rfl
  obj := fun i h st b hb => by
    cases List.mem_singleton.mp hb
    obtain ⟨o, e, c, d⟩ := st
    exact ⟨o, e, fun v z => by rw [d] at z; cases z⟩
  keep := fun i h h' st k => let ⟨o, e, r⟩ := st; ⟨o, k it (List.mem_singleton.mpr rfl) o e, r⟩
  item := by
    intro X hP hw hK hc i pins s σ H E I hf st hg
    subst hP; subst hw; subst hK
    obtain ⟨f0, f1, f2, f3, f4, f5⟩ := hf it (List.mem_singleton.mpr rfl)
    have hi : i < x.cps.size := hg
    refine wpAny_pyNext_wide_item st (c := x.cps[i]) (by simp [hi]) fun h' st' sb => ?_
    have I1 : L2.Inv X pins σ H { s with heap := h', toks := s.toks + 1 } := I.turned (t' := s.toks + 1) (fun b o hb e => sb.extBut b o hb e) f0 f1 f3 f4 f5
    obtain ⟨o, e, c, d⟩ := id st'
    exact ⟨_, rfl, go_of (s := { s with heap := h', toks := s.toks + 1 }) e c d (by decide) ⟨.str ⟨#[x.cps[i]]⟩, H, I1, ⟨_, rfl⟩, ⟨rfl, _, by simp [hi], rfl⟩, st', fun b hb => (hf b hb).1⟩⟩
  done := by
    intro X hP hw hK hc i pins s σ H E I hf st hg
    subst hP; subst hw; subst hK
    obtain ⟨f0, f1, f2, f3, f4, f5⟩ := hf it (List.mem_singleton.mpr rfl)
    have hi : x.cps.size ≤ i := hg
    exact wpAny_pyNext_wide_end (I.ok.hd hc) st (by simp [hi]) fun h' eb => ⟨rfl, I.turned (t' := s.toks) (fun b o hb e => eb b o hb e) f0 f1 f3 f4 f5⟩
  self := fun _ _ _ _ _ st h => wpAny_pyIter_striter_wide st h
section
variable {X : Cx}
theorem pi_str {tg l : Expr} {tl : TE} (hl : PE X l tl) : PI X tg l (fun σ H R => tl σ H fun v H1 => ∃ z, v = .str z ∧ R (Its z) H1) := by
  intro pins s σ H R I h
  refine thn (hl pins s σ H _ I h) fun v s1 ⟨x, H1, I1, r1, z, e, q⟩ => ?_
  subst e
  obtain ⟨t, rfl⟩ := r1
  have frs : ∀ b ∈ [s1.heap.objs.size], FpOk X pins H1 b := fun b hb => by
    cases List.mem_singleton.mp hb
    exact I1.fpOk (Nat.le_refl _) (I1.hok.fresh (Nat.le_refl _))
  cases ha : z.cps.all (· < 128)
  · exact wpAny_pyIter_wide ha ⟨s1.heap.objs.size, [s1.heap.objs.size], _, _, H1, rfl, I1.kept (t' := s1.toks) fun b o e => Heap.get?_push_of_some _ e, turn_wide z t _, ⟨_, Heap.get?_push_size _ rfl, rfl, rfl⟩, frs, q⟩
  · exact wpAny_pyIter_ascii ha ⟨s1.heap.objs.size, [s1.heap.objs.size], _, _, H1, rfl, I1.kept (t' := s1.toks) fun b o e => Heap.get?_push_of_some _ e, turn_ascii z t _, ⟨_, Heap.get?_push_size _ rfl, rfl, rfl⟩, frs, q⟩
def signsW (z : PySem.Str) : List Wv := z.cps.toList.map fun c => Wv.str ⟨#[c]⟩
def seqW2 (w : Wv) (st : Hs) : Re Wk := match w with
  | .str z => .ok (none, signsW z) st
  | w => seqW w st
def giSeq2 (g : GE) : GI := fun ρ st => (g ρ st).bind seqW2
theorem it_str {z : PySem.Str} {m1 : Mp} {H1 : Hp} (hz : PyData.strOk z = true) : ItFor X (none, signsW z) m1 H1 (Its z) where
  go := fun k H m' st _ _ _ hk => by
    have : k < z.cps.size := by simpa [signsW] using hk
    exact this
  stop := fun k H m' st _ _ _ hk => by
    have : k = z.cps.size := by simpa [signsW] using hk
    exact Nat.le_of_eq this.symm
  yld := fun k hk H v H' m' st _ _ _ y => by
    obtain ⟨rfl, c, hc, rfl⟩ := y
    refine ⟨rfl, ?_⟩
    have hk' : k < z.cps.size := by simpa [signsW] using hk
    have e : ∀ h : k < (signsW z).length, (signsW z)[k]'h = .str ⟨#[z.cps[k]]⟩ := by intro h; simp [signsW]
    have hc' : z.cps[k] = c := by simpa [hk'] using hc
    show RelW X.K m' H' ((signsW z)[k]'hk) _
    rw [e hk, hc']
    refine mkStr ?_
    rw [strOk_iff] at hz ⊢
    intro d hd
    simp at hd
    rw [hd, ← hc']
    exact hz _ (by simp)
theorem ji_seq2 {tg iter : Expr} {g : GE} (h : JE X iter g) : JI X tg iter (giSeq2 g) := by
  obtain ⟨w1, h1, k1⟩ := ji_seq (tg := tg) h
  refine ⟨fun σ H R => w1 σ H R ∨ (SE X iter σ H fun v H1 => ∃ z, v = .str z ∧ R (Its z) H1), fun pins s σ H R I q => ?_, fun ρ st σ H m R S RR p => ?_⟩
  · rcases q with q | q
    · exact h1 pins s σ H R I q
    · exact pi_str pe_SE pins s σ H R I q
  · unfold giSeq2 at p
    cases e : g ρ st with
    | bad => rw [e] at p; exact False.elim p
    | err c st' => rw [e] at p; exact .inl (k1 ρ st σ H m R S RR (by unfold giSeq; rw [e]; exact p))
    | ok w st' =>
      rw [e] at p
      cases w with
      | str z =>
        refine .inr ?_
        refine h.go (ok := fun w st1 => w = .str z ∧ st1 = st') S RR (by rw [e]; exact ⟨rfl, rfl⟩) fun w st1 v m1 H1 q e1 S1 r1 => ?_
        obtain ⟨rfl, rfl⟩ := q
        unfold RelW at r1
        obtain ⟨rfl, hz⟩ := r1
        exact ⟨z, rfl, p m1 H1 _ e1 S1 trivial (it_str hz)⟩
      | _ => exact .inl (k1 ρ st σ H m R S RR (by unfold giSeq; rw [e]; exact p))
theorem call_int_txt : CallR X (.type "int") (fun xs H Q => ∃ z n, xs = [.str z] ∧ PySem.intText? z = some n ∧ z.length ≤ 640 ∧ Q (.int n) H) := by
  intro pins s σ H xs us Q I r h
  obtain ⟨z, n, rfl, hn, hl, q⟩ := h
  obtain ⟨u, rfl, t, rfl⟩ := vals1 r
  exact PySem.W.KIN.call_text hn hl ⟨.int n, H, I.tok _, ⟨_, rfl⟩, q⟩
def oInt2 : List Wv → Hs → Re Wv
  | [.str z], st => (match PySem.intText? z with | some n => if z.length ≤ 640 then .ok (.int n) st else .bad | none => .bad)
  | ws, st => oInt ws st
theorem cw_int2 : CallW X (.type "int") oInt2 := by
  obtain ⟨r, h1, h2⟩ := cw_int (X := X)
  refine ⟨_, call_int_txt.or h1, fun ws vs st H m Q S rs p => ?_⟩
  unfold oInt2 at p
  split at p
  · rename_i z
    obtain ⟨v, rfl, r1⟩ := rel1 rs
    unfold RelW at r1
    obtain ⟨rfl, _⟩ := r1
    cases e : PySem.intText? z with
    | none => rw [e] at p; exact False.elim p
    | some n =>
      rw [e] at p
      dsimp only at p
      by_cases c : z.length ≤ 640
      · rw [if_pos c] at p
        exact .inl ⟨z, n, rfl, e, c, p _ m H Ext.refl S mkInt⟩
      · rw [if_neg c] at p; exact False.elim p
  · exact .inr (h2 _ vs st H m Q S rs p)
end
end J
namespace J
open PySem PySem.Spec PyProof.Rows L2
section
variable {X : Cx}
end
end J
namespace J
open PySem PySem.Spec PyProof.Rows L2
def valW {κ : Type} [DecidableEq κ] (kvs : List (κ × Wv)) (k : κ) : Option Wv := match kvs with
  | [] => none
  | p :: r => if p.1 = k then some p.2 else valW r k
def putW {κ : Type} [DecidableEq κ] (kvs : List (κ × Wv)) (k : κ) (v : Wv) : List (κ × Wv) := if (kvs.any fun kv => decide (kv.1 = k)) = true then kvs.map (fun kv => if kv.1 = k then (kv.1, v) else kv) else kvs ++ [(k, v)]
section
variable {K : PySem.W.Frag} {m : Mp} {H : Hp} {κ : Type}
theorem RelK.nil : RelK (κ := κ) K m H [] [] := ⟨rfl, RelWs.nil⟩
theorem RelK.cons {k : κ} {w : Wv} {v : V} {kvs : List (κ × Wv)} {xs : List (κ × V)} (h : RelW K m H w v) (t : RelK K m H kvs xs) : RelK K m H ((k, w) :: kvs) ((k, v) :: xs) :=
  ⟨by simp [t.1], by simpa using RelWs.cons h t.2⟩
theorem RelK.nil_inv {xs : List (κ × V)} (h : RelK K m H [] xs) : xs = [] := by
  have := h.1
  cases xs with
  | nil => rfl
  | cons a b => simp at this
theorem RelK.cons_inv {p : κ × Wv} {kvs : List (κ × Wv)} {xs : List (κ × V)} (h : RelK K m H (p :: kvs) xs) : ∃ v t, xs = (p.1, v) :: t ∧ RelW K m H p.2 v ∧ RelK K m H kvs t := by
  obtain ⟨h1, h2⟩ := h
  cases xs with
  | nil => simp at h1
  | cons q t =>
    simp at h1 h2
    unfold RelWs at h2
    obtain ⟨x, r, e1, e2, e3⟩ := h2
    cases e1
    exact ⟨q.2, t, by rw [h1.1], e2, h1.2, e3⟩
theorem RelK.length {kvs : List (κ × Wv)} {xs : List (κ × V)} (h : RelK K m H kvs xs) : kvs.length = xs.length := by
  have := congrArg List.length h.1
  simpa using this
variable [DecidableEq κ]
theorem RelK.val : ∀ {kvs : List (κ × Wv)} {xs : List (κ × V)} (k : κ), RelK K m H kvs xs → (valW kvs k = none → valV xs k = none) ∧ ∀ w, valW kvs k = some w → ∃ v, valV xs k = some v ∧ RelW K m H w v
  | [], xs, k, h => by
    rw [h.nil_inv]
    exact ⟨fun _ => rfl, (fun w e => by cases e)⟩
  | p :: r, xs, k, h => by
    obtain ⟨v, t, rfl, h1, h2⟩ := h.cons_inv
    obtain ⟨i1, i2⟩ := RelK.val k h2
    unfold valW
    by_cases e : p.1 = k
    · rw [if_pos e, valV_pos (by exact e)]
      exact ⟨(fun z => by cases z), fun w z => ⟨v, rfl, by cases z; exact h1⟩⟩
    · rw [if_neg e, valV_neg (by exact e)]
      exact ⟨i1, i2⟩
theorem RelK.any : ∀ {kvs : List (κ × Wv)} {xs : List (κ × V)} (k : κ), RelK K m H kvs xs → (kvs.any fun kv => decide (kv.1 = k)) = xs.any fun kv => decide (kv.1 = k)
  | [], xs, k, h => by rw [h.nil_inv]; rfl
  | p :: r, xs, k, h => by
    obtain ⟨v, t, rfl, h1, h2⟩ := h.cons_inv
    rw [List.any_cons, List.any_cons, RelK.any k h2]
theorem RelK.repl : ∀ {kvs : List (κ × Wv)} {xs : List (κ × V)} (k : κ) {w : Wv} {v : V}, RelK K m H kvs xs → RelW K m H w v → RelK K m H (kvs.map fun kv => if kv.1 = k then (kv.1, w) else kv) (xs.map fun kv => if kv.1 = k then (kv.1, v) else kv)
  | [], xs, k, w, v, h, r => by rw [h.nil_inv]; exact RelK.nil
  | p :: kvs, xs, k, w, v, h, r => by
    obtain ⟨u, t, rfl, h1, h2⟩ := h.cons_inv
    rw [List.map_cons, List.map_cons]
    by_cases e : p.1 = k
    · rw [if_pos e, if_pos (by exact e)]
      exact RelK.cons r (RelK.repl k h2 r)
    · rw [if_neg e, if_neg (by exact e)]
      exact RelK.cons h1 (RelK.repl k h2 r)
theorem RelK.snoc : ∀ {kvs : List (κ × Wv)} {xs : List (κ × V)} (k : κ) {w : Wv} {v : V}, RelK K m H kvs xs → RelW K m H w v → RelK K m H (kvs ++ [(k, w)]) (xs ++ [(k, v)])
  | [], xs, k, w, v, h, r => by rw [h.nil_inv]; exact RelK.cons r RelK.nil
  | p :: kvs, xs, k, w, v, h, r => by
    obtain ⟨u, t, rfl, h1, h2⟩ := h.cons_inv
    exact RelK.cons h1 (RelK.snoc k h2 r)
theorem RelK.put {kvs : List (κ × Wv)} {xs : List (κ × V)} (k : κ) {w : Wv} {v : V} (h : RelK K m H kvs xs) (r : RelW K m H w v) : RelK K m H (putW kvs k w) (putK xs k v) := by
  unfold putW putK
  rw [h.any k]
  split
  · exact h.repl k r
  · exact h.snoc k r
end
section
variable {K : PySem.W.Frag} {m : Mp} {H : Hp}
end
section
variable {X : Cx}
end
def FlatV : Wv → Value → Prop
  | .int i, u => ∃ t, u = .int i t
  | .str x, u => (∃ t, u = .str x t) ∧ PyData.strOk x = true
  | _, _ => False
abbrev Dc := List (PySem.Str × Wv)
def EntsOk (w : World) : Dc → List DictEntry → Prop
  | [], [] => True
  | (k, v) :: r, e :: t => (e.hash = hashStr w k ∧ (∃ tk, e.key = .str k tk) ∧ FlatV v e.val) ∧ EntsOk w r t
  | _, _ => False
def DcAt (K : PySem.W.Frag) (w : World) (mg : Str → Option Value) (x : Str) (kvs : Dc) : Prop :=
  ∃ (a : Addr) (es : Array DictEntry) (ep : Nat), mg x = some (.ref a) ∧ K.lookup a = some ⟨.type "dict", none, .dict es ep, #[]⟩ ∧ (a == sysModules) = false ∧ EntsOk w kvs es.toList ∧ (kvs.map (·.1)).Nodup
theorem ents_get {P : Program} {w : World} : ∀ {kvs : Dc} {l : List DictEntry}, EntsOk w kvs l → ∃ vs : List (PySem.Str × Value), vs.map (·.1) = kvs.map (·.1) ∧ Pairs (PySem.strKind P w) l vs ∧ (∀ e ∈ l, ∃ k, (PySem.strKind P w).is k e.key = true ∧ e.hash = (PySem.strKind P w).hash k) ∧
    ∀ k, (kvs.lookup k = none → valueAt vs k = none) ∧ ∀ v, kvs.lookup k = some v → ∃ u, valueAt vs k = some u ∧ FlatV v u
  | [], [], _ => ⟨[], rfl, .nil, (fun _ z => by cases z), fun k => ⟨fun _ => rfl, (fun v z => by cases z)⟩⟩
  | (k, v) :: r, e :: t, h => by
    obtain ⟨⟨h1, ⟨tk, h2⟩, h3⟩, h4⟩ := h
    obtain ⟨vs, i1, i2, i3, i4⟩ := ents_get (P := P) h4
    have his : (PySem.strKind P w).is k e.key = true := by rw [h2]; exact strKind_is P w k tk
    refine ⟨(k, e.val) :: vs, by simp [i1], .cons his rfl i2, fun e' he => ?_, fun k' => ?_⟩
    · rcases List.mem_cons.mp he with z | z
      · subst z; exact ⟨k, his, h1⟩
      · exact i3 e' z
    · rw [List.lookup_cons]
      unfold valueAt
      rw [List.find?_cons]
      by_cases ek : k = k'
      · subst ek
        have b1 : (k == k) = true := by simp
        rw [b1]
        simp only [decide_true, Option.map_some]
        exact ⟨(fun z => by cases z), fun v' z => ⟨e.val, rfl, by cases z; exact h3⟩⟩
      · have b1 : (k' == k) = false := beq_eq_false_iff_ne.mpr fun z => ek z.symm
        rw [b1]
        simp only [ek, decide_false]
        exact i4 k'
  | [], _ :: _, h => False.elim h
  | _ :: _, [], h => False.elim h
theorem dc_dict {P : Program} {w : World} {K : PySem.W.Frag} {h : Heap} {a : Addr} {es : Array DictEntry} {ep : Nat} {kvs : Dc} (KX : K.In h) (hl : K.lookup a = some ⟨.type "dict", none, .dict es ep, #[]⟩) (he : EntsOk w kvs es.toList) (nd : (kvs.map (·.1)).Nodup) :
    ∃ vs : List (PySem.Str × Value), h.DictOf (PySem.strKind P w) a vs ∧ ∀ k, (kvs.lookup k = none → valueAt vs k = none) ∧ ∀ v, kvs.lookup k = some v → ∃ u, valueAt vs k = some u ∧ FlatV v u := by
  obtain ⟨vs, i1, i2, i3, i4⟩ := ents_get (P := P) he
  exact ⟨vs, ⟨_, es, ep, KX a _ hl, ⟨rfl, rfl, rfl⟩, rfl, fun e hm => i3 e (by simpa using hm), i2, by rw [i1]; exact nd⟩, i4⟩
section
variable {X : Cx}
def gDcIx (kvs : Dc) (ga : GE) : GE := fun ρ st => (ga ρ st).bind fun a st1 => match a with
  | .str k => (match kvs.lookup k with | some w => .ok w st1 | none => .bad)
  | _ => .bad
def tDcIx (kvs : Dc) (ty : TE) : TE := fun σ H Q => ty σ H fun y H1 => ∃ z w v, y = .str z ∧ kvs.lookup z = some w ∧ (∀ u, FlatV w u → RelV v u) ∧ Q v H1
theorem pe_dcIx {b : Expr} {ty : TE} {x : Str} {p pos : Pos} {kvs : Dc} (hb : PE X b ty) (hs : NoSl b) (hg : Gl X x) (hd : (x == ("__debug__" : Str)) = false) (D : DcAt X.K X.w X.mg x kvs) : PE X (.Subscript (.Name x p) b pos) (tDcIx kvs ty) := by
  intro pins s σ H Q I h
  obtain ⟨a, es, ep, g1, g2, g3, g4, g5⟩ := D
  refine subD_of PySem.F.slot_dict_getitem.lookup hs (thn (pe_glob (v := .ref a) hg g1 rfl hd pins s σ H (fun v H2 => v = .ref a ∧ H2 = H) I ⟨rfl, rfl⟩) fun u s1 ⟨v, H1, I1, rv, ev, eH⟩ => ?_)
  subst ev eH
  obtain rfl : u = Value.ref a := rv
  refine thn (hb pins s1 σ H1 _ I1 h) fun iv s2 ⟨y, H2, I2, ry, z, w, v, ey, ew, ev, q⟩ => ?_
  subst ey
  obtain ⟨t, rfl⟩ := (show ∃ t, iv = Value.str z t from ry)
  obtain ⟨vs, dd, look⟩ := dc_dict (P := X.prog) (w := X.w) I2.kIn g2 g4 g5
  obtain ⟨u, e1, e2⟩ := (look z).2 w ew
  exact ⟨dd.typeIs, wpAny_getItem_of (strKind_is X.prog X.w z t) dd.mapOf e1 ⟨v, H2, I2.tok _, ev u e2, q⟩⟩
theorem je_dcIx {b : Expr} {gb : GE} {x : Str} {p pos : Pos} {kvs : Dc} (hb : JE X b gb) (hs : NoSl b) (hg : Gl X x) (hd : (x == ("__debug__" : Str)) = false) (D : DcAt X.K X.w X.mg x kvs) : JE X (.Subscript (.Name x p) b pos) (gDcIx kvs gb) :=
  JE.of (pe_dcIx pe_SE hs hg hd D) fun ρ st σ H m Q S R p => by
    refine hb.go S R (PostG.bind p) fun w st1 v m1 H1 p1 e1 S1 r1 => ?_
    cases w with
    | str k =>
      dsimp only at p1
      cases e : kvs.lookup k with
      | none => rw [e] at p1; exact False.elim p1
      | some u =>
        rw [e] at p1
        unfold RelW at r1
        cases u with
        | int i => exact ⟨k, .int i, .int i, r1.1, e, fun u h => h, p1 _ m1 H1 e1 S1 (by unfold RelW; rfl)⟩
        | str y =>
          by_cases hy : PyData.strOk y = true
          · exact ⟨k, .str y, .str y, r1.1, e, fun u h => h.1, p1 _ m1 H1 e1 S1 (by unfold RelW; exact ⟨rfl, hy⟩)⟩
          · obtain ⟨a, es, ep, _, _, _, g4, _⟩ := D
            obtain ⟨vs, _, _, _, i4⟩ := ents_get (P := X.prog) g4
            obtain ⟨u, _, e2⟩ := (i4 k).2 _ e
            exact absurd e2.2 hy
        | _ =>
          obtain ⟨a, es, ep, _, _, _, g4, _⟩ := D
          obtain ⟨vs, _, _, _, i4⟩ := ents_get (P := X.prog) g4
          obtain ⟨u, _, e2⟩ := (i4 k).2 _ e
          exact False.elim e2
    | _ => exact False.elim p1
end
end J
namespace J
open PySem PySem.Spec PyProof.Rows PySem.W L2
section
variable (lt : Nat → Nat → Bool) (N : Nat)
def Kg {α : Type} : KasT α → (α → Prop) → Prop
  | .ret a, Q => Q a
  | .ask i j k, Q => (i < N ∧ j < N) ∧ Kg (k (lt i j)) Q
end
section
variable {lt : Nat → Nat → Bool} {N : Nat}
theorem Kg.bind {α β : Type} {f : α → KasT β} {Q : β → Prop} : ∀ {t : KasT α}, Kg lt N t (fun a => Kg lt N (f a) Q) → Kg lt N (t.bind f) Q
  | .ret a, h => h
  | .ask i j k, h => ⟨h.1, Kg.bind (t := k (lt i j)) h.2⟩
theorem Kg.imp {α : Type} {Q R : α → Prop} (hq : ∀ a, Q a → R a) : ∀ {t : KasT α}, Kg lt N t Q → Kg lt N t R
  | .ret a, h => hq a h
  | .ask i j k, h => ⟨h.1, Kg.imp hq (t := k (lt i j)) h.2⟩
structure Ord (lt : Nat → Nat → Bool) : Prop where
  as : ∀ a b, lt a b = true → lt b a = false
  tr : ∀ a b c, lt a b = false → lt b c = false → lt a c = false
theorem Ord.irr (o : Ord lt) (a : Nat) : lt a a = false := by
  cases h : lt a a with
  | false => rfl
  | true => have := o.as a a h; rw [h] at this; cases this
abbrev at_ (p : Array Nat) (i : Nat) : Nat := p.getD i 0
structure Pm (N : Nat) (p : Array Nat) : Prop where
  sz : p.size = N
  pm : p.toList.Perm (List.range N)
theorem Pm.bd {p : Array Nat} (h : Pm N p) {i : Nat} (hi : i < N) : at_ p i < N := by
  have e : at_ p i = p[i]'(by rw [h.sz]; exact hi) := by simp [at_, Array.getD, h.sz, hi]
  rw [e]
  have : p[i]'(by rw [h.sz]; exact hi) ∈ p.toList := by simp
  exact List.mem_range.mp (h.pm.mem_iff.mp this)
theorem getD_of {p q : Array Nat} {i j : Nat} (h : p[i]? = q[j]?) : at_ p i = at_ q j := by
  unfold at_
  rw [Array.getD_eq_getD_getElem?, Array.getD_eq_getD_getElem?, h]
theorem rev_at {p : Array Nat} (h : Pm N p) {i j : Nat} (hj : j ≤ N) (k : Nat) : at_ (kas_rev p i j) k = if i ≤ k ∧ k < j then at_ p (i + j - 1 - k) else at_ p k := by
  have q := getElem?_mirror_all (xs := p) (i := i) (j := j) (by rw [h.sz]; exact hj) k
  unfold kas_rev
  split
  · rename_i c; rw [if_pos c] at q; exact getD_of q
  · rename_i c; rw [if_neg c] at q; exact getD_of q
def Up (lt : Nat → Nat → Bool) (p : Array Nat) (k : Nat) : Prop := ∀ i j, i ≤ j → j < k → lt (at_ p j) (at_ p i) = false
def Dn (lt : Nat → Nat → Bool) (p : Array Nat) (k : Nat) : Prop := ∀ i j, i ≤ j → j < k → lt (at_ p i) (at_ p j) = false
theorem Up.succ (o : Ord lt) {p : Array Nat} {k : Nat} (h : Up lt p k) (hk : 1 ≤ k) (e : lt (at_ p k) (at_ p (k - 1)) = false) : Up lt p (k + 1) := by
  intro i j hij hj
  by_cases c : j < k
  · exact h i j hij c
  · have : j = k := by omega
    subst this
    by_cases c2 : i = j
    · subst c2; exact o.irr _
    · exact o.tr _ _ _ e (h i (j - 1) (by omega) (by omega))
theorem Dn.succ (o : Ord lt) {p : Array Nat} {k : Nat} (h : Dn lt p k) (hk : 1 ≤ k) (e : lt (at_ p (k - 1)) (at_ p k) = false) : Dn lt p (k + 1) := by
  intro i j hij hj
  by_cases c : j < k
  · exact h i j hij c
  · have : j = k := by omega
    subst this
    by_cases c2 : i = j
    · subst c2; exact o.irr _
    · exact o.tr _ _ _ (h i (j - 1) (by omega) (by omega)) e
theorem Dn.up {p : Array Nat} (hp : Pm N p) {n : Nat} (hn : n ≤ N) (h : Dn lt p n) : Up lt (kas_rev p 0 n) n := by
  intro i j hij hj
  rw [rev_at hp hn, rev_at hp hn, if_pos ⟨by omega, hj⟩, if_pos ⟨by omega, by omega⟩]
  exact h _ _ (by omega) (by omega)
end
section
variable {prog : Program} {w : World} {A : Around} {E : Value → Shared → Prop} {s : Shared}
end
section
variable {X : Cx} {pins : List (Addr × Obj)} {σ : St} {H : Hp} {s : Shared}
end
section
variable {X : Cx}
end
section
variable {prog : Program} {w : World} {A : Around} {E : Value → Shared → Prop} {s : Shared}
end
section
variable {X : Cx}
end
end J
namespace J
open PySem PySem.Spec PyProof.Rows L2
section
variable {X : Cx}
end
end J
namespace J
open PySem PySem.Spec PyProof.Rows PySem.W L2
def DRaw (h : Heap) (d : Addr) (es : Array DictEntry) (ep : Nat) : Prop := ∃ o, h.get? d = some o ∧ o.cls = .type "dict" ∧ o.data = .dict es ep
section
variable {prog : Program} {w : World} {A : Around} {E : Value → Shared → Prop} {s : Shared} {d it : Addr} {es : Array DictEntry} {ep i : Nat}
theorem DRaw.ty (x : DRaw s.heap d es ep) : s.TypeIs (.ref d) "dict" := let ⟨o, h1, h2, _⟩ := x; ⟨o, h1, h2⟩
end
section
variable {X : Cx}
end
section
variable {X : Cx}
end
end J
namespace J
open PySem L2 PyProof.Rows
section
open PySem.SeqAt PySem.MeetsSeq PySem.MeetsSeq2 PySem.MeetsSeq3
end
variable {X : Cx}
def oLe : Op2 := fun x y st => oLe0 x y st
theorem ow_leT (hu : X.A.units + 64 < cLine) : OpW X (compareOp .LtE) oLe := ow_le
def oLt : Op2 := fun x y st => oLt0 x y st
theorem ow_ltT (hu : X.A.units + 64 < cLine) : OpW X (compareOp .Lt) oLt := ow_lt
end J
namespace J
open PySem PySem.Spec PyProof.Rows L2
structure RoomU (k : Nat) (A : Around) : Prop where
  d : A.depth + 3 * k + 5 < recursionLimit
  u : A.units + 16 * k + 200 < cLine
theorem RoomU.of {k : Nat} {A : Around} (r : Room k A) : RoomU k A := ⟨r.dp, r.un⟩
theorem RoomU.less {j k : Nat} {A : Around} (r : RoomU k A) (h : j ≤ k) : RoomU j A := ⟨by have := r.d; omega, by have := r.u; omega⟩
structure FnOkU (P : Program) (w : World) (K : PySem.W.Frag) (mg : Str → Option Value) (base : Heap) (k : Nat) (f : Addr) (fd : FuncData) (ps : List Str) (sp : Sp) : Prop where
  n : ∀ vs H Q E, sp vs H Q E → vs.length = ps.length
  go : ∀ (A : Around) (outer : List Env) (s : Shared) (H : Hp) (args : Args) (us : List Value) (vs : List V) (Q : VK) (E : XK), RoomU k A → Env0 P w K mg base A outer s H →
    BindsTo s fd args (ps.zip us) → Vals vs us → sp vs H Q E → codeAny (model P w) A (.call (.ref f) args) (CR (CXJ P w) outer P w H s Q E) s
section
variable {P : Program} {w : World} {K : PySem.W.Frag} {mg : Str → Option Value} {base : Heap}
end
section
variable {X : Cx}
end
def HasU (P : Program) (w : World) (K : PySem.W.Frag) (mg : Str → Option Value) (base : Heap) (k : Nat) (x : Str) (n : Nat) (F : List Wv → Hs → Re Wv) : Prop :=
  ∃ f fd ps, FnOkU P w K mg base k f fd ps (spW K n F) ∧ mg x = some (.ref f) ∧ PySem.W.keepIn K (.ref f) = true ∧ Binds K fd ps []
theorem HasU.mono {P : Program} {w : World} {K : PySem.W.Frag} {mg : Str → Option Value} {base : Heap} {j k : Nat} {x : Str} {n : Nat} {F : List Wv → Hs → Re Wv} (h : HasU P w K mg base j x n F) (l : j ≤ k) : HasU P w K mg base k x n F := by
  obtain ⟨f, fd, ps, G, r⟩ := h
  exact ⟨f, fd, ps, ⟨G.n, fun A outer s H args us vs Q E hr => G.go A outer s H args us vs Q E (hr.less l)⟩, r⟩
end J
namespace J
open PySem PySem.Spec PyProof.Rows L2
section
variable {X : Cx}
end
end J
namespace J
open PySem PySem.Spec PyProof.Rows L2
section
variable {X : Cx}
end
end J
namespace J
open PySem PySem.Spec PyProof.Rows L2
abbrev Wk2 := Option (Nat × List Wv) × List Wv
def ck2 (c : Option (Nat × List Wv)) (st : Hs) : Prop := match c with
  | some (l, ws) => lstOf st l = some ws
  | none => True
structure ItFor2 (X : Cx) (w : Wk2) (m1 : Mp) (H1 : Hp) (J' : It) : Prop where
  go : ∀ (k : Nat) (H : Hp) (m' : Mp) (st : Hs), Ext X.K m1 H1 m' H → Sim X.K m' st H → ck2 w.1 st → k < w.2.length → J'.go k H
  stop : ∀ (k : Nat) (H : Hp) (m' : Mp) (st : Hs), Ext X.K m1 H1 m' H → Sim X.K m' st H → ck2 w.1 st → k = w.2.length → J'.stop k H
  yld : ∀ (k : Nat) (hk : k < w.2.length) (H : Hp) (v : V) (H' : Hp) (m' : Mp) (st : Hs), Ext X.K m1 H1 m' H → Sim X.K m' st H → ck2 w.1 st → J'.yld k H v H' → Ext X.K m' H m' H' ∧ Sim X.K m' st H' ∧ RelW X.K m' H' w.2[k] v
abbrev GI2 := Rho → Hs → Re Wk2
def JI2 (X : Cx) (tg iter : Expr) (gi : GI2) : Prop := ∃ wi, PI X tg iter wi ∧ ∀ (ρ : Rho) (st : Hs) (σ : St) (H : Hp) (m : Mp) (R : It → Hp → Prop), Sim X.K m st H → RelEnv X.K m H ρ σ →
  PostG X σ m H (gi ρ st) (fun w st1 => ∀ (m1 : Mp) (H1 : Hp) (J' : It), Ext X.K m H m1 H1 → Sim X.K m1 st1 H1 → ck2 w.1 st1 → ItFor2 X w m1 H1 J' → R J' H1) → wi σ H R
def gBadI2 : GI2 := fun _ _ => .bad
section
variable {X : Cx}
theorem ji2_bad {tg iter : Expr} : JI2 X tg iter gBadI2 := ⟨_, pi_never, fun ρ st σ H m Q S R p => p⟩
theorem ji2_of {tg iter : Expr} {gi : GI} (h : JI X tg iter gi) : JI2 X tg iter (fun ρ st => (gi ρ st).bind fun w st1 => .ok (w.1.map fun l => (l, w.2), w.2) st1) := by
  obtain ⟨wi, hp, hw⟩ := h
  refine ⟨wi, hp, fun ρ st σ H m R S r p => hw ρ st σ H m R S r ((PostG.bind p).imp Ext.refl fun w st1 q m1 H1 J' e1 S1 c1 it1 => ?_)⟩
  obtain ⟨o, ws⟩ := w
  have cc : ∀ st, ck2 (o.map fun l => (l, ws)) st → ckOf (o, ws) st := fun st c => by cases o <;> exact c
  have cc' : ckOf (o, ws) st1 → ck2 (o.map fun l => (l, ws)) st1 := fun c => by cases o <;> exact c
  refine q m1 H1 J' e1 S1 (cc' c1) ⟨fun k H2 m' st2 e S2 c => it1.go k H2 m' st2 e S2 (cc _ c), fun k H2 m' st2 e S2 c => it1.stop k H2 m' st2 e S2 (cc _ c), fun k hk H2 v H3 m' st2 e S2 c y => ?_⟩
  obtain ⟨rfl, rr⟩ := it1.yld k hk H2 v H3 m' st2 e S2 (cc _ c) y
  exact ⟨Ext.refl, S2, rr⟩
end
open Classical in
section
variable {X : Cx}
end
end J
namespace J
open PySem PySem.Spec PyProof.Rows L2
def partW (n : Nat) : Wv → Option (List Wv)
  | .tup us => if us.length = n then some us else none
  | _ => none
open Classical in
noncomputable def compG2 (ck : Hs → Prop) (n : Nat) (gt : List Wv → Hs → Re Bool) (ge : List Wv → Hs → Re Wv) (l : Nat) : List Wv → Hs → Option Hs
  | [], st => some st
  | w :: r, st => match partW n w with
    | none => none
    | some us => match gt us st with
      | .ok false st1 => if ck st1 then compG2 ck n gt ge l r st1 else none
      | .ok true st1 => (match ge us st1 with
        | .ok v st2 => (match mApp (.ref l) v st2 with
          | .ok _ st3 => if ck st3 then compG2 ck n gt ge l r st3 else none
          | _ => none)
        | _ => none)
      | _ => none
def compX2 (X : Cx) (scope : Scope) (xs : List Str) (cs : Caps) (C : Addr) (s0 : Shared) (H0 : Hp) (fp : List Addr) (pn : List (Addr × Obj)) : Cx :=
  { compX X scope "" cs C s0 H0 fp pn with N := xs ++ cs.map (·.1) }
structure CScope2 (X : Cx) (scope : Scope) (x : Str) (xr : List Str) (cs : Caps) : Prop where
  one : CScope X scope x cs
  var : ∀ y ∈ x :: xr, scope.names.lookup y = some .local
  nd : ((x :: xr) ++ cs.map (·.1)).Nodup
inductive NamesAre : List Expr → List Str → Prop
  | nil : NamesAre [] []
  | cons {x : Str} {p : Pos} {es : List Expr} {xs : List Str} : NamesAre es xs → NamesAre (.Name x p :: es) (x :: xs)
section
variable {X : Cx} {pins : List (Addr × Obj)} {σ : St} {H : Hp} {s : Shared} {scope : Scope} {x : Str} {xr : List Str} {cs : Caps}
theorem inv2 {fp : List Addr} {h2 : Heap} {tk : Nat} (S : CScope2 X scope x xr cs) (hc : X.calm = true) (I : Inv X pins σ H s) (hf : ∀ b ∈ fp, FpOk X pins H b) (hl : ∀ b ∈ fp, b < s.heap.objs.size)
    (ns : h2.Ns s.heap.objs.size (fun y => ([] : List (Str × Value)).reverse.lookup y)) (sb : Heap.SameBut s.heap.objs.size (s.heap.push { cls := .type "dict", data := .dict #[] }) h2) :
    Inv (compX2 X scope (x :: xr) cs s.heap.objs.size s H fp (X.pn ++ pins)) [] (List.replicate (x :: xr).length none ++ capS cs σ) H { s with heap := h2, toks := tk } := by
  have J := comp_inv (tk := tk) S.one hc I hf hl ns sb
  have o := J.ok
  obtain ⟨m, hn, hv⟩ := J.loc
  refine ⟨⟨o.mod, o.kind, o.glob, o.blt, o.above, o.inj, o.has, o.cab, o.hd, o.frames, o.stk, o.exf, o.bs, o.bsz, o.noex, o.exfs, o.funs, o.frf⟩, J.os, J.bare, J.base, ⟨m, hn, fun i y v e1 e2 e3 => ?_⟩, J.cell, J.free, J.freeC, J.pin, J.hok, ?_⟩
  · have e1' : ((x :: xr) ++ cs.map (·.1))[i]? = some y := e1
    by_cases hi : i < (x :: xr).length
    · rw [List.getElem?_append_left (by rw [List.length_replicate]; exact hi), List.getElem?_replicate, if_pos hi] at e2
      cases e2
    · rw [List.getElem?_append_right (by rw [List.length_replicate]; omega), List.length_replicate] at e2
      rw [List.getElem?_append_right (by omega)] at e1'
      exact hv (i - (x :: xr).length + 1) y v e1' e2 e3
  · show (List.replicate (x :: xr).length none ++ capS cs σ).length = ((x :: xr) ++ cs.map (·.1)).length
    unfold capS
    simp
    omega
theorem end2 {fp : List Addr} {Hb He : Hp} {sb se : Shared} {C : Addr} {σ' : St} {pins' : List (Addr × Obj)} (I : Inv X pins σ Hb sb) (hf : ∀ b ∈ fp, FpOk X pins Hb b) (J : Inv (compX2 X scope (x :: xr) cs C sb Hb fp (X.pn ++ pins)) pins' σ' He se) : Inv X pins σ He se := by
  have un : Un (frs X.stack) fp Hb He sb.heap se.heap := J.base
  exact I.call' (ch := fp) J.os un J.hok J.bare fun b hb => ⟨(hf b hb).2.2.2.1, (hf b hb).2.1, (hf b hb).2.2.2.2.1, fun p hp => (hf b hb).2.2.2.2.2 p hp⟩
end
theorem slots2 {Y : Cx} : ∀ {es : List Expr} {xs : List Str} (pre : List Str) (post : List Str), NamesAre es xs → Y.N = pre ++ (xs ++ post) → (∀ y ∈ xs, Y.env.scope.names.lookup y = some .local) → Slots Y es (List.range' pre.length xs.length)
  | _, _, pre, post, .nil, hN, hv => .nil
  | _, _, pre, post, .cons (x := x) (xs := xs) t, hN, hv => by
    show Slots Y _ (pre.length :: List.range' (pre.length + 1) xs.length)
    have hx := hv x List.mem_cons_self
    refine .cons (by rw [hN]; simp) ⟨.inl hx, .inr hx⟩ ?_
    have := slots2 (pre ++ [x]) post t (by rw [hN]; simp) fun y hy => hv y (List.mem_cons_of_mem _ hy)
    rw [List.length_append] at this
    exact this
theorem setL2 : ∀ (us : List Wv) (pre : Rho) (zs : Rho) (post : Rho), zs.length = us.length → setL (List.range' pre.length us.length) us (pre ++ (zs ++ post)) = some (pre ++ (us.map some ++ post))
  | [], pre, zs, post, h => by
    have : zs = [] := List.length_eq_zero_iff.mp h
    subst this
    rfl
  | u :: us, pre, [], post, h => by cases h
  | u :: us, pre, z :: zs, post, h => by
    show setL (List.range' (pre.length + 1) us.length) us ((pre ++ (z :: zs ++ post)).set pre.length (some u)) = _
    have e : (pre ++ (z :: zs ++ post)).set pre.length (some u) = (pre ++ [some u]) ++ (zs ++ post) := by
      rw [List.set_append_right _ _ (Nat.le_refl _)]
      simp
    have q := setL2 us (pre ++ [some u]) zs post (by simpa using h)
    rw [List.length_append, List.length_singleton] at q
    rw [e, q]
    simp
theorem env2 {K : PySem.W.Frag} {m : Mp} {H : Hp} {us : List Wv} {ρ : Rho} {σ : St} (R : RelEnv K m H (us.map some ++ ρ) σ) : RelEnv K m H (List.replicate us.length none ++ ρ) σ := by
  refine ⟨by rw [← R.len]; simp, fun i w e => ?_⟩
  by_cases hi : i < us.length
  · rw [List.getElem?_append_left (by simpa using hi), List.getElem?_replicate, if_pos hi] at e
    cases e
  · refine R.get i w ?_
    rw [List.getElem?_append_right (by simpa using Nat.le_of_not_lt hi)] at e ⊢
    simpa using e
section
variable {prog : Program} {w : World} {A : Around} {R : Result → Shared → Prop} {s : Shared}
abbrev NB (prog : Program) (w : World) (A : Around) (env : Env) (R : Result → Shared → Prop) : Value → Shared → Prop := notedBy (model prog w) A env fun e s' => R (.error e) s'
theorem turns2 {elt tg iter : Expr} {ifs : List Expr} {scope : Scope} {pos : Pos} {it acc : Value} {env : Env} (Iv : Nat → Shared → Prop)
    (turn : ∀ n t, Iv n t → wpAny (model prog w) A (pyNext it) (fun r t1 => match r with
      | none => R (.ok .next) t1
      | some v => wpAny (model prog w) A (letOwnedTupleGo tg it v) (fun _ t2 => wpAny (model prog w) A (assign tg env v) (fun _ t3 =>
          wpAny (model prog w) A (forIn ifs true fun c r => if r = true then do let ok ← isTrue c env (eval c env); pure (ForInStep.yield ok) else pure (ForInStep.yield r)) (fun ok t4 =>
            if ok = true then wpAny (model prog w) A (eval elt env) (fun x t5 => wpAny (model prog w) A (call (.builtin "list.append") [acc, x]) (fun _ t6 => ∃ m, m < n ∧ Iv m t6) (NB prog w A env R) t5) (NB prog w A env R) t4
            else ∃ m, m < n ∧ Iv m t4) (NB prog w A env R) t3) (NB prog w A env R) t2) (NB prog w A env R) t1) (NB prog w A env R) t)
    (n : Nat) (h : Iv n s) : codeAny (model prog w) A (.compLoop (.ListComp elt [⟨tg, iter, ifs, 0⟩] scope pos) 0 it acc env) R s := by
  refine codeAny_loop rfl Iv (fun n t hI => ?_) n h
  show wpAny _ A ((compTurn (.ListComp elt [⟨tg, iter, ifs, 0⟩] scope pos) 0 it acc env).onRaise (fun x => do noteFrame x env; theTreesLotGoes x)) _ _ t
  refine wpAny_noted ?_
  rw [compTurn_list]
  refine wpAny_bind (wpAny_standAt (wpAny_bind (wpAny_mono (turn n t hI) (fun r t1 g1 => ?_) fun _ _ z => z)))
  cases r with
  | none => exact wpAny_pure g1
  | some v =>
    refine wpAny_bind (wpAny_mono g1 (fun _ t2 g2 => wpAny_bind (wpAny_mono g2 (fun _ t3 g3 => wpAny_bind (wpAny_mono g3 (fun ok t4 g4 => ?_) fun _ _ z => z)) fun _ _ z => z)) fun _ _ z => z)
    cases ok with
    | false => exact wpAny_pure ⟨rfl, g4⟩
    | true => exact wpAny_bind (wpAny_bind (wpAny_mono g4 (fun x t5 g5 => wpAny_bind (wpAny_mono g5 (fun _ t6 g6 => wpAny_pure (wpAny_pure ⟨rfl, g6⟩)) fun _ _ z => z)) fun _ _ z => z))
end
section
variable {X : Cx}
theorem comp_block2 {pins : List (Addr × Obj)} {σ : St} {ρ : Rho} {scope : Scope} {x : Str} {xr : List Str} {cs : Caps} {es : List Expr} {kt : Nat} {pt pos : Pos} {elt iter : Expr} {ifs : List Expr} {gt : GT} {ge : GE} {ck : Hs → Prop} {ws : List Wv} {E : Value → Shared → Prop}
    {RR : Value → Addr → Result → Shared → Prop}
    {it : Addr} {fp : List Addr} {tn : Nat → Heap → Prop} {J' : It} {H2 : Hp} {s2 : Shared} {m1 : Mp} {st1 stF : Hs} (S : CScope2 X scope x xr cs) (sl : NamesAre es (x :: xr)) (hc : X.calm = true) (I2 : Inv X pins σ H2 s2) (T : Turn X.prog X.w X.K (.Tuple es kt pt) J' fp it tn) (t0 : tn 0 s2.heap) (f2 : ∀ b ∈ fp, FpOk X pins H2 b)
    (S1 : Sim X.K m1 st1 H2) (R : RelEnv X.K m1 H2 ρ σ) (hck : ck (st1 ++ [.lst []])) (run : compG2 ck (x :: xr).length (fun w => gt (w.map some ++ capR cs ρ)) (fun w => ge (w.map some ++ capR cs ρ)) st1.length ws (st1 ++ [.lst []]) = some stF)
    (hE : ∀ C s0 H0 pn, JE (compX2 X scope (x :: xr) cs C s0 H0 fp pn) elt ge) (hT : ∀ C s0 H0 pn, JTs (compX2 X scope (x :: xr) cs C s0 H0 fp pn) ifs gt)
    (hgo : ∀ (k : Nat) (H : Hp) (m' : Mp) (st : Hs), Ext X.K m1 H2 m' H → Sim X.K m' st H → ck st → k < ws.length → J'.go k H) (hstop : ∀ (k : Nat) (H : Hp) (m' : Mp) (st : Hs), Ext X.K m1 H2 m' H → Sim X.K m' st H → ck st → k = ws.length → J'.stop k H)
    (hy : ∀ (k : Nat) (hk : k < ws.length) (H : Hp) (v : V) (H' : Hp) (m' : Mp) (st : Hs), Ext X.K m1 H2 m' H → Sim X.K m' st H → ck st → J'.yld k H v H' → Ext X.K m' H m' H' ∧ Sim X.K m' st H' ∧ RelW X.K m' H' ws[k] v)
    (fin : ∀ (D C : Addr) (mm : Str → Option Value) (m' : Mp) (H' : Hp) (s' : Shared), Ext X.K m1 H2 m' H' → Sim X.K m' stF H' → m'[st1.length]? = some D → Inv X pins σ H' s' → FpOk X pins H' C → s'.heap.Ns C mm → (∀ y c, X.env.cells.lookup y = some c → c ≠ C) → RR (.ref D) C (.ok .next) s') :
    wpAny (model X.prog X.w) X.A (newList []) (fun acc s3 => wpAny (model X.prog X.w) X.A (newFunctionEnv scope X.env.globals (clF X.env scope.names []) [] X.env.qual none .none (some X.env)) (fun cenv s4 =>
      codeAny (model X.prog X.w) X.A (.compStart (.ListComp elt [⟨.Tuple es kt pt, iter, ifs, 0⟩] scope pos) 0 (.ref it) acc { cenv with scope := relabel scope X.env }) (RR acc cenv.locals) s4) E s3) E s2 := by
  refine wpAny_newList ?_
  have I3 : Inv X pins σ (upd H2 s2.heap.objs.size (.lst [])) { s2 with heap := s2.heap.push { cls := .type "list", data := .seq ([] : List Value).toArray } } := I2.lnew (ys := []) (its := []) (t' := s2.toks) .nil (Nat.zero_le _)
  have lt2 : ∀ b ∈ fp, b < s2.heap.objs.size := fun b hb => by
    obtain ⟨o, e, _⟩ := T.obj _ _ t0 b hb
    exact Heap.lt_size e
  have hD : H2 s2.heap.objs.size = none := I2.fresh
  have f3 : ∀ b ∈ fp, FpOk X pins (upd H2 s2.heap.objs.size (.lst [])) b := fun b hb => ⟨by rw [upd_ne (Nat.ne_of_lt (lt2 b hb))]; exact (f2 b hb).1, (f2 b hb).2⟩
  have S3 := S1.alloc (ws := []) (xs := []) hD RelWs.nil
  have e3 : Ext X.K m1 H2 (m1 ++ [s2.heap.objs.size]) (upd H2 s2.heap.objs.size (.lst [])) := Ext.more.trans (Ext.upd (.inl hD))
  have lab : (m1 ++ [s2.heap.objs.size])[st1.length]? = some s2.heap.objs.size := by
    rw [← S1.len, List.getElem?_append_right (Nat.le_refl _), Nat.sub_self]; rfl
  generalize hs3 : ({ s2 with heap := s2.heap.push { cls := .type "list", data := .seq ([] : List Value).toArray } } : Shared) = s3 at I3
  have k23 : ∀ b o, s2.heap.get? b = some o → s3.heap.get? b = some o := fun b o e => by rw [← hs3]; exact Heap.get?_push_of_some _ e
  have lt3 : ∀ b ∈ fp, b < s3.heap.objs.size := fun b hb => by
    obtain ⟨o, e, _⟩ := T.obj _ _ t0 b hb
    exact Heap.lt_size (k23 b o e)
  generalize hDD : s2.heap.objs.size = D at *
  generalize hH3 : upd H2 D (.lst []) = H3 at *
  generalize hm3 : m1 ++ [D] = m3 at *
  have R3 : RelEnv X.K m3 H3 (capR cs ρ) (capS cs σ) := (cap_rel cs R).mono e3
  generalize hrr : capR cs ρ = ρc at *
  generalize hss : capS cs σ = σc at *
  refine wpAny_newFunctionEnv S.one.cell (fun _ z => nomatch z) (fun h4 ns4 sb4 => ?_) S.one.kind
  have Ic := inv2 (tk := s3.toks + ([] : List (Str × Value)).length) S hc I3 f3 lt3 ns4 sb4
  rw [hss] at Ic
  have k34 : ∀ b o, s3.heap.get? b = some o → h4.get? b = some o := fun b o e => (sb4.2 b (Nat.ne_of_lt (Heap.lt_size e))).trans (Heap.get?_push_of_some _ e)
  have t4 : tn 0 h4 := T.keep _ _ _ t0 fun b _ o e => k34 b o (k23 b o e)
  let Xc := compX2 X scope (x :: xr) cs s3.heap.objs.size s3 H3 fp (X.pn ++ pins)
  have vis : ∀ y ∈ x :: xr, Xc.env.scope.names.lookup y = some .local := fun y hy => lookup_relabel_local (S.var y hy)
  have sls : Slots Xc es (List.range' 0 (x :: xr).length) := slots2 (Y := Xc) [] (cs.map (·.1)) sl rfl vis
  have fpc : ∀ (H' : Hp), (∀ b ∈ fp, H' b = none) → ∀ b ∈ fp, FpOk Xc [] H' b := fun H' hn b hb => ⟨hn b hb, Nat.ne_of_lt (lt3 b hb), fp_stack I3 (f3 b hb), .inl hb, fun y c e => (f3 b hb).2.2.2.2.1 y c (S.one.sub I3.ok e), fun p hp => (f2 b hb).2.2.2.2.2 p (by have hp' : p ∈ (X.pn ++ pins) ++ [] := hp; rw [List.append_nil] at hp'; exact hp')⟩
  let Pv : Nat → Shared → Prop := fun k s' => ∃ σ' H' st m', Inv Xc [] σ' H' s' ∧ RelEnv X.K m' H' (List.replicate (x :: xr).length none ++ ρc) σ' ∧ tn k s'.heap ∧ (∀ b ∈ fp, H' b = none) ∧ Ext X.K m3 H3 m' H' ∧ Sim X.K m' st H' ∧ ck st ∧ compG2 ck (x :: xr).length (fun w => gt (w.map some ++ ρc)) (fun w => ge (w.map some ++ ρc)) st1.length (ws.drop k) st = some stF
  have loop : ∀ s4 : Shared, Pv 0 s4 → codeAny (model X.prog X.w) X.A (.compLoop (.ListComp elt [⟨.Tuple es kt pt, iter, ifs, 0⟩] scope pos) 0 (.ref it) (.ref D) (compEnvC scope (clF X.env scope.names []) s3.heap.objs.size X.env)) (RR (.ref D) s3.heap.objs.size) s4 := fun s4 p0 => by
    refine turns2 (fun n s' => ∃ k, n = ws.length - k ∧ k ≤ ws.length ∧ Pv k s') ?_ ws.length ⟨0, by simp, Nat.zero_le _, p0⟩
    rintro n s5 ⟨k, rfl, hk, σ5, H5, st5, m5, I5, R5, tn5, fr5, e5, S5, c5, run5⟩
    have e15 := e3.trans e5
    by_cases hlt : k < ws.length
    · refine thn (T.item Xc rfl rfl rfl rfl k [] s5 σ5 H5 _ I5 (fpc H5 fr5) tn5 (hgo k H5 m5 st5 e15 S5 c5 hlt)) fun r s6 h6 => ?_
      obtain ⟨u, rfl, h6⟩ := h6
      refine thn h6 fun _ s7 h7 => ?_
      obtain ⟨v, H7, I7, rv, yl, tn7, fr7⟩ := h7
      obtain ⟨eY, S7, rw7⟩ := hy k hlt H5 v H7 m5 st5 e15 S5 c5 yl
      have I7' := I7.pinned (fpc H7 fr7) (T.obj _ _ tn7)
      have e57 := e5.trans eY
      have ed : ws.drop k = ws[k] :: ws.drop (k + 1) := List.drop_eq_getElem_cons hlt
      rw [ed] at run5
      unfold compG2 at run5
      cases ep : partW (x :: xr).length ws[k] with
      | none => rw [ep] at run5; cases run5
      | some us =>
      rw [ep] at run5
      dsimp only at run5
      have ht : ws[k] = .tup us ∧ us.length = (x :: xr).length := by
        cases eb : ws[k] with
        | tup vs =>
          rw [eb] at ep
          replace ep : (if vs.length = (x :: xr).length then some vs else none) = some us := ep
          by_cases cl : vs.length = (x :: xr).length
          · rw [if_pos cl] at ep; cases ep; exact ⟨rfl, cl⟩
          · rw [if_neg cl] at ep; cases ep
        | _ => rw [eb] at ep; cases ep
      rw [ht.1] at rw7
      unfold RelW at rw7
      obtain ⟨tb, ys, rfl, f1, f2'⟩ := rw7
      have e5s : setL (List.range' 0 (x :: xr).length) us (List.replicate (x :: xr).length none ++ ρc) = some (us.map some ++ ρc) := by
        have q := setL2 us [] (List.replicate (x :: xr).length none) ρc (by rw [List.length_replicate]; exact ht.2.symm)
        rw [ht.2] at q
        exact q
      have asg := pg_tup (X := Xc) (k := kt) (pos := pt) rfl (pgs_slots S.nd sls) (each_len sls) (each_star sls) ([] ++ pinsAt fp s7.heap) s7 σ5 H7 (.ref tb) u (fun σ' H' => H' = H7 ∧ RelEnv X.K m5 H' (us.map some ++ ρc) σ') I7' rv ⟨tb, ys, rfl, SqT.of f1, by rw [← f2'.length, ht.2]; simp, setL_run (X := Xc) f2' (R5.mono eY) e5s fun σ' R' => ⟨rfl, R'⟩⟩
      refine wpAny_mono asg (fun _ s8 h8 => ?_) fun _ _ z => False.elim z
      obtain ⟨σ8, H8, I8', rfl, R8⟩ := h8
      have back : ∀ {H' : Hp} {s' : Shared} {m' : Mp} {st : Hs}, Inv Xc ([] ++ pinsAt fp s7.heap) σ8 H' s' → Ext X.K m3 H3 m' H' → Ext X.K m5 H8 m' H' → Sim X.K m' st H' → ck st → compG2 ck (x :: xr).length (fun w => gt (w.map some ++ ρc)) (fun w => ge (w.map some ++ ρc)) st1.length (ws.drop (k + 1)) st = some stF → ∃ n', n' < ws.length - k ∧ ∃ k', n' = ws.length - k' ∧ k' ≤ ws.length ∧ Pv k' s' :=
        fun {H' s' m' st} I' e' e8 S' c' r' => ⟨ws.length - (k + 1), by omega, k + 1, rfl, hlt, σ8, H', st, m', I'.unpinned, by have q := env2 (R8.mono e8); rw [ht.2] at q; exact q, T.keep _ _ _ tn7 fun b hb o e => (I'.pin (b, o) (List.mem_append_right _ (List.mem_append_right _ (mem_pinsAt hb e)))).1, fun b hb => by
          obtain ⟨o, e, _⟩ := T.obj _ _ tn7 b hb
          exact (I'.pin (b, o) (List.mem_append_right _ (List.mem_append_right _ (mem_pinsAt hb e)))).2.1, e', S', c', r'⟩
      cases eg : gt (us.map some ++ ρc) st5 with
      | err c st6 => rw [eg] at run5; cases run5
      | bad => rw [eg] at run5; cases run5
      | ok b st6 =>
        rw [eg] at run5
        have tst := hT s3.heap.objs.size s3 H3 (X.pn ++ pins) (us.map some ++ ρc) st5 σ8 H8 m5 (fun b' H' => b' = b ∧ ∃ m', Ext X.K m5 H8 m' H' ∧ Sim X.K m' st6 H') S7 R8 (by rw [eg]; exact fun m' H' e' S' => ⟨rfl, m', e', S'⟩) ([] ++ pinsAt fp s7.heap) s8 I8'
        refine wpAny_mono tst (fun ok s9 h9 => ?_) fun _ _ z => False.elim z
        obtain ⟨H9, I9, rfl, m9, e9, S9⟩ := h9
        cases ok with
        | false =>
          dsimp only at run5
          by_cases c6 : ck st6
          · rw [if_pos c6] at run5
            rw [if_neg Bool.false_ne_true]
            exact back I9 (e57.trans e9) e9 S9 c6 run5
          · rw [if_neg c6] at run5; cases run5
        | true =>
          dsimp only at run5
          rw [if_pos rfl]
          cases ee : ge (us.map some ++ ρc) st6 with
          | err c st7 => rw [ee] at run5; cases run5
          | bad => rw [ee] at run5; cases run5
          | ok w st7 =>
            rw [ee] at run5
            dsimp only at run5
            cases ea : mApp (.ref st1.length) w st7 with
            | err c st8 => rw [ea] at run5; cases run5
            | bad => rw [ea] at run5; cases run5
            | ok w2 st8 =>
              rw [ea] at run5
              dsimp only at run5
              by_cases c8 : ck st8
              · rw [if_pos c8] at run5
                have el := hE s3.heap.objs.size s3 H3 (X.pn ++ pins) (us.map some ++ ρc) st6 σ8 H9 m9 (fun v' H' => ∃ m', Ext X.K m9 H9 m' H' ∧ Sim X.K m' st7 H' ∧ RelW X.K m' H' w v') S9 (R8.mono e9) (by rw [ee]; exact fun v' m' H' e' S' r' => ⟨m', e', S', r'⟩) ([] ++ pinsAt fp s7.heap) s9 I9
                refine wpAny_mono el (fun u2 s10 h10 => ?_) fun _ _ z => False.elim z
                obtain ⟨v2, H10, I10, r2, m10, e10, S10, rw10⟩ := h10
                obtain ⟨r, h1, h2⟩ := mw_app (X := Xc)
                have eA := (e57.trans e9).trans e10
                have ro : RelW X.K m10 H10 (.ref st1.length) (.ref D) := by unfold RelW; exact ⟨D, rfl, eA.pre _ _ lab⟩
                have rd := h2 (.ref st1.length) w (.ref D) v2 st7 H10 m10 (fun _ H' => ∃ m', Ext X.K m10 H10 m' H' ∧ Sim X.K m' st8 H') S10 ro rw10 (by rw [ea]; exact fun v' m' H' e' S' r' => ⟨m', e', S'⟩)
                refine wpAny_mono (h1 ([] ++ pinsAt fp s7.heap) s10 σ8 H10 (.ref D) [v2] (.ref D) [u2] _ I10 rfl (.cons r2 .nil) rd) (fun _ s11 h11 => ?_) fun _ _ z => False.elim z
                obtain ⟨_, H11, I11, _, m11, e11, S11⟩ := h11
                exact back I11 (eA.trans e11) ((e9.trans e10).trans e11) S11 c8 run5
              · rw [if_neg c8] at run5; cases run5
    · have ek : k = ws.length := by omega
      subst ek
      refine thn (T.done Xc rfl rfl rfl rfl _ [] s5 σ5 H5 _ I5 (fpc H5 fr5) tn5 (hstop _ H5 m5 st5 e15 S5 c5 rfl)) fun r s6 h6 => ?_
      obtain ⟨rfl, I6⟩ := h6
      rw [List.drop_length] at run5
      cases run5
      obtain ⟨mm, ns6, _⟩ := id I6.loc
      have fC := I3.fpOk (H' := H5) (Nat.le_refl _) I6.free
      exact fin D _ mm m5 H5 _ e15 S5 (e5.pre _ _ lab) (end2 I3 f3 I6) fC ns6 fC.2.2.2.2.1
  have Rn : RelEnv X.K m3 H3 (List.replicate (x :: xr).length none ++ ρc) (List.replicate (x :: xr).length none ++ σc) := by
    refine ⟨by rw [List.length_append, List.length_append, R3.len]; simp, fun i w e => ?_⟩
    by_cases hi : i < (x :: xr).length
    · rw [List.getElem?_append_left (by rw [List.length_replicate]; exact hi), List.getElem?_replicate, if_pos hi] at e
      cases e
    · rw [List.getElem?_append_right (by rw [List.length_replicate]; omega), List.length_replicate] at e ⊢
      exact R3.get _ w e
  have p0 : Pv 0 { s3 with heap := h4, toks := s3.toks + ([] : List (Str × Value)).length } := ⟨_, H3, st1 ++ [Ob.lst []], m3, Ic, Rn, t4, fun b hb => (f3 b hb).1, Ext.refl, S3, hck, by rw [List.drop_zero]; exact run⟩
  exact codeAny_compStart_list (loop _ p0) (T.self X.A 0 _ _ _ t4 (loop _ p0))
noncomputable def compRun2 (n : Nat) (cs : Caps) (gt : GT) (ge : GE) (ρ : Rho) (w : Wk2) (st : Hs) : Re Wv := match compG2 (ck2 w.1) n (fun v => gt (v.map some ++ capR cs ρ)) (fun v => ge (v.map some ++ capR cs ρ)) st.length w.2 (st ++ [.lst []]) with
  | some stF => .ok (.ref st.length) stF
  | none => .bad
noncomputable def gComp2 (n : Nat) (cs : Caps) (gi : GI2) (gt : GT) (ge : GE) : GE := fun ρ st => (gi ρ st).bind fun w st1 => compRun2 n cs gt ge ρ w st1
theorem ck2_app {c : Option (Nat × List Wv)} {st more : Hs} (h : ck2 c st) : ck2 c (st ++ more) := by
  cases c with
  | none => trivial
  | some p => exact lstOf_app h
theorem comp_go2 {scope : Scope} {x : Str} {xr : List Str} {cs : Caps} {es : List Expr} {kt : Nat} {pt pos : Pos} {elt iter : Expr} {ifs : List Expr} {gi : GI2} {gt : GT} {ge : GE} {use : Option (Value → Sem Unit)} {Q : Value → Shared → Prop} {P : Wv → Hs → Prop}
    {ρ : Rho} {st : Hs} {σ : St} {H : Hp} {m : Mp} {pins : List (Addr × Obj)} {s : Shared} {ps : Pos}
    (CS : CScope2 X scope x xr cs) (sl : NamesAre es (x :: xr)) (hc : X.calm = true) (hi : JI2 X (.Tuple es kt pt) iter gi) (hE : ∀ C s0 H0 fp pn, JE (compX2 X scope (x :: xr) cs C s0 H0 fp pn) elt ge) (hT : ∀ C s0 H0 fp pn, JTs (compX2 X scope (x :: xr) cs C s0 H0 fp pn) ifs gt) (hs : ∀ x, foldedSetIterable iter X.env x = pure x)
    (S : Sim X.K m st H) (R : RelEnv X.K m H ρ σ) (I : Inv X pins σ H s) (p : PostG X σ m H (gComp2 (x :: xr).length cs gi gt ge ρ st) P)
    (fin : ∀ (w : Wv) (stF : Hs) (v : V) (D C : Addr) (mm : Str → Option Value) (m' : Mp) (H' : Hp) (s' : Shared), P w stF → Ext X.K m H m' H' → Sim X.K m' stF H' → RelW X.K m' H' w v → v = .ref D → Inv X pins σ H' s' → FpOk X pins H' C → s'.heap.Ns C mm → compPost (model X.prog X.w) X.A X.xe use Q (.ref D) C (.ok .next) s') :
    wpAny (model X.prog X.w) X.A (comprehension (.ListComp elt [⟨.Tuple es kt pt, iter, ifs, 0⟩] scope pos) scope X.env ps (newList []) false (eval iter X.env) use) Q X.xe s := by
  obtain ⟨wi, hpi, hw⟩ := hi
  let R' : It → Hp → Prop := fun J' H1 => ∃ (w : Wk2) (st1 : Hs) (m1 : Mp), PostG X σ m H (compRun2 (x :: xr).length cs gt ge ρ w st1) P ∧ Ext X.K m H m1 H1 ∧ Sim X.K m1 st1 H1 ∧ ck2 w.1 st1 ∧ ItFor2 X w m1 H1 J'
  have hr := hw ρ st σ H m R' S R ((PostG.bind p).imp Ext.refl fun w st1 q m1 H1 J' e1 S1 c1 it1 => ⟨w, st1, m1, q, e1, S1, c1, it1⟩)
  refine wpAny_comprehension_free (g := ⟨.Tuple es kt pt, iter, ifs, 0⟩) (gs := []) (cl := clF X.env scope.names []) rfl hs (clos_is (CS.one.has I.ok)) CS.one.kind (fun y hy e => by rw [CS.one.look y hy, e]) (thn (hpi pins s σ H R' I hr) fun v s1 h1 => thn h1 fun itv s2 h2 => ?_)
  obtain ⟨it, fp, tn, J', H1, rfl, I2, T, t0, f2, w, st1, m1, q, e1, S1, c1, it1⟩ := h2
  unfold compRun2 at q
  cases run : compG2 (ck2 w.1) (x :: xr).length (fun v => gt (v.map some ++ capR cs ρ)) (fun v => ge (v.map some ++ capR cs ρ)) st1.length w.2 (st1 ++ [.lst []]) with
  | none => rw [run] at q; exact False.elim q
  | some stF =>
    rw [run] at q
    refine comp_block2 (RR := fun acc C => compPost (model X.prog X.w) X.A X.xe use Q acc C) CS sl hc I2 T t0 f2 S1 (R.mono e1) (ck2_app c1) run (fun C s0 H0 pn => hE C s0 H0 fp pn) (fun C s0 H0 pn => hT C s0 H0 fp pn) it1.go it1.stop it1.yld ?_
    intro D C mm m' H' s' e' S' lab I' fC ns _
    exact fin _ stF (.ref D) D C mm m' H' s' q (e1.trans e') S' (by unfold RelW; exact ⟨D, rfl, lab⟩) rfl I' fC ns
theorem je_comp2 {scope : Scope} {x : Str} {xr : List Str} {cs : Caps} {es : List Expr} {kt : Nat} {pt pos : Pos} {elt iter : Expr} {ifs : List Expr} {gi : GI2} {gt : GT} {ge : GE}
    (CS : CScope2 X scope x xr cs) (sl : NamesAre es (x :: xr)) (hc : X.calm = true) (hi : JI2 X (.Tuple es kt pt) iter gi) (hE : ∀ C s0 H0 fp pn, JE (compX2 X scope (x :: xr) cs C s0 H0 fp pn) elt ge) (hT : ∀ C s0 H0 fp pn, JTs (compX2 X scope (x :: xr) cs C s0 H0 fp pn) ifs gt) (hs : ∀ x, foldedSetIterable iter X.env x = pure x) :
    JE X (.ListComp elt [⟨.Tuple es kt pt, iter, ifs, 0⟩] scope pos) (gComp2 (x :: xr).length cs gi gt ge) := fun ρ st σ H m Q S R p pins s I => by
  rw [eval_ListComp]
  refine comp_go2 (use := none) CS sl hc hi hE hT hs S R I p ?_
  intro w stF v D C mm m' H' s' q e' S' rw' ev I' fC ns
  exact ⟨mm, ns, fun h' same => ⟨.ref D, H', comp_gone I' fC same, rfl, ev ▸ q v m' H' e' S' rw'⟩⟩
theorem js_setC2 (i : Nat) {scope : Scope} {x y : Str} {xr : List Str} {cs : Caps} {es : List Expr} {kt : Nat} {pt pos spos py : Pos} {elt iter : Expr} {ifs : List Expr} {gi : GI2} {gt : GT} {ge : GE} (hN : X.N.Nodup)
    (CS : CScope2 X scope x xr cs) (sl : NamesAre es (x :: xr)) (hc : X.calm = true) (hi : JI2 X (.Tuple es kt pt) iter gi) (hE : ∀ C s0 H0 fp pn, JE (compX2 X scope (x :: xr) cs C s0 H0 fp pn) elt ge) (hT : ∀ C s0 H0 fp pn, JTs (compX2 X scope (x :: xr) cs C s0 H0 fp pn) ifs gt) (hs : ∀ x, foldedSetIterable iter X.env x = pure x)
    (hx : X.N[i]? = some y) (hl : Loc X.env.scope y) (hf : X.fn y = true ∨ X.env.scope.names.lookup y = some .local) :
    JS X (.Assign [.Name y py] (.ListComp elt [⟨.Tuple es kt pt, iter, ifs, 0⟩] scope pos) spos) (gSet i (gComp2 (x :: xr).length cs gi gt ge)) := by
  have sw : ∃ b, swapsWith (.ListComp elt [⟨.Tuple es kt pt, iter, ifs, 0⟩] scope pos) (some (.Name y py)) spos.line X.env = pure b := ⟨_, rfl⟩
  obtain ⟨b, sw⟩ := sw
  cases b with
  | false => exact js_set i hN (je_comp2 CS sl hc hi hE hT hs) hx hl sw hf
  | true =>
    intro ρ st σ H m D S R p pins s I
    rw [exec_Assign_Name_used _ _ _ _ sw]
    refine wpAny_bind (wpAny_standAt (wpAny_bind ?_))
    show wpAny _ X.A (do let _ ← comprehension (.ListComp elt [⟨.Tuple es kt pt, iter, ifs, 0⟩] scope pos) scope X.env _ (newList []) false (eval iter X.env) (some (assign (.Name y py) X.env))) _ _ s
    refine wpAny_bind (wpAny_mono (comp_go2 (use := some (assign (.Name y py) X.env)) (Q := fun _ s' => SP X pins D .next s') CS sl hc hi hE hT hs S R I (PostS.of_thn R p) ?_) (fun _ s' hq => wpAny_pure (wpAny_pure hq)) fun _ _ e => e)
    intro w stF v D' C mm m' H' s' q e' S' rw' ev I' fC ns
    refine wpAny_assign_Name (store_ok2 (i := i) I' hN hx hl (show RelV v (.ref D') by rw [ev]; rfl) (fun s2 I2 h2 => ?_) hf)
    obtain ⟨a, sb, ha⟩ := h2
    have hca : C ≠ a := by
      rcases ha with z | z
      · rw [z]; exact fC.2.1
      · exact Ne.symm (fC.2.2.2.2.1 y a z)
    exact ⟨mm, ns.sameBut sb hca, fun h' same => ⟨_, _, comp_gone I2 fC same, q _ m' H' e' S' ((R.mono e').set i rw')⟩⟩
end
end J
namespace J
open PySem PySem.Spec PyProof.Rows L2
section
variable {X : Cx}
end
section
open PySem.SeqAt PySem.MeetsSeq PySem.MeetsSeq2 PySem.MeetsSeq3
end
section
variable {X : Cx}
end
end J
namespace J
open PySem PySem.Spec PyProof.Rows L2
section
variable {X : Cx}
end
section
variable {X : Cx}
end
def fBad : List Wv → Hs → Re Wv := fun _ _ => .bad
theorem has_bad {P : Program} {w : World} {K : PySem.W.Frag} {mg : Str → Option Value} {base : Heap} {h : Heap} {k : Nat} {x : Str} {st : Stmt} {ps : List Str} (KX : K.In h) (NS : h.Ns mainGlobals mg) (D : DefAt K x st)
    (hb : ∀ (kV doc pm : Value) (an : Option Addr) (cdv ct : Value) (us : List Value), us.length = ps.length → bindArgs (PySem.W.fnOf x x (defArgs st) (defBody st) (defScope st) .none kV doc pm an cdv ct) ⟨us, []⟩ = pure (ps.zip us)) :
    Has P w K mg base k x ps.length fBad := by
  obtain ⟨f, fd, a, F⟩ := D
  exact ⟨f, fd, ps, ⟨fun vs H Q E ⟨_, _, _, _, _, _, p⟩ => False.elim p, fun A outer s H args us vs Q E hr e0 hb r ⟨_, _, _, _, _, _, p⟩ => False.elim p⟩, PySem.W.mg_of KX NS a, F.kp, F.binds hb⟩
section
variable {X : Cx}
theorem op_mulS1 : OpR X (binaryOp .Mult) (fun x y H Q => ∃ z n, x = .str z ∧ y = .int n ∧ (n = 0 ∨ n = 1) ∧ Q (.str (if n = 0 then PySem.Str.empty else z)) H) := by
  intro pins s σ H x y v u Q I rx ry h
  obtain ⟨z, n, rfl, rfl, hn, q⟩ := h
  obtain ⟨t, rfl⟩ := rx
  obtain ⟨t', rfl⟩ := ry
  rcases hn with rfl | rfl
  · exact PySem.P.mul_str_none (by omega) (by omega) ⟨.str PySem.Str.empty, H, I.tok _, ⟨_, rfl⟩, q⟩
  · refine PySem.P.mul_str (by decide) (fun _ h => by cases h) (fun _ h => by cases h) ?_
    rw [if_neg (by omega), if_pos (by rfl)]
    exact ⟨.str z, H, I, ⟨t, rfl⟩, q⟩
noncomputable def oMulL : Op2 := fun x y st => match x, y with
  | .str z, .int n => if n = 0 ∨ n = 1 then .ok (.str (if n = 0 then PySem.Str.empty else z)) st else oMulL0 (.str z) (.int n) st
  | x, y => oMulL0 x y st
theorem ow_mulL1 : OpW X (binaryOp .Mult) oMulL := by
  obtain ⟨r, h1, h2⟩ := ow_mulL (X := X)
  refine ⟨_, OpR.or op_mulS1 h1, fun x y a b st H m Q S rx ry p => ?_⟩
  cases x with
  | str z =>
    cases y with
    | int n =>
      have p' : PostO X.K m H (if n = 0 ∨ n = 1 then .ok (.str (if n = 0 then PySem.Str.empty else z)) st else oMulL0 (.str z) (.int n) st) Q := p
      by_cases c : n = 0 ∨ n = 1
      · rw [if_pos c] at p'
        obtain ⟨rfl, ok⟩ := relStr rx
        refine .inl ⟨z, n, rfl, relInt ry, c, p' _ m H Ext.refl S (mkStr ?_)⟩
        by_cases c0 : n = 0
        · rw [if_pos c0]; decide +kernel
        · rw [if_neg c0]; exact ok
      · rw [if_neg c] at p'
        exact .inr (h2 _ _ _ _ st H m Q S rx ry p')
    | _ => exact .inr (h2 _ _ _ _ st H m Q S rx ry p)
  | _ => exact .inr (h2 _ _ _ _ st H m Q S rx ry p)
end
end J
namespace J
open PySem PySem.Spec PyProof.Rows L2
abbrev LF := List Wv → List Wv → Hs → Re Wv
def lamBase (X : Cx) (H : Hp) (s : Shared) : Heap := PySem.W.hideAll (hidT s.heap H) (frs X.stack)
section
variable {X : Cx} {pins : List (Addr × Obj)} {σ : St} {H : Hp} {s : Shared}
theorem lb_of {b : Addr} {o : Obj} (e : (lamBase X H s).get? b = some o) : s.heap.get? b = some o ∧ H b = none := of_hidT (PySem.W.of_hideAll _ e)
theorem lb_get {b : Addr} {o : Obj} (e : s.heap.get? b = some o) (n : H b = none) (hf : b ∉ frs X.stack) : (lamBase X H s).get? b = some o := PySem.W.hideAll_get _ (hidT_get e n) hf
theorem lb_sub (I : Inv X pins σ H s) : ∀ b o, X.base.get? b = some o → (lamBase X H s).get? b = some o := fun b o e => by
  obtain ⟨e1, e2⟩ := I.bs b o e
  refine lb_get e1 e2 fun z => ?_
  rcases List.mem_cons.mp (I.stkSub b z) with q | q
  · have h1 : X.base.get? b = none := by
      rw [q]
      exact Heap.get?_none_of_le (Nat.le_trans I.ok.bsz I.ok.above)
    rw [e] at h1; cases h1
  · exact I.ok.nofr e q
theorem lb_mod (I : Inv X pins σ H s) : Mod X.K X.mg (lamBase X H s) :=
  ⟨I.mod.kin.keeps (lb_sub I), I.mod.glob.keeps (lb_sub I), let ⟨mb, h1, h2⟩ := I.mod.blt; ⟨mb, h1.keeps (lb_sub I), h2⟩, I.mod.nolimit.keeps (lb_sub I)⟩
theorem ff_hide {h B B' : Heap} : ∀ {l : List Env}, (∀ env ∈ l, ∀ L, env.frame = some L → B'.get? L = none) → h.FunFrames B l → h.FunFrames B' l
  | [], _, _ => trivial
  | env :: r, hn, ⟨hk, ⟨L, o, hf, _, ho, hd⟩, hr⟩ => ⟨hk, ⟨L, o, hf, hn env (.head _) L hf, ho, hd⟩, ff_hide (fun e he => hn e (.tail _ he)) hr⟩
theorem lb_env0 (I : Inv X pins σ H s) : Env0 X.prog X.w X.K X.mg (lamBase X H s) X.A X.stack s H :=
  ⟨I.ok.frames, lb_mod I, fun b o e => lb_of e, by unfold lamBase; rw [PySem.W.hideAll_size, hidT_size]; exact Nat.le_refl _,
    ff_hide (fun env he L hL => PySem.W.hideAll_none _ (List.mem_filterMap.mpr ⟨env, he, hL⟩)) I.stack, I.stkFree, I.hok, I.bare⟩
end
def spL (K : PySem.W.Frag) (n : Nat) (p : Lm) (L : LF) : Sp := fun vs H Q E => ∃ m st ws caps, Sim K m st H ∧ RelWs K m H ws vs ∧ RelWs K m H caps p.xs ∧ H p.c = some (.ext (CodeX p.c p.q)) ∧ ws.length = n ∧ PostF K m H (L caps ws st) Q E
def HasL (P : Program) (w : World) (K : PySem.W.Frag) (mg : Str → Option Value) (base : Heap) (k : Nat) (p : Lm) (n : Nat) (L : LF) : Prop :=
  ∃ fd ps ob, FnOk P w K mg base (CXJ P w) k p.a fd ps (spL K n p L) ∧ base.get? p.a = some ob ∧ ob.data = .func fd ∧ Binds K fd ps []
open Classical in
noncomputable def gCallF (p : Lm) (n : Nat) (L : LF) (i : Nat) (g : GA) : GE := fun ρ st => match ρ[i]? with
  | some (some (.fn p' caps)) => if p' = p then (g ρ st).bind fun ws st1 => if ws.length = n then L caps ws st1 else .bad else .bad
  | _ => .bad
section
variable {X : Cx}
theorem je_callF {k n : Nat} {p : Lm} {L : LF} {x : Str} {i : Nat} {pp pos : Pos} {e : Expr} {es : List Expr} {g : GA} (G : HasL X.prog X.w X.K X.mg X.base k p n L) (hr : Room k X.A) (hN : X.N[i]? = some x) (hv : Vis X.env.scope x) (ha : JA X (e :: es) g)
    (hd : (x == ("__debug__" : Str)) = false) (hcd : (x == ("__classdict__" : Str)) = false) (he : starEach (e :: es) X.env = (false, eval e X.env) :: starEach es X.env := by rfl) (hpl : (backTo pos (starEach es X.env)).any (·.1) = false := by rfl) :
    JE X (.Call (.Name x pp) (e :: es) [] pos) (gCallF p n L i g) := by
  intro ρ st σ H m Q S R pq pins s I
  unfold gCallF at pq
  cases er : ρ[i]? with
  | none => rw [er] at pq; exact False.elim pq
  | some ow =>
    rw [er] at pq
    cases ow with
    | none => exact False.elim pq
    | some w =>
      cases w with
      | fn p' caps =>
        dsimp only at pq
        by_cases ep : p' = p
        · rw [if_pos ep] at pq
          subst ep
          obtain ⟨v, ev, rv⟩ := R.get i _ er
          have rv0 := rv
          unfold RelW at rv
          obtain ⟨rfl, hc, rc⟩ := rv
          obtain ⟨fd, ps, ob, F, ho, hod, hb⟩ := G
          have args := ha.go (T := fun vs H1 => ∃ ws st1 m1, PostE X σ m H (if ws.length = n then L caps ws st1 else .bad) Q ∧ Ext X.K m H m1 H1 ∧ Sim X.K m1 st1 H1 ∧ RelWs X.K m1 H1 ws vs) S R (PostG.bind pq)
            fun ws st1 vs m1 H1 p1 e1 S1 rs => ⟨ws, st1, m1, p1, e1, S1, rs⟩
          refine wpAny_Call_Name_kw (thn (pe_var hN hv hd hcd pins s σ H (fun v H' => v = .ref p'.a ∧ H' = H) I ⟨_, ev, rfl, rfl⟩) fun u s0 ⟨v, H0, I0, r0, hv0, hH0⟩ => ?_)
          subst hv0 hH0
          obtain rfl : u = Value.ref p'.a := r0
          let K1 : PySem.W.Frag := [(p'.a, ob)]
          have k1 : PySem.W.keepIn K1 (.ref p'.a) = true := by
            obtain ⟨oc, od, da, sl⟩ := ob
            dsimp only at hod
            subst hod
            simp [PySem.W.keepIn, K1]
          have kin1 : ∀ {h : Heap}, h.get? p'.a = some ob → K1.In h := fun {h} q a o e => by
            simp only [K1, List.lookup_cons, List.lookup_nil] at e
            cases q2 : a == p'.a with
            | true => rw [q2] at e; cases e; rw [eq_of_beq q2]; exact q
            | false => rw [q2] at e; cases e
          refine PySem.W.callWith_K (K := K1) (h₀ := X.base) (kin1 ho) k1 (thn (args pos pins s0 I0) fun us s1 ⟨vs, H1, I1, r, ws, st1, m1, p1, e1, S1, rs⟩ => ⟨kin1 (I1.bk _ _ ho), ?_⟩) he hpl
          by_cases c : ws.length = n
          · rw [if_pos c] at p1
            let E : XK := fun cl _ H2 => ∃ c' st2 m2 C, cl = .ref C ∧ ClsAt X.K c' C ∧ L caps ws st1 = .err c' st2 ∧ Ext X.K m1 H1 m2 H2 ∧ Sim X.K m2 st2 H2
            have sp : spL X.K n p' L vs H1 Q E := by
              refine ⟨m1, st1, ws, caps, S1, rs, RelWs.mono e1 _ _ rc, e1.ext _ _ hc, c, ?_⟩
              cases er : L caps ws st1 with
              | ok w st2 => rw [er] at p1; exact PostE.shift (r := .ok w st2) p1 e1
              | err c' st2 => exact fun m2 H2 C e2 S2 hC => ⟨c', st2, m2, C, rfl, hC, er, e2, S2⟩
              | bad => rw [er] at p1; exact False.elim p1
            have hl : us.length = ps.length := by rw [← r.length]; exact F.len _ _ _ _ sp
            have bd := hb s1 us I1.kIn (by rw [List.append_nil]; exact hl)
            rw [List.append_nil] at bd
            refine wpAny_call (codeAny_mono (F.run X.A X.stack s1 H1 ⟨us, []⟩ us vs Q E hr I1.env0 bd r sp) fun rr s2 hq => ?_)
            cases rr with
            | error x =>
              obtain ⟨H2, C, fl, c', st2, m2, C', ec, hC, er, e2, S2⟩ := hq
              cases ec
              rw [er] at p1
              exact p1 m2 H2 x s2 (e1.trans e2) S2 ⟨C, pins, H1, s1, hC, I1, .inl fl⟩
            | ok fw =>
              cases fw with
              | ret u => exact I1.after hq
              | next => exact False.elim hq
              | brk => exact False.elim hq
              | cont => exact False.elim hq
          · rw [if_neg c] at p1; exact False.elim p1
        · rw [if_neg ep] at pq; exact False.elim pq
      | _ => exact False.elim pq
end
def freeOf (sc : Scope) : List Str := (sc.names.filter fun p => decide (p.2 = .free)).map (·.1)
structure LamSc (sc : Scope) (x1 x2 x3 y : Str) : Prop where
  kind : sc.kind = .function
  co : sc.isCoroutine = false
  gen : sc.isGenerator = false
  nocell : ∀ p ∈ sc.names, p.2 ≠ .cell
  p1 : sc.names.lookup x1 = some .local
  p2 : sc.names.lookup x2 = some .local
  p3 : sc.names.lookup x3 = some .local
  fr : freeOf sc = [y]
  fy : sc.names.lookup y = some .free
  nd : [x1, x2, x3, y].Nodup
abbrev lamArgs (x1 x2 x3 : Str) (a1 a2 a3 : Option Expr) (q1 q2 q3 : Pos) : Arguments := ⟨[], [⟨x1, a1, q1⟩, ⟨x2, a2, q2⟩, ⟨x3, a3, q3⟩], none, [], [], none, []⟩
theorem lam_bind {x1 x2 x3 : Str} {a1 a2 a3 : Option Expr} {q1 q2 q3 : Pos} {name qual : Str} {body : Expr} {scope : Scope} {cl : List (Str × Addr)} {pm cdv ct : Value} (n12 : x1 ≠ x2) (n13 : x1 ≠ x3) (n23 : x2 ≠ x3) (u1 u2 u3 : Value) :
    bindArgs (PySem.W.kla_fn name qual (lamArgs x1 x2 x3 a1 a2 a3 q1 q2 q3) body scope cl pm cdv ct) ⟨[u1, u2, u3], []⟩ = pure [(x1, u1), (x2, u2), (x3, u3)] := by
  have h : ([x1, x2, x3] : List Str).filter (fun n => (List.lookup n [(x1, u1), (x2, u2), (x3, u3)]).isNone) = [] := by
    rw [List.filter_eq_nil_iff]
    intro n hn
    simp only [List.mem_cons, List.not_mem_nil, or_false] at hn
    simp only [List.lookup_cons, List.lookup_nil]
    rcases hn with rfl | rfl | rfl
    · simp
    · split <;> simp
    · split
      · simp
      · split <;> simp
  have e21 : (x2 == x1) = false := beq_eq_false_iff_ne.mpr (Ne.symm n12)
  have e31 : (x3 == x1) = false := beq_eq_false_iff_ne.mpr (Ne.symm n13)
  have e32 : (x3 == x2) = false := beq_eq_false_iff_ne.mpr (Ne.symm n23)
  have hs : notAStandIn Value.none = pure () := rfl
  unfold bindArgs
  simp [seqItems?, h, hs, List.lookup_cons, e21, e31, e32]
end J
namespace J
open PySem PySem.Spec PyProof.Rows L2
abbrev envL (p : Lm) (scope : Scope) (L : Addr) (cl : List (Str × Addr)) : Env := PySem.W.envX p.q scope L p.a (.ref p.c) cl
def cxL (P : Program) (w : World) (K : PySem.W.Frag) (mg : Str → Option Value) (base : Heap) (N : List Str) (p : Lm) (scope : Scope) (cl : List (Str × Addr)) (A : Around) (outer : List Env) (s : Shared) (H : Hp) (E : XK) : Cx where
  prog := P
  w := w
  K := K
  mg := mg
  base := base
  A := A.deeper (envL p scope s.heap.objs.size cl)
  N := N
  s₀ := s
  H₀ := H
  env := envL p scope s.heap.objs.size cl
  outer := outer
  stack := envL p scope s.heap.objs.size cl :: outer
  ex := []
  fn := fun _ => false
  calm := true
  pn := []
  xe := fun e s' => wpAny (model P w) (A.deeper (envL p scope s.heap.objs.size cl)) (leaving (envL p scope s.heap.objs.size cl) e) (fun _ s'' => CXJ P w outer H s E e s'') (fun e' s'' => CXJ P w outer H s E e' s'') s'
theorem look1 {y x : Str} {c c' : Addr} (h : List.lookup x [(y, c)] = some c') : x = y ∧ c' = c := by
  rw [List.lookup_cons] at h
  cases q : x == y with
  | true => rw [q] at h; cases h; exact ⟨eq_of_beq q, rfl⟩
  | false => rw [q] at h; cases h
theorem free_mem {l : List (Str × NameKind)} {x : Str} (h : l.lookup x = some .free) : x ∈ (l.filter fun p => decide (p.2 = .free)).map (·.1) :=
  List.mem_map.mpr ⟨(x, .free), List.mem_filter.mpr ⟨PySem.mem_of_lookup h, by simp⟩, rfl⟩
section
variable {P : Program} {w : World} {K : PySem.W.Frag} {mg : Str → Option Value} {base : Heap} {p : Lm} {scope : Scope} {x1 x2 x3 y : Str} {cy : Addr}
theorem raised_outL {N : List Str} {cl : List (Str × Addr)} {A : Around} {outer : List Env} {s s' : Shared} {H H' : Hp} {E : XK} {σ : St} {c : PySem.Str} {e : Value}
    (r : Raised (cxL P w K mg base N p scope cl A outer s H E) σ H' c e s') (h : ∀ C, ClsAt K c C → E (.ref C) none H') : (cxL P w K mg base N p scope cl A outer s H E).xe e s' := by
  obtain ⟨C, pins, Hc, sc, hC, I, r⟩ := r
  rcases r with fl | ⟨rfl, a, args, rfl, ho, hg, M⟩
  · exact leave_flown (X := cxL P w K mg base N p scope cl A outer s H E) rfl rfl rfl I fl fun s2 fl2 => ⟨H', C, fl2, h C hC⟩
  · exact leave_made (X := cxL P w K mg base N p scope cl A outer s H E) rfl rfl rfl I ho hg M fun s2 fl2 => ⟨H', C, fl2, h C hC⟩
theorem inv_lam {A : Around} {outer : List Env} {s : Shared} {H : Hp} {E : XK} {v1 v2 v3 vy : V} {u1 u2 u3 uy : Value} {oc : Obj} {h1 : Heap} {tk : Nat} (S : LamSc scope x1 x2 x3 y) (hd : A.handled = none) (e0 : Env0 P w K mg base A outer s H)
    (r1 : RelV v1 u1) (r2 : RelV v2 u2) (r3 : RelV v3 u3) (ry : RelV vy uy) (hc : base.get? cy = some oc) (hcd : oc.data = .cell (some uy))
    (hns : h1.Ns s.heap.objs.size (fun x => ([(x1, u1), (x2, u2), (x3, u3)] : List (Str × Value)).reverse.lookup x)) (hk : ∀ b o, s.heap.get? b = some o → h1.get? b = some o) :
    Inv (cxL P w K mg base [x1, x2, x3, y] p scope [(y, cy)] A outer s H E) [] [some v1, some v2, some v3, some vy] H { s with heap := h1, toks := tk } := by
  have noA : ∀ b : Addr, b ∉ (cxL P w K mg base [x1, x2, x3, y] p scope [(y, cy)] A outer s H E).ex := fun b z => absurd (show b ∈ ([] : List Addr) from z) (by simp)
  have nd := S.nd
  simp only [List.nodup_cons, List.mem_cons, List.not_mem_nil, or_false, not_or, List.nodup_nil, and_true, not_false_eq_true] at nd
  obtain ⟨⟨n12, n13, _⟩, ⟨n23, _⟩, _⟩ := nd
  have e12 : (x1 == x2) = false := beq_eq_false_iff_ne.mpr n12
  have e13 : (x1 == x3) = false := beq_eq_false_iff_ne.mpr n13
  have e23 : (x2 == x3) = false := beq_eq_false_iff_ne.mpr n23
  have cellB : ∀ x c, List.lookup x [(y, cy)] = some c → s.heap.get? c = some oc ∧ H c = none := fun x c h => by
    obtain ⟨_, rfl⟩ := look1 h
    exact e0.bs _ _ hc
  refine ⟨⟨e0.mod, S.kind, rfl, rfl, Nat.le_refl _, fun a b c h1 h2 => ?_, fun a ha => ?_, (fun a c h => by cases h), fun _ => hd, Around.frames_deeper e0.frames, .inr ⟨rfl, rfl⟩, fun b z => absurd z (noA b), e0.bs, e0.bsz, fun b _ _ => noA b, fun b z => absurd z (noA b), e0.funs, e0.frf⟩,
    rfl, e0.bare, Un.kept hk, ⟨_, hns, fun i a v h1 h2 h3 => ?_⟩, fun a c h => ⟨some uy, oc, hk _ _ (cellB a c h).1, hcd⟩, e0.hok.fresh (Nat.le_refl _), fun a c h => (cellB a c h).2, fun q hq => absurd (show q ∈ ([] : List (Addr × Obj)) from hq) (by simp), e0.hok.kept hk, rfl⟩
  · exact (look1 h1).1.trans (look1 h2).1.symm
  · have ha : scope.names.lookup a = some .cell ∨ scope.names.lookup a = some .free := ha
    rcases ha with ha | ha
    · exact absurd rfl (S.nocell _ (PySem.mem_of_lookup ha))
    · have q := free_mem ha
      have q2 : a ∈ freeOf scope := q
      rw [S.fr] at q2
      simp at q2
      subst q2
      exact ⟨cy, by show List.lookup a [(a, cy)] = _; simp⟩
  · match i, h1, h2 with
    | 0, h1, h2 =>
      cases h1; cases h2
      exact ⟨u1, r1, .inl ⟨S.p1, by simp [List.lookup_cons, e12, e13]⟩⟩
    | 1, h1, h2 =>
      cases h1; cases h2
      exact ⟨u2, r2, .inl ⟨S.p2, by simp [List.lookup_cons, e23]⟩⟩
    | 2, h1, h2 =>
      cases h1; cases h2
      exact ⟨u3, r3, .inl ⟨S.p3, by simp [List.lookup_cons]⟩⟩
    | 3, h1, h2 =>
      cases h1; cases h2
      exact ⟨uy, ry, .inr ⟨.inr S.fy, cy, by show List.lookup y [(y, cy)] = _; simp, oc, hk _ _ (e0.bs _ _ hc).1, hcd⟩⟩
    | i + 4, h1, h2 => simp [cxL] at h1
def lamF (g : GE) : LF := fun caps ws st => g (ws.map some ++ caps.map some) st
theorem rel3 {m : Mp} {H : Hp} {ws : List Wv} {vs : List V} (r : RelWs K m H ws vs) (h : ws.length = 3) : ∃ w1 w2 w3 v1 v2 v3, ws = [w1, w2, w3] ∧ vs = [v1, v2, v3] ∧ RelW K m H w1 v1 ∧ RelW K m H w2 v2 ∧ RelW K m H w3 v3 := by
  match ws, h with
  | [w1, w2, w3], _ =>
    unfold RelWs at r
    obtain ⟨v1, t1, rfl, r1, r⟩ := r
    unfold RelWs at r
    obtain ⟨v2, t2, rfl, r2, r⟩ := r
    unfold RelWs at r
    obtain ⟨v3, t3, rfl, r3, r⟩ := r
    unfold RelWs at r
    subst r
    exact ⟨w1, w2, w3, v1, v2, v3, rfl, rfl, r1, r2, r3⟩
theorem fn_lam {k : Nat} {a1 a2 a3 : Option Expr} {q1 q2 q3 : Pos} {body : Expr} {pm ctv uy : Value} {vy : V} {oc : Obj} {gb : GE} (S : LamSc scope x1 x2 x3 y) (hxs : p.xs = [vy])
    (hf : base.get? p.a = some (PySem.W.kla_obj "<lambda>" p.q (lamArgs x1 x2 x3 a1 a2 a3 q1 q2 q3) body scope [(y, cy)] pm p.c ctv)) (hc : base.get? cy = some oc) (hcd : oc.data = .cell (some uy)) (ry : RelV vy uy)
    (hb : ∀ (A : Around) (outer : List Env) (s : Shared) (H : Hp) (E : XK), Room k (A.deeper (envL p scope s.heap.objs.size [(y, cy)])) → JE (cxL P w K mg base [x1, x2, x3, y] p scope [(y, cy)] A outer s H E) body gb) :
    HasL P w K mg base (k + 1) p 3 (lamF gb) := by
  have nd := S.nd
  simp only [List.nodup_cons, List.mem_cons, List.not_mem_nil, or_false, not_or, List.nodup_nil, and_true, not_false_eq_true] at nd
  obtain ⟨⟨n12, n13, _⟩, ⟨n23, _⟩, _⟩ := nd
  refine ⟨_, [x1, x2, x3], _, ⟨fun vs H Q E h => ?_, fun A outer s H args us vs Q E hr e0 hbi r hsp => ?_⟩, hf, rfl, Binds.all fun us hl => ?_⟩
  · obtain ⟨m, st, ws, caps, _, r, _, _, hl, _⟩ := h
    rw [← r.length]; exact hl
  · obtain ⟨m, st, ws, caps, S', rs, rc, hcx, hl, post⟩ := hsp
    obtain ⟨w1, w2, w3, v1, v2, v3, rfl, rfl, s1, s2, s3⟩ := rel3 rs hl
    rw [hxs] at rc
    have rc0 := rc
    have hcl := rc.length
    obtain ⟨wy, rfl⟩ : ∃ wy, caps = [wy] := by
      match caps, hcl with
      | [wy], _ => exact ⟨wy, rfl⟩
    unfold RelWs at rc
    obtain ⟨vy', t, e, ryw, _⟩ := rc
    cases e
    rcases r with _ | ⟨r1, r⟩
    rcases r with _ | ⟨r2, r⟩
    rcases r with _ | ⟨r3, r⟩
    cases r
    rename_i u1 u2 u3
    have lim : s.heap.NoLimit := e0.mod.nolimit.keeps fun b o e => (e0.bs b o e).1
    have code : s.heap.CodeRec (.ref p.c) p.q := (e0.hok p.c _ hcx).1
    refine PySem.W.kla_callFunE hr.depth (e0.bs _ _ hf).1 rfl S.co S.gen rfl code (hbi _ _ _ _ ?_)
    refine wpAny_newFunctionEnv S.nocell (fun z hz => ?_) (fun h1 hns hsb => ⟨lim.fresh _ hsb, ?_⟩) S.kind
    · simp only [List.zip_cons_cons, List.zip_nil_right, List.mem_cons, List.not_mem_nil, or_false] at hz
      rcases hz with rfl | rfl | rfl
      · exact S.p1
      · exact S.p2
      · exact S.p3
    · have hk : ∀ b o, s.heap.get? b = some o → h1.get? b = some o := fun b o e => hsb.extBut b o (Nat.ne_of_lt (Heap.lt_size e)) (Heap.get?_push_of_some _ e)
      show codeAny _ _ (.expr body (envL p scope s.heap.objs.size [(y, cy)])) _ _
      have I := inv_lam (p := p) (E := E) (tk := s.toks + ([x1, x2, x3].zip [u1, u2, u3]).length) S hr.hd e0 r1 r2 r3 ry hc hcd hns hk
      have R : RelEnv K m H [some w1, some w2, some w3, some wy] [some v1, some v2, some v3, some vy] := ⟨rfl, fun i z h => by
        match i, h with
        | 0, h => cases h; exact ⟨_, rfl, s1⟩
        | 1, h => cases h; exact ⟨_, rfl, s2⟩
        | 2, h => cases h; exact ⟨_, rfl, s3⟩
        | 3, h => cases h; exact ⟨_, rfl, ryw⟩
        | i + 4, h => simp at h⟩
      have run := hb A outer s H E (hr.deeper _) [some w1, some w2, some w3, some wy] st [some v1, some v2, some v3, some vy] H m Q S' R (by
        have post' : PostF K m H (gb [some w1, some w2, some w3, some wy] st) Q E := post
        cases er : gb [some w1, some w2, some w3, some wy] st with
        | ok z st2 => rw [er] at post'; exact post'
        | err c st2 => rw [er] at post'; exact fun m' H' x s' e' S2 rz => raised_outL rz fun C hC => post' m' H' C e' S2 hC
        | bad => rw [er] at post'; exact False.elim post') [] _ I
      refine PySem.W.kla_codeExpr (wpAny_mono run (fun u s' hs => ?_) fun e s' hs => hs)
      obtain ⟨v, H', J, rv, q⟩ := hs
      exact ⟨v, H', J.os, J.bare, J.base, J.hok, rv, q⟩
  · match us, hl with
    | [u1, u2, u3], _ => exact lam_bind n12 n13 n23 u1 u2 u3
end
end J
namespace J
open PySem PySem.Spec PyProof.Rows L2
structure LamAt (X : Cx) (q : Str) (P : Addr) : Prop where
  code : ∃ c, X.env.code = .ref c ∧ PySem.W.CodeHd X.base c P
  qual : X.env.qual = q ++ ".<locals>."
  tab : tabFree X.K q = some P
  mem : q ∈ lamDefs
  uniq : ∀ q', q' ∈ lamDefs → tabFree X.K q' = some P → q' = q
  bm : ∃ bm ob, X.mg "__builtins__" = some (.ref bm) ∧ bm ≠ builtinsNs ∧ bm ≠ mainGlobals ∧ X.base.get? bm = some ob ∧ ob.cls = .type "module" ∧ ob.dict = some builtinsNs ∧ ob.data = .plain
theorem clos0 {env : Env} {f : Str × NameKind → List (Str × Addr) → Sem (ForInStep (List (Str × Addr)))} (hf : ∀ x k acc, k ≠ .free → f (x, k) acc = pure (.yield acc)) :
    ∀ (l : List (Str × NameKind)) (acc : List (Str × Addr)), (l.filter fun p => decide (p.2 = .free)).map (·.1) = [] → forIn l acc f = pure acc
  | [], acc, _ => by rw [List.forIn_nil]
  | (x, k) :: l, acc, h => by
    have hk : k ≠ .free := fun z => by subst z; simp at h
    rw [List.forIn_cons, hf x k acc hk, pure_bind]
    refine clos0 (env := env) hf l acc ?_
    rw [List.filter_cons_of_neg (by simpa using hk)] at h
    exact h
theorem clos1 {env : Env} {y : Str} {cy : Addr} {f : Str × NameKind → List (Str × Addr) → Sem (ForInStep (List (Str × Addr)))} (hf : ∀ x k acc, k ≠ .free → f (x, k) acc = pure (.yield acc)) (hg : ∀ acc, f (y, .free) acc = pure (.yield ((y, cy) :: acc))) :
    ∀ (l : List (Str × NameKind)) (acc : List (Str × Addr)), (l.filter fun p => decide (p.2 = .free)).map (·.1) = [y] → forIn l acc f = pure ((y, cy) :: acc)
  | [], acc, h => by simp at h
  | (x, k) :: l, acc, h => by
    by_cases hk : k = .free
    · subst hk
      rw [List.filter_cons_of_pos (by simp), List.map_cons] at h
      obtain ⟨e, h9⟩ := List.cons.inj h
      have e' : x = y := e
      subst e'
      rw [List.forIn_cons, hg acc, pure_bind]
      exact clos0 (env := env) hf l _ h9
    · rw [List.forIn_cons, hf x k acc hk, pure_bind]
      refine clos1 (env := env) hf hg l acc ?_
      rw [List.filter_cons_of_neg (by simpa using hk)] at h
      exact h
theorem closureFor1 {scope : Scope} {env : Env} {y : Str} {cy : Addr} (h : freeOf scope = [y]) (hc : env.cells.lookup y = some cy) : closureFor scope env = pure [(y, cy)] := by
  unfold closureFor
  dsimp only
  rw [clos1 (env := env) (y := y) (cy := cy) (fun x k acc hk => ?_) (fun acc => ?_) scope.names [] h, pure_bind]
  · have : (k == NameKind.free) = false := by simpa using hk
    simp only [this, Bool.false_eq_true, if_false]
  · have e : cellOf env y = pure cy := by unfold cellOf; rw [hc]
    simp [e]
theorem among_snoc {pos pos' : Pos} {c cv : Value} (l : List Value) (h : TriplesOk l) (e : codeAmong pos' (l ++ [rawInt pos.line, rawInt pos.col, c]) = some cv) : codeAmong pos' l = some cv ∨ cv = c := by
  fun_induction TriplesOk l with
  | case1 =>
    simp only [List.nil_append, rawInt, codeAmong] at e
    split at e
    · exact .inr (Option.some.inj e).symm
    · cases e
  | case2 a t b u x rest ih =>
    simp only [List.cons_append, codeAmong] at e ⊢
    split at e
    · rename_i q; rw [if_pos q]; exact .inl e
    · rename_i q; rw [if_neg q]; exact ih h e
  | case3 l h1 h2 => exact h.elim
section
variable {X : Cx} {pins : List (Addr × Obj)} {σ : St} {H : Hp} {s : Shared} {q : Str} {P : Addr}
theorem make_lam (I : Inv X pins σ H s) (T : TbOk X.K H) (D : LamAt X q P) {args : Arguments} {body : Expr} {scope : Scope} {lpos : Pos} {y : Str} {cy : Addr} (hfr : freeOf scope = [y]) (hcy : X.env.cells.lookup y = some cy) {Q : Value → Shared → Prop} {E : Value → Shared → Prop}
    (h : ∀ (f c' : Addr) (ctv : Value) (H' : Hp) (s' : Shared), Inv X pins σ H' s' → s'.heap.get? f = some (PySem.W.kla_obj "<lambda>" (lamQ q) args body scope [(y, cy)] ((X.mg "__name__").getD .none) c' ctv) → H' f = none → f ∉ frs X.stack →
      H' c' = some (.ext (CodeX c' (lamQ q))) → TbOk X.K H' → (∀ b u, H b = some u → (∀ ps, u ≠ .tbl ps) → H' b = some u) → Q (.ref f) s') :
    wpAny (model X.prog X.w) X.A (makeFunction "<lambda>" (X.env.qual ++ "<lambda>") args (.expr body) scope X.env [] [] [] lpos lpos.line) Q E s := by
  obtain ⟨c, hcode, CH⟩ := D.code
  obtain ⟨ps, hP, htr, hits⟩ := T q P D.mem D.tab
  obtain ⟨bm, ob, b1, b2, b3, b4, b5, b6, b7⟩ := D.bm
  have hPo : s.heap.get? P = some (PySem.W.tabObj ps) := I.hok P _ hP
  have gl : s.heap.Ns mainGlobals X.mg := I.mod.glob.keeps I.bk
  have CH' : PySem.W.CodeHd s.heap c P := CH.keeps I.bk
  have hgP : mainGlobals ≠ P := fun z => by
    obtain ⟨o, es, ep, e, hd, _⟩ := gl
    rw [z, hPo] at e; cases e; cases hd
  have hbP : bm ≠ P := fun z => by
    have e := I.bk _ _ b4
    rw [z, hPo] at e; cases e; cases b5
  have bAt : s.heap.BuiltinsAt X.mg P := ⟨bm, ob, b1, b2, b3, hbP, I.bk _ _ b4, b5, b6, b7⟩
  have hcl := closureFor1 (scope := scope) (env := X.env) hfr hcy
  have nfr : ∀ a, s.heap.objs.size ≤ a → a ∉ frs X.stack := fun a ha z => by
    rcases List.mem_cons.mp (I.stkSub a z) with e | e
    · rw [e] at ha; exact absurd (Nat.lt_of_lt_of_le I.lt ha) (Nat.lt_irrefl _)
    · exact I.nofs ha e
  have hq : X.env.qual ++ "<lambda>" = lamQ q := by rw [D.qual]; rfl
  rw [hq]
  cases hit : codeAmong lpos ps.toList with
  | some cv =>
    obtain ⟨c', rfl, hc'⟩ := hits lpos cv hit
    refine PySem.W.kla_makeFunctionHit (mg := X.mg) hcl I.ok.glob gl hcode CH' hPo htr hit bAt fun ctv h' tk hk hsz => ?_
    have k2 : ∀ b o, s.heap.get? b = some o → (h'.push (PySem.W.kla_obj "<lambda>" (lamQ q) args body scope [(y, cy)] ((X.mg "__name__").getD .none) c' ctv)).get? b = some o := fun b o e => Heap.get?_push_of_some _ (hk b o e)
    refine h h'.objs.size c' ctv H _ (I.un (Un.kept k2) (I.hok.kept k2)) (Heap.get?_push_size _ rfl) (I.hok.fresh hsz) (nfr _ hsz) hc' T fun b u e _ => e
  | none =>
    refine PySem.W.kla_makeFunction (mg := X.mg) hcl I.ok.glob gl hcode CH' hPo htr hit hgP bAt fun c' ctv h' tk hx hge hlt hrec htb => ?_
    have hPs : P < s.heap.objs.size := Heap.lt_size hPo
    have hcP : c' ≠ P := Nat.ne_of_gt (Nat.lt_of_lt_of_le hPs hge)
    have hnc : H c' = none := I.hok.fresh hge
    have hfc : h'.objs.size ≠ c' := Nat.ne_of_gt hlt
    have hfP : h'.objs.size ≠ P := Nat.ne_of_gt (Nat.lt_of_lt_of_le hPs (Nat.le_trans hge (Nat.le_of_lt hlt)))
    have hsf : s.heap.objs.size ≤ h'.objs.size := Nat.le_trans hge (Nat.le_of_lt hlt)
    let ps' : Array Value := ps ++ #[rawInt lpos.line, rawInt lpos.col, .ref c']
    let H' : Hp := upd (upd H P (.tbl ps')) c' (.ext (CodeX c' (lamQ q)))
    have at1 : H' c' = some (.ext (CodeX c' (lamQ q))) := upd_same
    have at2 : H' P = some (.tbl ps') := by show upd _ _ _ P = _; rw [upd_ne (Ne.symm hcP), upd_same]
    have at3 : ∀ b, b ≠ c' → b ≠ P → H' b = H b := fun b n1 n2 => by show upd _ _ _ b = _; rw [upd_ne n1, upd_ne n2]
    have keepH : ∀ b u, H b = some u → (∀ ps, u ≠ .tbl ps) → H' b = some u := fun b u e nt => by
      rw [at3 b (ne_of_none e hnc) (fun z => by rw [z, hP] at e; cases e; exact nt _ rfl)]; exact e
    have kp : ∀ b o, b ≠ P → s.heap.get? b = some o → (h'.push (PySem.W.kla_obj "<lambda>" (lamQ q) args body scope [(y, cy)] ((X.mg "__name__").getD .none) c' ctv)).get? b = some o := fun b o n e => Heap.get?_push_of_some _ (hx b o n e)
    have noP : ∀ b, H b = none → b ≠ P := fun b n z => by rw [z, hP] at n; cases n
    have hrec2 : CodeX c' (lamQ q) (h'.push (PySem.W.kla_obj "<lambda>" (lamQ q) args body scope [(y, cy)] ((X.mg "__name__").getD .none) c' ctv)) := by
      obtain ⟨c₂, oc, vs, t, e2, hoc, hd, hv⟩ := hrec
      exact ⟨c₂, oc, vs, t, e2, Heap.get?_push_of_some _ hoc, hd, hv⟩
    have hok' : HOk X.prog X.w H' (h'.push (PySem.W.kla_obj "<lambda>" (lamQ q) args body scope [(y, cy)] ((X.mg "__name__").getD .none) c' ctv)) := fun a o e => by
      by_cases e1 : a = c'
      · subst e1
        rw [at1] at e
        cases e
        obtain ⟨c₂, oc, vs, t, e2, hoc, hd, hv⟩ := id hrec2
        cases e2
        refine ⟨hrec2, ⟨oc, hoc⟩, fun h1 h2 φ k => ?_⟩
        obtain ⟨c₃, o3, vs3, t3, e3, g1, g2, g3⟩ := φ
        cases e3
        exact ⟨_, o3, vs3, t3, rfl, k _ g1, g2, g3⟩
      · by_cases e2 : a = P
        · subst e2
          rw [at2] at e
          cases e
          exact Heap.get?_push_of_some _ htb
        · rw [at3 a e1 e2] at e
          refine (I.hok a o e).stay (fun b u hb r => kp b u ?_ r) (fun b r => keepH b _ r (fun _ z => by cases z)) fun b xs r => keepH b _ r (fun _ z => by cases z)
          rcases hb with rfl | hb
          · exact e2
          · exact fun z => by rw [z, hP] at hb; cases hb
    have T' : TbOk X.K H' := fun q2 P2 hq2 hP2 => by
      obtain ⟨ps2, g1, g2, g3⟩ := T q2 P2 hq2 hP2
      by_cases e : P2 = P
      · subst e
        have eq := D.uniq q2 hq2 hP2
        subst eq
        rw [hP] at g1
        cases g1
        refine ⟨ps', at2, by simpa [ps'] using TriplesOk_snoc _ _ (.ref c') ps.toList g2, fun pos cv e => ?_⟩
        have e' : codeAmong pos (ps.toList ++ [rawInt lpos.line, rawInt lpos.col, .ref c']) = some cv := by simpa [ps'] using e
        rcases among_snoc ps.toList g2 e' with z | z
        · obtain ⟨c2, f1, f2⟩ := g3 pos cv z
          exact ⟨c2, f1, keepH _ _ f2 (fun _ z => by cases z)⟩
        · exact ⟨c', z, at1⟩
      · refine ⟨ps2, ?_, g2, fun pos cv e => ?_⟩
        · rw [at3 P2 (ne_of_none g1 hnc) e]; exact g1
        · obtain ⟨c2, f1, f2⟩ := g3 pos cv e
          exact ⟨c2, f1, keepH _ _ f2 (fun _ z => by cases z)⟩
    have hL : X.env.locals ≠ P := noP _ I.free
    have I' : Inv X pins σ H' { s with heap := h'.push (PySem.W.kla_obj "<lambda>" (lamQ q) args body scope [(y, cy)] ((X.mg "__name__").getD .none) c' ctv), toks := tk } := by
      refine I.step (g' := s.gens) (d' := s.drawn) (ch := []) (fun _ z => nomatch z) (fun b o _ _ _ e n => kp b o (noP b n) e) (fun b o _ _ _ e n => ⟨o.slots, kp b o (noP b n) e⟩) (fun b o _ e n => ?_) (fun b o _ e => ?_)
        (fun b xs e => keepH b _ e (fun _ z => by cases z)) (fun b o u e => keepH b _ e (fun _ z => by cases z)) (fun b ps2 e => ?_) (fun m hm => (hm.extBut hx hL).push _) hok' I.bare
      · rw [at3 b (fun z => by rw [z] at e; exact absurd (Nat.lt_of_lt_of_le (Heap.lt_size e) hge) (Nat.lt_irrefl _)) (noP b n)]; exact n
      · by_cases z : b = P
        · exact ⟨_, by rw [z]; exact Heap.get?_push_of_some _ htb⟩
        · exact ⟨o, kp b o z e⟩
      · by_cases z : b = P
        · rw [z, hP] at e
          cases e
          exact ⟨#[rawInt lpos.line, rawInt lpos.col, .ref c'], by rw [z]; exact at2⟩
        · exact ⟨#[], by rw [at3 b (ne_of_none e hnc) z, e]; simp⟩
    refine h h'.objs.size c' ctv H' _ I' (Heap.get?_push_size _ rfl) ?_ (nfr _ hsf) at1 T' keepH
    rw [at3 _ hfc hfP]
    exact I.hok.fresh hsf
theorem Sim.keepH {K : PySem.W.Frag} {m : Mp} {st : Hs} {H H' : Hp} (S : Sim K m st H) (k : ∀ b u, H b = some u → (∀ ps, u ≠ .tbl ps) → H' b = some u) (T : TbOk K H') : Ext K m H m H' ∧ Sim K m st H' := by
  have ex : Ext K m H m H' := ⟨fun _ _ h => h, fun a xs h => k a _ h (fun _ z => by cases z), fun a φ h => k a _ h (fun _ z => by cases z)⟩
  refine ⟨ex, S.len, fun l a o h1 h2 => ?_, S.inj, T⟩
  have q := S.obj l a o h1 h2
  cases o with
  | lst ws => obtain ⟨xs, e1, e2⟩ := q; exact ⟨xs, k _ _ e1 (fun _ z => by cases z), RelWs.mono ex _ _ e2⟩
  | dct kvs => obtain ⟨xs, e1, e2⟩ := q; exact ⟨xs, k _ _ e1 (fun _ z => by cases z), e2.mono ex⟩
  | dcT kvs => obtain ⟨xs, e1, e2⟩ := q; exact ⟨xs, k _ _ e1 (fun _ z => by cases z), e2.mono ex⟩
  | scr ns =>
    rcases q with ⟨o', q⟩ | q
    · exact .inl ⟨o', k _ _ q (fun _ z => by cases z)⟩
    · exact .inr q
end
end J
namespace J
open PySem PySem.Spec PyProof.Rows L2
noncomputable def anyLm (G : Lm → Re Wv) : Re Wv := open Classical in if h : ∃ r, ∀ p, G p = r then h.choose else .bad
theorem anyLm_eq {G : Lm → Re Wv} {r : Re Wv} (h : ∀ p, G p = r) : anyLm G = r := by
  have e : ∃ r, ∀ p, G p = r := ⟨r, h⟩
  unfold anyLm
  rw [dif_pos e]
  exact (e.choose_spec ⟨0, 0, "", []⟩).symm.trans (h _)
abbrev FLt := Lm → LF → List Wv → Hs → Re Wv
noncomputable def gLam (FL : FLt) (iy : Nat) (g gb : GE) : GE := fun ρ st => (g ρ st).bind fun w st1 => match ρ[iy]? with
  | some (some wy) => anyLm fun p => FL p (lamF gb) [w, .fn p [wy]] st1
  | _ => .bad
def BmOk (mg : Str → Option Value) (base : Heap) : Prop := ∃ bm ob, mg "__builtins__" = some (.ref bm) ∧ bm ≠ builtinsNs ∧ bm ≠ mainGlobals ∧ base.get? bm = some ob ∧ ob.cls = .type "module" ∧ ob.dict = some builtinsNs ∧ ob.data = .plain
def ModB (K : PySem.W.Frag) (mg : Str → Option Value) (base : Heap) : Prop := Mod K mg base ∧ BmOk mg base
def FnL (P : Program) (w : World) (K : PySem.W.Frag) (mg : Str → Option Value) (k j : Nat) (x : Str) (FL : FLt) : Prop :=
  (∃ f, mg x = some (.ref f) ∧ PySem.W.keepIn K (.ref f) = true) ∧ ∀ (base : Heap) (p : Lm) (L : LF), ModB K mg base → HasL P w K mg base (j + 1) p 3 L → Has P w K mg base k x 2 (FL p L)
section
variable {X : Cx}
theorem je_lam {k j : Nat} {x q y x1 x2 x3 : Str} {P : Addr} {FL : FLt} {iy : Nat} {p pos lpos q1 q2 q3 : Pos} {a1 a2 a3 : Option Expr} {e body : Expr} {scope : Scope} {g gb : GE} (hF : FnL X.prog X.w X.K X.mg k j x FL) (hr : Room k X.A) (hg : Gl X x) (hdb : (x == ("__debug__" : Str)) = false)
    (he : JE X e g) (D : LamAt X q P) (S : LamSc scope x1 x2 x3 y) (hy : X.N[iy]? = some y) (hyv : X.env.scope.names.lookup y = some .cell ∨ X.env.scope.names.lookup y = some .free) (hfn : X.fn y = true)
    (hb : ∀ (base : Heap) (p : Lm) (cy : Addr) (A : Around) (outer : List Env) (s : Shared) (H : Hp) (E : XK), ModB X.K X.mg base → Room j (A.deeper (envL p scope s.heap.objs.size [(y, cy)])) → JE (cxL X.prog X.w X.K X.mg base [x1, x2, x3, y] p scope [(y, cy)] A outer s H E) body gb)
    (hs : ∀ r, starEach (e :: r) X.env = (false, eval e X.env) :: starEach r X.env) : JE X (.Call (.Name x p) [e, .Lambda (lamArgs x1 x2 x3 a1 a2 a3 q1 q2 q3) body scope lpos] [] pos) (gLam FL iy g gb) := by
  intro ρ st σ H m Q S0 R pq pins s I
  obtain ⟨⟨f, hm, hk⟩, HF⟩ := hF
  unfold gLam at pq
  have first := he.go (T := fun v H1 => ∃ w st1 m1, PostE X σ m H (match ρ[iy]? with
    | some (some wy) => anyLm fun p => FL p (lamF gb) [w, .fn p [wy]] st1
    | _ => .bad) Q ∧ Ext X.K m H m1 H1 ∧ Sim X.K m1 st1 H1 ∧ RelW X.K m1 H1 w v) S0 R (PostG.bind pq) fun w st1 v m1 H1 p1 e1 S1 r1 => ⟨w, st1, m1, p1, e1, S1, r1⟩
  refine wpAny_Call_Name_kw (ld_glob I hg hm ?_ hdb)
  refine PySem.W.callWith_K (h₀ := X.base) I.ok.mod.kin hk ?_ (hs _) rfl
  rw [hs]
  show wpAny _ _ (spliced ((false, eval e X.env) :: backTo pos (starEach [.Lambda (lamArgs x1 x2 x3 a1 a2 a3 q1 q2 q3) body scope lpos] X.env))) _ _ s
  refine Calls.spliced_cons (thn (first pins s I) fun u s1 ⟨v, H1, I1, r1, w, st1, m1, p1, e1, S1, rw1⟩ => ?_)
  show wpAny _ _ (spliced ((false, eval (.Lambda (lamArgs x1 x2 x3 a1 a2 a3 q1 q2 q3) body scope lpos) X.env) :: backTo pos (starEach [] X.env))) _ _ s1
  cases er : ρ[iy]? with
  | none => rw [er] at p1; exact False.elim p1
  | some ow =>
    rw [er] at p1
    cases ow with
    | none => exact False.elim p1
    | some wy =>
      dsimp only at p1
      obtain ⟨vy, evy, rvy⟩ := R.get iy wy er
      have vis : Vis X.env.scope y := .inr hyv
      have hcell : ∀ {H' : Hp} {s' : Shared}, Inv X pins σ H' s' → ∃ uy cy, RelV vy uy ∧ X.env.cells.lookup y = some cy ∧ s'.heap.IsCell cy (some uy) := fun {H' s'} I' => by
        obtain ⟨mm, hn, hl⟩ := I'.loc
        obtain ⟨uy, ry, lk⟩ := hl iy y vy hy evy vis
        rcases lk with ⟨hkk, _⟩ | ⟨_, c, hc, hcl⟩
        · have hkk : X.env.scope.names.lookup y = some .local := hkk
          rcases hyv with z | z <;> rw [z] at hkk <;> cases hkk
        · exact ⟨uy, c, ry, hc, hcl⟩
      obtain ⟨_, cy, _, hcy, _⟩ := hcell I1
      refine Calls.spliced_cons (PySem.W.kla_eval rfl (make_lam I1 S1.tab D S.fr hcy fun f2 c' ctv H2 s2 I2 hf2 nf2 nfr hc2 T2 kH => ?_))
      refine Calls.spliced_nil ⟨I2.kIn, ?_⟩
      obtain ⟨ex2, S2⟩ := S1.keepH kH T2
      obtain ⟨uy, cy', ryv, hcy', oc, hoc, hocd⟩ := hcell I2
      rw [hcy] at hcy'
      cases hcy'
      have ncy : cy ∉ frs X.stack := fun z => by
        rcases List.mem_cons.mp (I2.stkSub cy z) with e | e
        · exact I2.cne y cy hcy e
        · obtain ⟨_, o, ho, _⟩ := I2.ok.funs.mem e
          exact absurd (Nat.lt_of_lt_of_le (Heap.lt_size ho) (I2.ok.cab y cy hfn hcy)) (Nat.lt_irrefl _)
      let pl : Lm := ⟨f2, c', lamQ q, [vy]⟩
      have mB : ModB X.K X.mg (lamBase X H2 s2) := ⟨lb_mod I2, let ⟨bm, ob, b1, b2, b3, b4, b5⟩ := D.bm; ⟨bm, ob, b1, b2, b3, lb_sub I2 _ _ b4, b5⟩⟩
      have HL : HasL X.prog X.w X.K X.mg (lamBase X H2 s2) (j + 1) pl 3 (lamF gb) := fn_lam (p := pl) (vy := vy) S rfl (lb_get hf2 nf2 nfr) (lb_get hoc (I2.freeC y cy hcy) ncy) hocd ryv fun A outer s H E hr => hb _ pl cy A outer s H E mB hr
      obtain ⟨f', fd, ps, G, hm', hk', hbn⟩ := HF _ pl (lamF gb) mB HL
      rw [hm] at hm'
      cases hm'
      have p2 : PostE X σ m H (FL pl (lamF gb) [w, .fn pl [wy]] st1) Q := by
        unfold anyLm at p1
        by_cases ee : ∃ r, ∀ p, FL p (lamF gb) [w, .fn p [wy]] st1 = r
        · rw [dif_pos ee] at p1
          rw [ee.choose_spec pl]
          exact p1
        · rw [dif_neg ee] at p1; exact False.elim p1
      let E : XK := fun cl _ H3 => ∃ c' st2 m2 C, cl = .ref C ∧ ClsAt X.K c' C ∧ FL pl (lamF gb) [w, .fn pl [wy]] st1 = .err c' st2 ∧ Ext X.K m1 H2 m2 H3 ∧ Sim X.K m2 st2 H3
      have sp : spW X.K 2 (FL pl (lamF gb)) [v, .ref f2] H2 Q E := by
        refine ⟨m1, st1, [w, .fn pl [wy]], S2, RelWs.cons (RelW.mono ex2 _ _ rw1) (RelWs.cons ?_ RelWs.nil), rfl, ?_⟩
        · unfold RelW
          exact ⟨rfl, hc2, RelWs.cons (RelW.mono (e1.trans ex2) _ _ rvy) RelWs.nil⟩
        · cases er : FL pl (lamF gb) [w, .fn pl [wy]] st1 with
          | ok w st2 => rw [er] at p2; exact PostE.shift (r := .ok w st2) p2 (e1.trans ex2)
          | err c' st2 => exact fun m2 H2 C e2 S2 hC => ⟨c', st2, m2, C, rfl, hC, er, e2, S2⟩
          | bad => rw [er] at p2; exact False.elim p2
      have rv : Vals [v, .ref f2] [u, .ref f2] := .cons r1 (.cons rfl .nil)
      have hl : [u, Value.ref f2].length = ps.length := by rw [← rv.length]; exact G.len _ _ _ _ sp
      have bd := hbn s2 [u, .ref f2] I2.kIn (by rw [List.append_nil]; exact hl)
      rw [List.append_nil] at bd
      refine wpAny_call (codeAny_mono (G.run X.A X.stack s2 H2 ⟨[u, .ref f2], []⟩ [u, .ref f2] [v, .ref f2] Q E hr (lb_env0 I2) bd rv sp) fun rr s3 hq => ?_)
      cases rr with
      | error z =>
        obtain ⟨H3, C, fl, c', st2, m2, C', ec, hC, er, e2, S3⟩ := hq
        cases ec
        rw [er] at p2
        exact p2 m2 H3 z s3 ((e1.trans ex2).trans e2) S3 ⟨C, pins, H2, s2, hC, I2, .inl fl⟩
      | ok fw =>
        cases fw with
        | ret u => exact I2.after hq
        | next => exact False.elim hq
        | brk => exact False.elim hq
        | cont => exact False.elim hq
end
end J
namespace J
open PySem PySem.Spec PyProof.Rows L2
section
variable {P : Program} {w : World} {A : Around} {E : Value → Shared → Prop} {s : Shared}
theorem nextT_item {j t : Addr} {i : Nat} {vs : Array Value} {u : Value} {Q : Value → Shared → Prop} (hj : s.heap.IsTupleIter j t i) (ht : s.heap.IsTuple t vs) (hu : vs[i]? = some u)
    (k : ∀ g, g.IsTupleIter j t (i + 1) → Heap.SameBut j s.heap g → Q u { s with heap := g }) : wpAny (model P w) A (Builtin.SmallTypes.nextOf (.ref j)) Q E s := by
  obtain ⟨oj, ej, cj, dj⟩ := id hj
  obtain ⟨ot, et, _, nt, dt⟩ := ht
  unfold Builtin.SmallTypes.nextOf
  refine wpAny_bind (wpAny_callSpecial?_slot (name := Str.ofString "__next__") hj.typeIs F.slot_tuple_iterator_next (wpAny_call_entry F.slot_tuple_iterator_next hj.typeIs F.entry_tuple_iterator_next ?_ (F.args_tuple_iterator_next_1 _)))
  show wpAny _ _ (field (.ref j) 0 >>= _) _ _ s
  refine wpAny_bind (wpAny_field ej dj (x := .ref t) rfl ?_)
  show wpAny _ _ (if (Value.ref t == Value.none) = true then _ else _) _ _ s
  rw [if_neg (by intro z; exact Bool.false_ne_true z)]
  show wpAny _ _ (field (.ref j) 1 >>= _) _ _ s
  refine wpAny_bind (wpAny_field ej dj (x := .int i 0) rfl ?_)
  show wpAny _ _ (seqItems? (.ref t) >>= _) _ _ s
  refine wpAny_bind (wpAny_seqItems et dt ?_)
  simp only [Int.toNat_natCast, hu]
  refine wpAny_bind (wpAny_setField ej dj (by simp) (wpAny_pure ⟨u, rfl, wpAny_pure (k _ ?_ (Heap.SameBut.update ..))⟩))
  refine ⟨_, Heap.get?_update_self _ ej (Obj.isFreed_of_fields (Obj.data_mapFields dj _)), (Obj.cls_mapFields ..).trans cj, ?_⟩
  rw [Obj.data_mapFields dj]; simp [rawInt]
theorem nextT_end {j t : Addr} {i : Nat} {vs : Array Value} {Q : Value → Shared → Prop} (hh : A.handled = none) (hj : s.heap.IsTupleIter j t i) (ht : s.heap.IsTuple t vs) (hu : vs[i]? = none)
    (k : ∀ g e, Heap.ExtBut j s.heap g → (∃ o, g.get? e = some o ∧ o.cls = .type "StopIteration") → E (.ref e) { s with heap := g }) : wpAny (model P w) A (Builtin.SmallTypes.nextOf (.ref j)) Q E s := by
  obtain ⟨oj, ej, cj, dj⟩ := id hj
  obtain ⟨ot, et, _, nt, dt⟩ := ht
  unfold Builtin.SmallTypes.nextOf
  refine wpAny_bind (wpAny_callSpecial?_slot (name := Str.ofString "__next__") hj.typeIs F.slot_tuple_iterator_next (wpAny_call_entry F.slot_tuple_iterator_next hj.typeIs F.entry_tuple_iterator_next ?_ (F.args_tuple_iterator_next_1 _)))
  show wpAny _ _ (field (.ref j) 0 >>= _) _ _ s
  refine wpAny_bind (wpAny_field ej dj (x := .ref t) rfl ?_)
  show wpAny _ _ (if (Value.ref t == Value.none) = true then _ else _) _ _ s
  rw [if_neg (by intro z; exact Bool.false_ne_true z)]
  show wpAny _ _ (field (.ref j) 1 >>= _) _ _ s
  refine wpAny_bind (wpAny_field ej dj (x := .int i 0) rfl ?_)
  show wpAny _ _ (seqItems? (.ref t) >>= _) _ _ s
  refine wpAny_bind (wpAny_seqItems et dt ?_)
  simp only [Int.toNat_natCast, hu]
  refine wpAny_bind (wpAny_rule (wpAny_bind (wpAny_setField ej dj (by simp) ?_)))
  show wpAny _ _ (newExc (.type "StopIteration") [] >>= _) _ _ _
  refine wpAny_bind ?_
  simp only [newExc, newTuple]
  refine wpAny_bind (wpAny_newObj_type ?_ (by size_fits))
  refine wpAny_bind (m := firstArgMember _ _) (wpAny_of_eq (a := Value.none) (by first | rfl | (simp only [firstArgMember]; rfl)) ?_)
  refine wpAny_newObj_type ?_ (by size_fits)
  simp only [raiseNew]
  refine wpAny_bind (wpAny_handled ?_)
  first | rw [show A.in1.handled = none from hh] | rw [hh]
  refine wpAny_bind (wpAny_pure (wpAny_throw ?_))
  exact k _ _ (((Heap.SameBut.update ..).extBut.push _).push _) ⟨_, Heap.get?_push_size _ rfl, rfl⟩
abbrev Tri (h : Heap) (t : Addr) (a b c : Value) : Prop := h.get? t = some { cls := .type "tuple", data := .seq #[a, b, c] }
theorem tri_set {t : Addr} {a b c v : Value} {k : Nat} {Q : Unit → Shared → Prop} (ht : Tri s.heap t a b c)
    (q : ∀ g, g.get? t = some { cls := .type "tuple", data := .seq ((#[a, b, c] : Array Value).setIfInBounds k v) } → Heap.SameBut t s.heap g → Q () { s with heap := g }) : wpAny (model P w) A (updateSeq t (·.setIfInBounds k v)) Q E s := by
  refine wpAny_updateSeq ht rfl (q _ ?_ (Heap.SameBut.update ..))
  rw [Heap.get?_update_self _ ht rfl]
  simp [Obj.mapSeq]
structure Zd (z T O j1 j2 j3 t1 t2 t3 : Addr) : Prop where
  nd : [z, T, O, j1, j2, j3].Nodup
  a1 : t1 ∉ [z, O, j1, j2, j3]
  a2 : t2 ∉ [z, O, j1, j2, j3]
  a3 : t3 ∉ [z, O, j1, j2, j3]
theorem zip3_item {z T O j1 j2 j3 t1 t2 t3 : Addr} {i : Nat} {v1 v2 v3 : Array Value} {u1 u2 u3 a b c : Value} {Q : Value → Shared → Prop} (D : Zd z T O j1 j2 j3 t1 t2 t3) (hz : IsZip s.heap z T O .none) (hT : Tri s.heap T (.ref j1) (.ref j2) (.ref j3)) (hO : Tri s.heap O a b c)
    (h1 : s.heap.IsTupleIter j1 t1 i) (h2 : s.heap.IsTupleIter j2 t2 i) (h3 : s.heap.IsTupleIter j3 t3 i) (w1 : s.heap.IsTuple t1 v1) (w2 : s.heap.IsTuple t2 v2) (w3 : s.heap.IsTuple t3 v3) (e1 : v1[i]? = some u1) (e2 : v2[i]? = some u2) (e3 : v3[i]? = some u3)
    (k : ∀ g, IsZip g z T O (rawInt s.heap.objs.size) → Tri g O u1 u2 u3 → g.IsTupleIter j1 t1 (i + 1) → g.IsTupleIter j2 t2 (i + 1) → g.IsTupleIter j3 t3 (i + 1) → Tri g s.heap.objs.size u1 u2 u3 → g.objs.size = s.heap.objs.size + 1 →
      (∀ y o, y ∉ [z, O, j1, j2, j3] → s.heap.get? y = some o → g.get? y = some o) → Q (.ref s.heap.objs.size) { s with heap := g }) :
    wpAny (model P w) A (Builtin.«zip.__next__» ⟨[.ref z], []⟩) (fun fin s' => ∃ v, fin = .done (.ret v) ∧ Q v s') E s := by
  obtain ⟨nd, n1, n2, n3⟩ := D
  simp only [List.nodup_cons, List.mem_cons, List.not_mem_nil, or_false, not_or, List.nodup_nil, and_true, not_false_eq_true] at nd n1 n2 n3
  obtain ⟨⟨zT, zO, z1, z2, z3⟩, ⟨TO, T1, T2, T3⟩, ⟨O1, O2, O3⟩, ⟨d12, d13⟩, d23⟩ := nd
  obtain ⟨p1z, p1O, p11, p12, p13⟩ := n1
  obtain ⟨p2z, p2O, p21, p22, p23⟩ := n2
  obtain ⟨p3z, p3O, p31, p32, p33⟩ := n3
  show wpAny _ _ (field (.ref z) 2 >>= _) _ _ s
  refine wpAny_bind (wpAny_field hz rfl (x := .bool false) rfl ?_)
  show wpAny _ _ (field (.ref z) 3 >>= _) _ _ s
  refine wpAny_bind (wpAny_field hz rfl (x := .ref T) rfl ?_)
  refine wpAny_bind (wpAny_seqItems hT rfl ?_)
  show wpAny _ _ (Builtin.SmallTypes.ownedTupleIsFree (.ref z) >>= _) _ _ s
  refine wpAny_bind ?_
  unfold Builtin.SmallTypes.ownedTupleIsFree
  refine wpAny_bind (wpAny_field hz rfl (x := .none) rfl (wpAny_pure ?_))
  simp only [if_true]
  refine wpAny_bind (wpAny_rule ?_)
  refine wpAny_bind (wpAny_field hz rfl (x := .ref O) rfl ?_)
  refine wpAny_bind (wpAny_setField_rec hz (by simp) fun g0 y0 b0 => ?_)
  replace y0 : IsZip g0 z T O .ellipsis := y0
  refine wpAny_bind ?_
  simp only [List.zipIdx_cons, List.zipIdx_nil, List.forIn_cons, List.forIn_nil]
  refine wpAny_bind (wpAny_bind (wpAny_onRaise ?_))
  show wpAny _ _ (Builtin.SmallTypes.nextOf (.ref j1) >>= _) _ _ _
  refine wpAny_bind (nextT_item (h1.extBut b0.extBut (Ne.symm z1)) (w1.extBut b0.extBut p1z) e1 fun g1 h1' b1 => wpAny_pure ?_)
  have O1' : Tri g1 O a b c := b1.extBut _ _ O1 (b0.extBut _ _ (Ne.symm zO) hO)
  refine wpAny_bind (wpAny_seqItems O1' rfl ?_)
  refine wpAny_bind (tri_set O1' fun g2 O2' b2 => ?_)
  replace O2' : Tri g2 O u1 b c := O2'
  refine wpAny_bind (wpAny_letGo (wpAny_pure ?_))
  refine wpAny_bind (wpAny_bind (wpAny_onRaise ?_))
  show wpAny _ _ (Builtin.SmallTypes.nextOf (.ref j2) >>= _) _ _ _
  refine wpAny_bind (nextT_item (((h2.extBut b0.extBut (Ne.symm z2)).extBut b1.extBut (Ne.symm d12)).extBut b2.extBut (Ne.symm O2)) (((w2.extBut b0.extBut p2z).extBut b1.extBut p21).extBut b2.extBut p2O) e2 fun g3 h2' b3 => wpAny_pure ?_)
  have O3' : Tri g3 O u1 b c := b3.extBut _ _ O2 O2'
  refine wpAny_bind (wpAny_seqItems O3' rfl ?_)
  refine wpAny_bind (tri_set O3' fun g4 O4' b4 => ?_)
  replace O4' : Tri g4 O u1 u2 c := O4'
  refine wpAny_bind (wpAny_letGo (wpAny_pure ?_))
  refine wpAny_bind (wpAny_bind (wpAny_onRaise ?_))
  show wpAny _ _ (Builtin.SmallTypes.nextOf (.ref j3) >>= _) _ _ _
  refine wpAny_bind (nextT_item (((((h3.extBut b0.extBut (Ne.symm z3)).extBut b1.extBut (Ne.symm d13)).extBut b2.extBut (Ne.symm O3)).extBut b3.extBut (Ne.symm d23)).extBut b4.extBut (Ne.symm O3))
    (((((w3.extBut b0.extBut p3z).extBut b1.extBut p31).extBut b2.extBut p3O).extBut b3.extBut p32).extBut b4.extBut p3O) e3 fun g5 h3' b5 => wpAny_pure ?_)
  have O5' : Tri g5 O u1 u2 c := b5.extBut _ _ O3 O4'
  refine wpAny_bind (wpAny_seqItems O5' rfl ?_)
  refine wpAny_bind (tri_set O5' fun g6 O6' b6 => ?_)
  replace O6' : Tri g6 O u1 u2 u3 := O6'
  refine wpAny_bind (wpAny_letGo (wpAny_pure (wpAny_pure ?_)))
  refine wpAny_bind (wpAny_seqItems O6' rfl ?_)
  refine wpAny_bind (wpAny_newTuple ?_)
  have sz : g6.objs.size = s.heap.objs.size := by rw [b6.1, b5.1, b4.1, b3.1, b2.1, b1.1, b0.1]
  have keep : ∀ y o, y ∉ [z, O, j1, j2, j3] → s.heap.get? y = some o → g6.get? y = some o := fun y o hy q => by
    simp only [List.mem_cons, List.not_mem_nil, or_false, not_or] at hy
    obtain ⟨y1, y2, y3, y4, y5⟩ := hy
    exact b6.extBut _ _ y2 (b5.extBut _ _ y5 (b4.extBut _ _ y2 (b3.extBut _ _ y4 (b2.extBut _ _ y2 (b1.extBut _ _ y3 (b0.extBut _ _ y1 q))))))
  have z6 : IsZip g6 z T O .ellipsis := b6.extBut _ _ zO (b5.extBut _ _ z3 (b4.extBut _ _ zO (b3.extBut _ _ z2 (b2.extBut _ _ zO (b1.extBut _ _ z1 y0)))))
  have k1 : g6.IsTupleIter j1 t1 (i + 1) := ((((h1'.extBut b2.extBut (Ne.symm O1)).extBut b3.extBut d12).extBut b4.extBut (Ne.symm O1)).extBut b5.extBut d13).extBut b6.extBut (Ne.symm O1)
  have k2 : g6.IsTupleIter j2 t2 (i + 1) := ((h2'.extBut b4.extBut (Ne.symm O2)).extBut b5.extBut d23).extBut b6.extBut (Ne.symm O2)
  have k3 : g6.IsTupleIter j3 t3 (i + 1) := h3'.extBut b6.extBut (Ne.symm O3)
  have zlt : z < g6.objs.size := Heap.lt_size z6
  show wpAny _ _ (Builtin.SmallTypes.ownedTupleHandOut (.ref z) (.ref g6.objs.size) >>= _) _ _ _
  refine wpAny_bind ?_
  unfold Builtin.SmallTypes.ownedTupleHandOut
  have z7 : IsZip (g6.push { cls := .type "tuple", data := .seq #[u1, u2, u3] }) z T O .ellipsis := Heap.get?_push_of_some _ z6
  refine wpAny_bind (wpAny_setField_rec z7 (by simp) fun g7 y7 b7 => ?_)
  replace y7 : IsZip g7 z T O (rawInt g6.objs.size) := y7
  refine wpAny_setField_rec y7 (by simp) fun g8 y8 b8 => ?_
  replace y8 : IsZip g8 z T O (rawInt g6.objs.size) := y8
  have up : ∀ y o, y ≠ z → g6.get? y = some o → g8.get? y = some o := fun y o n q => b8.extBut _ _ n (b7.extBut _ _ n (Heap.get?_push_of_some _ q))
  have tn : Tri g8 g6.objs.size u1 u2 u3 := b8.extBut _ _ (Nat.ne_of_gt zlt) (b7.extBut _ _ (Nat.ne_of_gt zlt) (Heap.get?_push_size _ rfl))
  have s8 : g8.objs.size = g6.objs.size + 1 := by rw [b8.1, b7.1, Heap.size_push]
  rw [sz] at y8 tn s8
  refine wpAny_pure ⟨_, rfl, ?_⟩
  show Q (.ref g6.objs.size) _
  rw [sz]
  have at' : ∀ {j t : Addr} {n : Nat}, j ≠ z → g6.IsTupleIter j t n → g8.IsTupleIter j t n := fun n ⟨o, q, r⟩ => ⟨o, up _ o n q, r⟩
  exact k g8 y8 (up _ _ (Ne.symm zO) O6') (at' (Ne.symm z1) k1) (at' (Ne.symm z2) k2) (at' (Ne.symm z3) k3) tn s8 fun y o hy q => up y o (fun e => hy (by simp [e])) (keep y o hy q)
theorem zip3_end {z T O j1 j2 j3 t1 t2 t3 : Addr} {i : Nat} {v1 : Array Value} {a b c : Value} {Q : Fin → Shared → Prop} (hh : A.handled = none) (D : Zd z T O j1 j2 j3 t1 t2 t3) (hz : IsZip s.heap z T O .none) (hT : Tri s.heap T (.ref j1) (.ref j2) (.ref j3)) (hO : Tri s.heap O a b c)
    (h1 : s.heap.IsTupleIter j1 t1 i) (w1 : s.heap.IsTuple t1 v1) (e1 : v1[i]? = none)
    (k : ∀ g e, (∀ y o, y ∉ [z, O, j1, j2, j3] → s.heap.get? y = some o → g.get? y = some o) → (∃ o, g.get? e = some o ∧ o.cls = .type "StopIteration") → E (.ref e) { s with heap := g }) :
    wpAny (model P w) A (Builtin.«zip.__next__» ⟨[.ref z], []⟩) Q E s := by
  obtain ⟨nd, n1, n2, n3⟩ := D
  simp only [List.nodup_cons, List.mem_cons, List.not_mem_nil, or_false, not_or, List.nodup_nil, and_true, not_false_eq_true] at nd n1
  obtain ⟨⟨zT, zO, z1, z2, z3⟩, _⟩ := nd
  show wpAny _ _ (field (.ref z) 2 >>= _) _ _ s
  refine wpAny_bind (wpAny_field hz rfl (x := .bool false) rfl ?_)
  show wpAny _ _ (field (.ref z) 3 >>= _) _ _ s
  refine wpAny_bind (wpAny_field hz rfl (x := .ref T) rfl ?_)
  refine wpAny_bind (wpAny_seqItems hT rfl ?_)
  show wpAny _ _ (Builtin.SmallTypes.ownedTupleIsFree (.ref z) >>= _) _ _ s
  refine wpAny_bind ?_
  unfold Builtin.SmallTypes.ownedTupleIsFree
  refine wpAny_bind (wpAny_field hz rfl (x := .none) rfl (wpAny_pure ?_))
  simp only [if_true]
  refine wpAny_bind (wpAny_rule ?_)
  refine wpAny_bind (wpAny_field hz rfl (x := .ref O) rfl ?_)
  refine wpAny_bind (wpAny_setField_rec hz (by simp) fun g0 y0 b0 => ?_)
  replace y0 : IsZip g0 z T O .ellipsis := y0
  refine wpAny_bind ?_
  simp only [List.zipIdx_cons, List.zipIdx_nil, List.forIn_cons, List.forIn_nil]
  refine wpAny_bind (wpAny_bind (wpAny_onRaise ?_))
  show wpAny _ _ (Builtin.SmallTypes.nextOf (.ref j1) >>= _) _ _ _
  refine wpAny_bind (nextT_end hh (h1.extBut b0.extBut (Ne.symm z1)) (w1.extBut b0.extBut n1.1) e1 fun g1 e b1 he => ?_)
  obtain ⟨oe, qe, ce⟩ := he
  have y1 : IsZip g1 z T O .ellipsis := b1 _ _ z1 y0
  have ez : e ≠ z := fun q => by subst q; rw [y1] at qe; cases qe; simp at ce
  refine wpAny_setField_rec y1 (by simp) fun g2 _ b2 => k g2 e (fun y o hy q => ?_) ⟨oe, b2.extBut _ _ ez qe, ce⟩
  simp only [List.mem_cons, List.not_mem_nil, or_false, not_or] at hy
  exact b2.extBut _ _ hy.1 (b1 _ _ hy.2.2.1 (b0.extBut _ _ hy.1 q))
end
end J
namespace J
open PySem PySem.Spec PyProof.Rows L2
theorem boot_zip : bootBuiltins "zip" = some (.type "zip") := by decide +kernel
theorem tc_zip3 (a b c : Value) : checkTypeCall "zip" ⟨[a, b, c], []⟩ = pure () := by kernel_rfl
theorem nc_zip3 (a b c : Value) : checkBuiltinCall "zip.__new__" ⟨[.type "zip", a, b, c], []⟩ = pure () := by kernel_rfl
theorem oi_4 (a b c d : Value) : argsOk "object.__init__" ⟨[a, b, c, d], []⟩ := by
  unfold argsOk; rw [signature?_of (id := "object.__init__") (n := ['_', '_', 't', 'i', 'n', 'i', '_', '_']) (o := ['t', 'c', 'e', 'j', 'b', 'o']) (by kernel_rfl) F.owner_object]; kernel_rfl
abbrev zA (h : Heap) (t1 : Addr) : Heap := h.push { cls := .type "tuple_iterator", data := .fields #[.ref t1, .int 0 0] }
abbrev zB (h : Heap) (t1 t2 : Addr) : Heap := zA (zA h t1) t2
abbrev zC (h : Heap) (t1 t2 t3 : Addr) : Heap := zA (zB h t1 t2) t3
abbrev zD (h : Heap) (t1 t2 t3 : Addr) : Heap := (zC h t1 t2 t3).push { cls := .type "tuple", data := .seq #[.ref h.objs.size, .ref (zA h t1).objs.size, .ref (zB h t1 t2).objs.size] }
abbrev zE (h : Heap) (t1 t2 t3 : Addr) : Heap := (zD h t1 t2 t3).push { cls := .type "tuple", data := .seq #[.none, .none, .none] }
abbrev zF (h : Heap) (t1 t2 t3 : Addr) : Heap := (zE h t1 t2 t3).push { cls := .type "zip", data := .fields #[.none, .bool false, .bool false, .ref (zC h t1 t2 t3).objs.size, .ref (zD h t1 t2 t3).objs.size] }
theorem mk_zip3 (t1 t2 t3 : Addr) (v1 v2 v3 : Array Value) : Meets (Builtin.«zip.__new__» ⟨[.type "zip", .ref t1, .ref t2, .ref t3], []⟩) (fun _ R s => s.heap.IsTuple t1 v1 ∧ s.heap.IsTuple t2 v2 ∧ s.heap.IsTuple t3 v3 ∧
      R (.ok (.ret (.ref (zE s.heap t1 t2 t3).objs.size))) { s with heap := zF s.heap t1 t2 t3 }) :=
  .of_wp fun prog w A R s h => by
    obtain ⟨hp, g, d, tk, os⟩ := s; obtain ⟨q1, q2, q3, h⟩ := h
    have hsub := sub_zip
    have r1 : Heap.IsTuple (Shared.heap ⟨hp, g, d, tk, os⟩) t1 v1 := q1
    have r2 : Heap.IsTuple (Shared.heap ⟨zA hp t1, g, d, tk, os⟩) t2 v2 := Heap.IsTuple.push q2 _
    have r3 : Heap.IsTuple (Shared.heap ⟨zB hp t1 t2, g, d, tk, os⟩) t3 v3 := Heap.IsTuple.push (Heap.IsTuple.push q3 _) _
    wp_walk using wpAny_pyIter_tuple r1, wpAny_pyIter_tuple r2, wpAny_pyIter_tuple r3
    exact ⟨_, rfl, h⟩
section
variable {P : Program} {w : World} {A : Around} {E : Value → Shared → Prop} {s : Shared}
theorem call_zip3 {t1 t2 t3 : Addr} {v1 v2 v3 : Array Value} {Q : Value → Shared → Prop} (q1 : s.heap.IsTuple t1 v1) (q2 : s.heap.IsTuple t2 v2) (q3 : s.heap.IsTuple t3 v3)
    (k : ∀ g, IsZip g (s.heap.objs.size + 5) (s.heap.objs.size + 3) (s.heap.objs.size + 4) .none → Tri g (s.heap.objs.size + 3) (.ref s.heap.objs.size) (.ref (s.heap.objs.size + 1)) (.ref (s.heap.objs.size + 2)) → Tri g (s.heap.objs.size + 4) .none .none .none →
      g.IsTupleIter s.heap.objs.size t1 0 → g.IsTupleIter (s.heap.objs.size + 1) t2 0 → g.IsTupleIter (s.heap.objs.size + 2) t3 0 → (∀ b o, s.heap.get? b = some o → g.get? b = some o) → Q (.ref (s.heap.objs.size + 5)) { s with heap := g }) :
    wpAny (model P w) A (call (.type "zip") [.ref t1, .ref t2, .ref t3]) Q E s := by
  refine callType_new F.called_zip (by decide) (tc_zip3 _ _ _) (nc_zip3 _ _ _) (fun obj => oi_4 obj _ _ _) F.entry_zip_new (mk_zip3 t1 t2 t3 v1 v2 v3) ⟨q1, q2, q3, ?_⟩
  have s1 : (zA s.heap t1).objs.size = s.heap.objs.size + 1 := Heap.size_push ..
  have s2 : (zB s.heap t1 t2).objs.size = s.heap.objs.size + 2 := by rw [Heap.size_push, s1]
  have s3 : (zC s.heap t1 t2 t3).objs.size = s.heap.objs.size + 3 := by rw [Heap.size_push, s2]
  have s4 : (zD s.heap t1 t2 t3).objs.size = s.heap.objs.size + 4 := by rw [Heap.size_push, s3]
  have s5 : (zE s.heap t1 t2 t3).objs.size = s.heap.objs.size + 5 := by rw [Heap.size_push, s4]
  have up : ∀ {h : Heap} {b : Addr} {o o' : Obj}, h.get? b = some o → (h.push o').get? b = some o := fun e => Heap.get?_push_of_some _ e
  have g6 : (zF s.heap t1 t2 t3).get? (zE s.heap t1 t2 t3).objs.size = some _ := Heap.get?_push_size _ rfl
  have g5 : (zF s.heap t1 t2 t3).get? (zD s.heap t1 t2 t3).objs.size = some _ := up (Heap.get?_push_size _ rfl)
  have g4 : (zF s.heap t1 t2 t3).get? (zC s.heap t1 t2 t3).objs.size = some _ := up (up (Heap.get?_push_size _ rfl))
  have g3 : (zF s.heap t1 t2 t3).get? (zB s.heap t1 t2).objs.size = some _ := up (up (up (Heap.get?_push_size _ rfl)))
  have g2 : (zF s.heap t1 t2 t3).get? (zA s.heap t1).objs.size = some _ := up (up (up (up (Heap.get?_push_size _ rfl))))
  have g1 : (zF s.heap t1 t2 t3).get? s.heap.objs.size = some _ := up (up (up (up (up (Heap.get?_push_size _ rfl)))))
  show _ ∧ _
  rw [s3, s4, s5] at g6
  rw [s1, s2, s3] at g4
  rw [s4] at g5
  rw [s2] at g3
  rw [s1] at g2
  rw [s5]
  exact ⟨⟨_, g6, rfl⟩, k _ g6 g4 g5 ⟨_, g1, rfl, rfl⟩ ⟨_, g2, rfl, rfl⟩ ⟨_, g3, rfl, rfl⟩ fun b o e => up (up (up (up (up (up e)))))⟩
end
section
variable {P : Program} {w : World} {A : Around} {E : Value → Shared → Prop} {s : Shared}
theorem nx_zip3 {z T O j1 j2 j3 t1 t2 t3 : Addr} {i : Nat} {v1 v2 v3 : Array Value} {u1 u2 u3 a b c : Value} {Q : Option Value → Shared → Prop} (D : Zd z T O j1 j2 j3 t1 t2 t3) (hz : IsZip s.heap z T O .none) (hT : Tri s.heap T (.ref j1) (.ref j2) (.ref j3)) (hO : Tri s.heap O a b c)
    (h1 : s.heap.IsTupleIter j1 t1 i) (h2 : s.heap.IsTupleIter j2 t2 i) (h3 : s.heap.IsTupleIter j3 t3 i) (w1 : s.heap.IsTuple t1 v1) (w2 : s.heap.IsTuple t2 v2) (w3 : s.heap.IsTuple t3 v3) (e1 : v1[i]? = some u1) (e2 : v2[i]? = some u2) (e3 : v3[i]? = some u3)
    (k : ∀ g, IsZip g z T O (rawInt s.heap.objs.size) → Tri g O u1 u2 u3 → g.IsTupleIter j1 t1 (i + 1) → g.IsTupleIter j2 t2 (i + 1) → g.IsTupleIter j3 t3 (i + 1) → Tri g s.heap.objs.size u1 u2 u3 → g.objs.size = s.heap.objs.size + 1 →
      (∀ y o, y ∉ [z, O, j1, j2, j3] → s.heap.get? y = some o → g.get? y = some o) → Q (some (.ref s.heap.objs.size)) { s with heap := g }) : wpAny (model P w) A (pyNext (.ref z)) Q E s := by
  have ty : s.TypeIs (.ref z) "zip" := ⟨_, hz, rfl⟩
  unfold pyNext
  refine wpAny_bind (wpAny_attempt (wpAny_callSpecial?_slot (name := Str.ofString "__next__") ty F.slot_zip_next (wpAny_call_entry F.slot_zip_next ty F.entry_zip_next ?_ (F.args_zip_next_1 _))))
  exact zip3_item D hz hT hO h1 h2 h3 w1 w2 w3 e1 e2 e3 fun g a1 a2 a3 a4 a5 a6 a7 a8 => wpAny_pure (k g a1 a2 a3 a4 a5 a6 a7 a8)
theorem nx_zip3E {z T O j1 j2 j3 t1 t2 t3 : Addr} {i : Nat} {v1 : Array Value} {a b c : Value} {Q : Option Value → Shared → Prop} (hh : A.handled = none) (D : Zd z T O j1 j2 j3 t1 t2 t3) (hz : IsZip s.heap z T O .none) (hT : Tri s.heap T (.ref j1) (.ref j2) (.ref j3)) (hO : Tri s.heap O a b c)
    (h1 : s.heap.IsTupleIter j1 t1 i) (w1 : s.heap.IsTuple t1 v1) (e1 : v1[i]? = none)
    (k : ∀ g, (∀ y o, y ∉ [z, O, j1, j2, j3] → s.heap.get? y = some o → g.get? y = some o) → Q none { s with heap := g }) : wpAny (model P w) A (pyNext (.ref z)) Q E s := by
  have ty : s.TypeIs (.ref z) "zip" := ⟨_, hz, rfl⟩
  unfold pyNext
  refine wpAny_bind (wpAny_attempt (wpAny_callSpecial?_slot (name := Str.ofString "__next__") ty F.slot_zip_next (wpAny_call_entry F.slot_zip_next ty F.entry_zip_next ?_ (F.args_zip_next_1 _))))
  refine zip3_end hh D hz hT hO h1 w1 e1 fun g e kp he => ?_
  obtain ⟨o, q, c⟩ := he
  exact wpAny_bind (wpAny_isInstance (T := "StopIteration") (b := true) ⟨o, q, c⟩ isSubtype_stop (wpAny_pure (k g kp)))
end
def Itz (t1 t2 t3 : Addr) : It :=
  ⟨fun i H => ∃ xs ys zs x y z, H t1 = some (.tup xs) ∧ H t2 = some (.tup ys) ∧ H t3 = some (.tup zs) ∧ xs[i]? = some x ∧ ys[i]? = some y ∧ zs[i]? = some z,
   fun i H v H' => ∃ p, v = .ref p ∧ H p = none ∧ ∃ xs ys zs x y z, H t1 = some (.tup xs) ∧ H t2 = some (.tup ys) ∧ H t3 = some (.tup zs) ∧ xs[i]? = some x ∧ ys[i]? = some y ∧ zs[i]? = some z ∧ H' = upd H p (.tup [x, y, z]),
   fun i H => ∃ xs, H t1 = some (.tup xs) ∧ xs.length ≤ i⟩
def zipSt (z T O j1 j2 j3 t1 t2 t3 : Addr) (i : Nat) (h : Heap) : Prop := IsZip h z T O .none ∧ Tri h T (.ref j1) (.ref j2) (.ref j3) ∧ (∃ a b c, Tri h O a b c) ∧ h.IsTupleIter j1 t1 i ∧ h.IsTupleIter j2 t2 i ∧ h.IsTupleIter j3 t3 i
theorem sub6 {b z T O j1 j2 j3 : Addr} (h : b ∈ [z, O, j1, j2, j3]) : b ∈ [z, T, O, j1, j2, j3] := (List.mem_cons.mp h).elim (fun e => e ▸ List.mem_cons_self) fun h => List.mem_cons_of_mem _ (List.mem_cons_of_mem _ h)
theorem turn_zip {P : Program} {w : World} {K : PySem.W.Frag} {es : List Expr} {kt : Nat} {pt : Pos} {z T O j1 j2 j3 t1 t2 t3 : Addr} (nd : [z, T, O, j1, j2, j3].Nodup) : Turn P w K (.Tuple es kt pt) (Itz t1 t2 t3) [z, T, O, j1, j2, j3] z (zipSt z T O j1 j2 j3 t1 t2 t3) where
  mem := by simp
  obj := fun i h st b hb => by
    obtain ⟨a1, a2, ⟨a, b', c, a3⟩, ⟨o1, q1, _, d1⟩, ⟨o2, q2, _, d2⟩, ⟨o3, q3, _, d3⟩⟩ := st
    simp only [List.mem_cons, List.not_mem_nil, or_false] at hb
    rcases hb with rfl | rfl | rfl | rfl | rfl | rfl
    · exact ⟨_, a1, fun v z => by cases z⟩
    · exact ⟨_, a2, fun v z => by cases z⟩
    · exact ⟨_, a3, fun v z => by cases z⟩
    · exact ⟨o1, q1, fun v z => by rw [d1] at z; cases z⟩
    · exact ⟨o2, q2, fun v z => by rw [d2] at z; cases z⟩
    · exact ⟨o3, q3, fun v z => by rw [d3] at z; cases z⟩
  keep := fun i h h' st k => by
    obtain ⟨a1, a2, ⟨a, b, c, a3⟩, ⟨o1, q1, r1⟩, ⟨o2, q2, r2⟩, ⟨o3, q3, r3⟩⟩ := st
    exact ⟨k z (by simp) _ a1, k T (by simp) _ a2, ⟨a, b, c, k O (by simp) _ a3⟩, ⟨o1, k j1 (by simp) _ q1, r1⟩, ⟨o2, k j2 (by simp) _ q2, r2⟩, ⟨o3, k j3 (by simp) _ q3, r3⟩⟩
  item := by
    intro X hP hw hK hc i pins s σ H E I hf st hg
    subst hP hw hK
    obtain ⟨xs, ys, zs, x, y, v, H1, H2, H3, x1, x2, x3⟩ := hg
    obtain ⟨i1, r1, p1, _⟩ := I.tuple (SqT.of H1)
    obtain ⟨i2, r2, p2, _⟩ := I.tuple (SqT.of H2)
    obtain ⟨i3, r3, p3, _⟩ := I.tuple (SqT.of H3)
    obtain ⟨u1, e1, m1⟩ := r1.get x1
    obtain ⟨u2, e2, m2⟩ := r2.get x2
    obtain ⟨u3, e3, m3⟩ := r3.get x3
    obtain ⟨a1, a2, ⟨a, b, c, a3⟩, a4, a5, a6⟩ := st
    have no : ∀ {t : Addr} {ws : List V}, H t = some (.tup ws) → t ∉ [z, O, j1, j2, j3] := fun {t ws} q hb => by
      have n := (hf t (sub6 hb)).1
      rw [q] at n; cases n
    refine nx_zip3 ⟨nd, no H1, no H2, no H3⟩ a1 a2 a3 a4 a5 a6 p1 p2 p3 (by simpa using e1) (by simpa using e2) (by simpa using e3) fun g b1 b2 b3 b4 b5 b6 b7 b8 => ?_
    refine ⟨.ref s.heap.objs.size, rfl, ?_⟩
    refine wpAny_letOwnedTupleGo_zip b1 fun h2 c1 sb => ?_
    have hfr : H s.heap.objs.size = none := I.hok.fresh (Nat.le_refl _)
    have nd' := nd
    simp only [List.nodup_cons, List.mem_cons, List.not_mem_nil, or_false, not_or, List.nodup_nil, and_true, not_false_eq_true] at nd'
    obtain ⟨⟨zT, zO, z1, z2, z3⟩, ⟨TO, T1, T2, T3⟩, _⟩ := nd'
    have lt : ∀ b o, s.heap.get? b = some o → b ≠ s.heap.objs.size := fun b o q => Nat.ne_of_lt (Heap.lt_size q)
    have zlt : z ≠ s.heap.objs.size := lt _ _ a1
    have kp : ∀ b o, b ∉ [z, O, j1, j2, j3] → s.heap.get? b = some o → h2.get? b = some o := fun b o hb q => sb.extBut _ _ (fun e => hb (by simp [e])) (b8 b o hb q)
    have nfp : ∀ b u, H b = some u → b ∉ [z, O, j1, j2, j3] := fun b u q hb => by
      have n := (hf b (sub6 hb)).1
      rw [q] at n; cases n
    have nfp' : ∀ b, b ∉ [z, T, O, j1, j2, j3] → b ∉ [z, O, j1, j2, j3] := fun b h hb => h (sub6 hb)
    have kt : ∀ b u, H b = some u → b ≠ s.heap.objs.size := fun b u q => ne_of_none q hfr
    have Tn : h2.get? s.heap.objs.size = some { cls := .type "tuple", data := .seq #[u1, u2, u3] } := sb.extBut _ _ (Ne.symm zlt) b6
    have fpz : ∀ b ∈ [z, T, O, j1, j2, j3], b ≠ s.heap.objs.size := fun b hb => by
      simp only [List.mem_cons, List.not_mem_nil, or_false] at hb
      rcases hb with rfl | rfl | rfl | rfl | rfl | rfl
      · exact zlt
      · exact lt _ _ a2
      · exact lt _ _ a3
      · obtain ⟨o, q, _⟩ := a4; exact lt _ _ q
      · obtain ⟨o, q, _⟩ := a5; exact lt _ _ q
      · obtain ⟨o, q, _⟩ := a6; exact lt _ _ q
    have at' : ∀ {j t : Addr} {n : Nat}, j ≠ z → g.IsTupleIter j t n → h2.IsTupleIter j t n := fun n ⟨o, q, r⟩ => ⟨o, sb.extBut _ _ n q, r⟩
    refine ⟨.ref s.heap.objs.size, upd H s.heap.objs.size (.tup [x, y, v]), ?_, rfl, ⟨s.heap.objs.size, rfl, hfr, xs, ys, zs, x, y, v, H1, H2, H3, x1, x2, x3, rfl⟩, ⟨c1, ?_, ⟨u1, u2, u3, sb.extBut _ _ (Ne.symm zO) b2⟩, at' (Ne.symm z1) b3, at' (Ne.symm z2) b4, at' (Ne.symm z3) b5⟩, fun b hb => ?_⟩
    · refine I.call' (s' := { s with heap := h2 }) (ch := [z, T, O, j1, j2, j3]) rfl ?_ ?_ I.bare (fun b hb => ⟨(hf b hb).2.2.2.1, (hf b hb).2.1, (hf b hb).2.2.2.2.1, (hf b hb).2.2.2.2.2⟩)
      · refine ⟨fun b o q _ _ hx => kp b o (nfp' b hx) q, fun b o q _ _ hx => ⟨o.slots, kp b o (nfp' b hx) q⟩, fun b o q n _ => by rw [upd_ne (lt b o q)]; exact n, fun b o q hx => ⟨o, kp b o (nfp' b hx) q⟩, fun b ys q => by rw [upd_ne (kt b _ q)]; exact q, fun b o y q => by rw [upd_ne (kt b _ q)]; exact q, fun b ps q => ⟨#[], by rw [upd_ne (kt b _ q), q]; simp⟩⟩
      · intro b o q
        by_cases hb : b = s.heap.objs.size
        · subst hb
          rw [upd_same] at q
          cases q
          exact ⟨by show 3 ≤ sizeLine; decide, [u1, u2, u3], .cons m1 (.cons m2 (.cons m3 .nil)), ⟨_, Tn, rfl, 0, rfl⟩, fun o q => by rw [Tn] at q; cases q; rfl⟩
        · rw [upd_ne hb] at q
          refine (I.hok b o q).stay (fun c v hc g => ?_) (fun c g => by rw [upd_ne (kt c _ g)]; exact g) fun c ys g => by rw [upd_ne (kt c _ g)]; exact g
          rcases hc with e | e
          · subst e; exact kp _ _ (nfp _ _ q) g
          · exact kp _ _ (nfp _ _ e) g
    · refine kp T _ ?_ a2
      simp only [List.mem_cons, List.not_mem_nil, or_false, not_or]
      exact ⟨Ne.symm zT, TO, T1, T2, T3⟩
    · rw [upd_ne (fpz b hb)]; exact (hf b hb).1
  done := by
    intro X hP hw hK hc i pins s σ H E I hf st hg
    subst hP hw hK
    obtain ⟨xs, H1, hl⟩ := hg
    obtain ⟨i1, r1, p1, _⟩ := I.tuple (SqT.of H1)
    obtain ⟨a1, a2, ⟨a, b, c, a3⟩, a4, a5, a6⟩ := st
    have no : t1 ∉ [z, O, j1, j2, j3] := fun hb => by
      have n := (hf t1 (by simp only [List.mem_cons, List.not_mem_nil, or_false] at hb ⊢; rcases hb with h | h | h | h | h <;> simp [h])).1
      rw [H1] at n; cases n
    have hlen := r1.length
    have nfp : ∀ b u, H b = some u → b ∉ [z, O, j1, j2, j3] := fun b u q hb => by
      have n := (hf b (sub6 hb)).1
      rw [q] at n; cases n
    have nfp' : ∀ b, b ∉ [z, T, O, j1, j2, j3] → b ∉ [z, O, j1, j2, j3] := fun b h hb => h (sub6 hb)
    refine nx_zip3E (I.ok.hd hc) (t2 := t1) (t3 := t1) ⟨nd, no, no, no⟩ a1 a2 a3 a4 p1 (by simp; omega) fun g kp => ⟨rfl, ?_⟩
    refine I.call' (s' := { s with heap := g }) (ch := [z, T, O, j1, j2, j3]) rfl ?_ ?_ I.bare (fun b hb => ⟨(hf b hb).2.2.2.1, (hf b hb).2.1, (hf b hb).2.2.2.2.1, (hf b hb).2.2.2.2.2⟩)
    · exact ⟨fun b o q _ _ hx => kp b o (nfp' b hx) q, fun b o q _ _ hx => ⟨o.slots, kp b o (nfp' b hx) q⟩, fun b o q n _ => n, fun b o q hx => ⟨o, kp b o (nfp' b hx) q⟩, fun b ys q => q, fun b o y q => q, fun b ps q => ⟨#[], by rw [q]; simp⟩⟩
    · intro b o q
      refine (I.hok b o q).stay (fun c v hc g => ?_) (fun c g => g) fun c ys g => g
      rcases hc with e | e
      · subst e; exact kp _ _ (nfp _ _ q) g
      · exact kp _ _ (nfp _ _ e) g
  self := fun _ _ _ _ _ st h => wpAny_pyIter_zip st.1 h
end J
namespace J
open PySem PySem.Spec PyProof.Rows L2
section
variable {X : Cx}
def iZip (ta : TA) : TI := fun σ H R => ta σ H fun vs H1 => ∃ t1 t2 t3 xs ys zs, vs = [.ref t1, .ref t2, .ref t3] ∧ H1 t1 = some (.tup xs) ∧ H1 t2 = some (.tup ys) ∧ H1 t3 = some (.tup zs) ∧ R (Itz t1 t2 t3) H1
theorem refs3 {a b c : Addr} {us : List Value} (r : Vals [.ref a, .ref b, .ref c] us) : ∃ u v w, us = [u, v, w] ∧ u = .ref a ∧ v = .ref b ∧ w = .ref c := by
  cases r with
  | cons r1 r =>
    cases r with
    | cons r2 r =>
      cases r with
      | cons r3 r =>
        cases r
        exact ⟨_, _, _, rfl, r1, r2, r3⟩
theorem pi_zip {es : List Expr} {kt : Nat} {pt p q : Pos} {l : Expr} {ls : List Expr} {ta : TA} (hg : Gl X "zip") (hm : X.mg "zip" = none) (ha : PA X (l :: ls) ta) (hst : starEach (l :: ls) X.env = (false, eval l X.env) :: starEach ls X.env) (hpl : (backTo q (starEach ls X.env)).any (·.1) = false) :
    PI X (.Tuple es kt pt) (.Call (.Name "zip" p) (l :: ls) [] q) (iZip ta) := by
  intro pins s σ H R I h
  refine wpAny_Call_Name_kw (ld_blt I hg hm boot_zip ?_)
  refine PyProof.Rows.callWith_type1 (thn (ha q pins s σ H _ I h) fun us s1 ⟨vs, H1, I1, r1, q1⟩ => ?_) hst hpl
  obtain ⟨t1, t2, t3, xs, ys, zs, e, h1, h2, h3, k⟩ := q1
  subst e
  obtain ⟨v1, v2, v3, rfl, rfl, rfl, rfl⟩ := refs3 r1
  · 
    obtain ⟨i1, _, p1, _⟩ := I1.tuple (SqT.of h1)
    obtain ⟨i2, _, p2, _⟩ := I1.tuple (SqT.of h2)
    obtain ⟨i3, _, p3, _⟩ := I1.tuple (SqT.of h3)
    refine call_zip3 p1 p2 p3 fun g b1 b2 b3 b4 b5 b6 kp => wpAny_pyIter_zip b1 ?_
    have nd : [s1.heap.objs.size + 5, s1.heap.objs.size + 3, s1.heap.objs.size + 4, s1.heap.objs.size, s1.heap.objs.size + 1, s1.heap.objs.size + 2].Nodup := by
      simp only [List.nodup_cons, List.mem_cons, List.not_mem_nil, or_false, not_or, List.nodup_nil, and_true, not_false_eq_true]
      refine ⟨⟨?_, ?_, ?_, ?_, ?_⟩, ⟨?_, ?_, ?_, ?_⟩, ⟨?_, ?_, ?_⟩, ⟨?_, ?_⟩, ?_⟩ <;> omega
    have zs : zipSt (s1.heap.objs.size + 5) (s1.heap.objs.size + 3) (s1.heap.objs.size + 4) s1.heap.objs.size (s1.heap.objs.size + 1) (s1.heap.objs.size + 2) t1 t2 t3 0 g := ⟨b1, b2, ⟨_, _, _, b3⟩, b4, b5, b6⟩
    have tz := turn_zip (P := X.prog) (w := X.w) (K := X.K) (es := es) (kt := kt) (pt := pt) (t1 := t1) (t2 := t2) (t3 := t3) nd
    refine ⟨s1.heap.objs.size + 5, _, _, _, H1, rfl, I1.kept (t' := s1.toks) kp, tz, zs, fun b hb => ?_, k⟩
    have ge : s1.heap.objs.size ≤ b := by
      simp only [List.mem_cons, List.not_mem_nil, or_false] at hb
      rcases hb with rfl | rfl | rfl | rfl | rfl | rfl <;> omega
    exact I1.fpOk (pins := pins) (H' := H1) (b := b) ge (I1.hok.fresh ge)
def zipL : List Wv → List Wv → List Wv → List Wv
  | a :: as, b :: bs, c :: cs => .tup [a, b, c] :: zipL as bs cs
  | _, _, _ => []
theorem zipL_get : ∀ {as bs cs : List Wv} {i : Nat}, as.length ≤ bs.length → as.length ≤ cs.length → (h : i < as.length) → ∃ a b c, as[i]? = some a ∧ bs[i]? = some b ∧ cs[i]? = some c ∧ (zipL as bs cs)[i]? = some (.tup [a, b, c])
  | a :: as, b :: bs, c :: cs, 0, _, _, _ => ⟨a, b, c, rfl, rfl, rfl, rfl⟩
  | a :: as, b :: bs, c :: cs, i + 1, h1, h2, h => by
    obtain ⟨x, y, z, e⟩ := zipL_get (as := as) (bs := bs) (cs := cs) (i := i) (by simpa using h1) (by simpa using h2) (by simpa using h)
    exact ⟨x, y, z, by simpa [zipL] using e⟩
  | [], _, _, _, _, _, h => by simp at h
  | _ :: _, [], _, _, h, _, _ => by simp at h
  | _ :: _, _ :: _, [], _, _, h, _ => by simp at h
theorem zipL_len : ∀ {as bs cs : List Wv}, as.length ≤ bs.length → as.length ≤ cs.length → (zipL as bs cs).length = as.length
  | a :: as, b :: bs, c :: cs, h1, h2 => by simp only [zipL, List.length_cons]; rw [zipL_len (by simpa using h1) (by simpa using h2)]
  | [], _, _, _, _ => by simp [zipL]
  | _ :: _, [], _, h, _ => by simp at h
  | _ :: _, _ :: _, [], _, h => by simp at h
def zipW (ws : List Wv) (st : Hs) : Re Wk2 := match ws with
  | [.tup as, .tup bs, .tup cs] => if as.length ≤ bs.length ∧ as.length ≤ cs.length then .ok (none, zipL as bs cs) st else .bad
  | _ => .bad
def giZip (g : GA) : GI2 := fun ρ st => (g ρ st).bind zipW
theorem ji2_zip {es : List Expr} {kt : Nat} {pt p q : Pos} {l : Expr} {ls : List Expr} {ga : GA} (hg : Gl X "zip") (hm : X.mg "zip" = none) (ha : JA X (l :: ls) ga) (hst : starEach (l :: ls) X.env = (false, eval l X.env) :: starEach ls X.env) (hpl : (backTo q (starEach ls X.env)).any (·.1) = false) :
    JI2 X (.Tuple es kt pt) (.Call (.Name "zip" p) (l :: ls) [] q) (giZip ga) := by
  refine ⟨_, pi_zip hg hm pa_SA hst hpl, fun ρ st σ H m Q S R p => ?_⟩
  refine ha.go S R (PostG.bind p) fun ws st1 vs m1 H1 p1 e1 S1 rs => ?_
  unfold zipW at p1
  split at p1
  · rename_i as bs cs
    by_cases c : as.length ≤ bs.length ∧ as.length ≤ cs.length
    · rw [if_pos c] at p1
      obtain ⟨w1, w2, w3, v1, v2, v3, e, rfl, r1, r2, r3⟩ := rel3 rs rfl
      cases e
      unfold RelW at r1 r2 r3
      obtain ⟨t1, xs, rfl, f1, g1⟩ := r1
      obtain ⟨t2, ys, rfl, f2, g2⟩ := r2
      obtain ⟨t3, zs, rfl, f3, g3⟩ := r3
      have len := zipL_len c.1 c.2
      refine ⟨t1, t2, t3, xs, ys, zs, rfl, f1, f2, f3, p1 m1 H1 _ e1 S1 trivial ⟨fun k H' m' st' e S' _ hk => ?_, fun k H' m' st' e S' _ hk => ?_, fun k hk H' v H'' m' st' e S' _ y => ?_⟩⟩
      · have hk' : k < as.length := by rw [← len]; exact hk
        obtain ⟨a, b, c', q1, q2, q3, _⟩ := zipL_get c.1 c.2 hk'
        obtain ⟨x, y1, _⟩ := g1.get q1
        obtain ⟨y, y2, _⟩ := g2.get q2
        obtain ⟨z, y3, _⟩ := g3.get q3
        exact ⟨xs, ys, zs, x, y, z, e.tup _ _ f1, e.tup _ _ f2, e.tup _ _ f3, y1, y2, y3⟩
      · exact ⟨xs, e.tup _ _ f1, by rw [← g1.length, hk]; exact Nat.le_of_eq len.symm⟩
      · have hk' : k < as.length := by rw [← len]; exact hk
        obtain ⟨a, b, c', q1, q2, q3, q4⟩ := zipL_get c.1 c.2 hk'
        obtain ⟨x, y1, z1⟩ := (RelWs.mono e _ _ g1).get q1
        obtain ⟨x', y2, z2⟩ := (RelWs.mono e _ _ g2).get q2
        obtain ⟨x'', y3, z3⟩ := (RelWs.mono e _ _ g3).get q3
        obtain ⟨p', rfl, fr, xs', ys', zs', a1, a2, a3, d1, d2, d3, d4, d5, d6, rfl⟩ := y
        rw [e.tup _ _ f1] at d1
        rw [e.tup _ _ f2] at d2
        rw [e.tup _ _ f3] at d3
        cases d1
        cases d2
        cases d3
        rw [y1] at d4
        rw [y2] at d5
        rw [y3] at d6
        cases d4
        cases d5
        cases d6
        have eU : Ext X.K m' H' m' (upd H' p' (.tup [x, x', x''])) := Ext.updW (.inl fr)
        refine ⟨eU, S'.fresh fr, ?_⟩
        have q5 : (zipL as bs cs)[k]'hk = .tup [a, b, c'] := by
          have := List.getElem?_eq_getElem hk
          rw [q4] at this
          exact (Option.some.inj this).symm
        show RelW X.K m' (upd H' p' (.tup [x, x', x''])) ((zipL as bs cs)[k]'hk) (.ref p')
        rw [q5]
        unfold RelW
        exact ⟨p', [x, x', x''], rfl, upd_same, RelWs.cons (RelW.mono eU _ _ z1) (RelWs.cons (RelW.mono eU _ _ z2) (RelWs.cons (RelW.mono eU _ _ z3) RelWs.nil))⟩
    · rw [if_neg c] at p1; exact False.elim p1
  · exact False.elim p1
end
end J
namespace J
open PySem PySem.Spec PyProof.Rows L2
def Itq (lo c : Int) (n : Nat) : It := ⟨fun i _ => i < n, fun i H v H' => H' = H ∧ v = .int (lo + i * c), fun i _ => n ≤ i⟩
theorem turn_rangeS {P : Program} {w : World} {K : PySem.W.Frag} {tg : Expr} (it : Addr) (lo c : Int) (n : Nat) : Turn P w K tg (Itq lo c n) [it] it (fun i h => IsRangeIter h it (lo + (i : Nat) * c) ((n : Int) - (i : Nat)) c) where
  mem := by simp
  obj := fun i h st b hb => by
    have e : b = it := by simpa using hb
    subst e
    exact ⟨_, st, fun v z => by cases z⟩
  keep := fun i h h' st k => k it (by simp) _ st
  item := by
    intro X hP hw hK hc i pins s σ H E I hf st hg
    subst hP hw hK
    obtain ⟨f0, f1, f2, f3, f4, f5⟩ := hf it (by simp)
    have W := Walks.range (prog := X.prog) (w := X.w) (I.ok.hd hc) it lo c n
    refine W.item i s _ _ hg st fun v h' tk hv st' kk => ?_
    obtain ⟨t, rfl⟩ := hv
    have I1 : Inv X pins σ H { s with heap := h', toks := tk } := I.turned (fun b o hb e => kk b o (by simpa using hb) e) f0 f1 f3 f4 f5
    exact ⟨_, rfl, go_of (s := { s with heap := h', toks := tk }) (n := "range_iterator") st' rfl rfl (by decide) ⟨.int (lo + i * c), H, I1, ⟨t, rfl⟩, ⟨rfl, rfl⟩, st', fun b hb => (hf b hb).1⟩⟩
  done := by
    intro X hP hw hK hc i pins s σ H E I hf st hg
    subst hP hw hK
    obtain ⟨f0, f1, f2, f3, f4, f5⟩ := hf it (by simp)
    exact wpAny_pyNext_range_end (I.ok.hd hc) st (by have : n ≤ i := hg; omega) fun h' eb => ⟨rfl, I.turned (t' := s.toks) (fun b o hb e => eb b o hb e) f0 f1 f3 f4 f5⟩
  self := fun _ _ _ _ _ st h => wpAny_pyIter_rangeiter st h
theorem tc_range3 (a b c : Value) : checkTypeCall "range" ⟨[a, b, c], []⟩ = pure () := by kernel_rfl
theorem nc_range3 (a b c : Value) : checkBuiltinCall "range.__new__" ⟨[.type "range", a, b, c], []⟩ = pure () := by kernel_rfl
def CRs (a b c : Int) : Prop := 0 ≤ a ∧ a < 2 ^ 30 ∧ 0 ≤ b ∧ b < 2 ^ 30 ∧ 1 ≤ c ∧ c < 2 ^ 30
noncomputable instance {a b c} : Decidable (CRs a b c) := Classical.propDecidable _
def stepN (a b c : Int) : Nat := (if a < b then (b - a - 1) / c + 1 else 0).toNat
theorem size_step {a b c : Int} (h : CRs a b c) : Builtin.Range.rangeSize a b c = stepN a b c := by
  obtain ⟨h1, h2, h3, h4, h5, h6⟩ := h
  unfold Builtin.Range.rangeSize stepN
  rw [if_pos (by omega)]
  by_cases e : a < b
  · rw [if_pos e]
    have : 0 ≤ (b - a - 1) / c := Int.ediv_nonneg (by omega) (by omega)
    omega
  · rw [if_neg e]; rfl
theorem small_step {a b c : Int} (h : CRs a b c) : Builtin.Range.small a b c = true := by
  obtain ⟨h1, h2, h3, h4, h5, h6⟩ := h
  unfold Builtin.Range.small Builtin.Range.rangeSize
  have d1 : 0 ≤ (b - a - 1) / c ∨ ¬ a < b := by
    by_cases e : a < b
    · exact .inl (Int.ediv_nonneg (by omega) (by omega))
    · exact .inr e
  have d2 : a < b → (b - a - 1) / c ≤ b - a - 1 := fun e => Int.ediv_le_self _ (by omega)
  simp only [Builtin.Range.rangeFitsLong, Bool.and_eq_true, Bool.or_eq_true, decide_eq_true_eq, beq_iff_eq, show c > 0 by omega, if_true]
  split <;> omega
theorem nodiv {a b c : Int} (h : CRs a b c) : Builtin.divisionGoesByPylong (b - a) c = false := by
  obtain ⟨h1, h2, h3, h4, h5, h6⟩ := h
  have e0 : (c == 0) = false := by rw [beq_eq_false_iff_ne]; omega
  have e1 : c.natAbs.log2 < 30 := (Nat.log2_lt (by omega)).mpr (by omega)
  have e2 : c.natAbs.log2 / 30 = 0 := Nat.div_eq_of_lt e1
  simp [Builtin.divisionGoesByPylong, e0, e2]
theorem call_range3 {P : Program} {w : World} {A : Around} {E : Value → Shared → Prop} {s : Shared} {a b c : Int} {t u v : Tok} {Q : Value → Shared → Prop} (h : CRs a b c)
    (k : Q (.ref s.heap.objs.size) { s with heap := s.heap.push { cls := .type "range", data := .fields #[.int a t, .int b u, .int c v] } }) : wpAny (model P w) A (call (.type "range") [.int a t, .int b u, .int c v]) Q E s := by
  refine callType_new F.called_range (by decide) (tc_range3 _ _ _) (nc_range3 _ _ _) (fun obj => oi_4 obj _ _ _) F.entry_range_new (AutoRange.range___new___type_int_int_int_1 a b c t u v F.called_range.sub ?_) ⟨nodiv h, ⟨_, Heap.get?_push_size _ rfl, rfl⟩, k⟩
  have : c ≠ 0 := by have := h.2.2.2.2.1; omega
  simpa using this
section
variable {X : Cx} {tg : Expr}
def iRng3 (ta : TA) : TI := fun σ H R => ta σ H fun vs H1 => ∃ a b c : Int, vs = [.int a, .int b, .int c] ∧ CRs a b c ∧ R (Itq a c (stepN a b c)) H1
theorem ints3 {a b c : Int} {us : List Value} (r : Vals [.int a, .int b, .int c] us) : ∃ t u v, us = [.int a t, .int b u, .int c v] := by
  cases r with
  | cons r1 r =>
    cases r with
    | cons r2 r =>
      cases r with
      | cons r3 r =>
        cases r
        obtain ⟨t, rfl⟩ := r1
        obtain ⟨u, rfl⟩ := r2
        obtain ⟨v, rfl⟩ := r3
        exact ⟨t, u, v, rfl⟩
theorem pi_range3 {l : Expr} {ls : List Expr} {ta : TA} {p pos : Pos} (hg : Gl X "range") (hm : X.mg "range" = none) (ha : PA X (l :: ls) ta) (hst : starEach (l :: ls) X.env = (false, eval l X.env) :: starEach ls X.env) (hpl : (backTo pos (starEach ls X.env)).any (·.1) = false) :
    PI X tg (.Call (.Name "range" p) (l :: ls) [] pos) (iRng3 ta) := by
  intro pins s σ H R I h
  refine wpAny_Call_Name_kw (ld_blt I hg hm boot_range ?_)
  refine PyProof.Rows.callWith_type1 (thn (ha pos pins s σ H _ I h) fun us s1 ⟨vs, H1, I1, r1, q1⟩ => ?_) hst hpl
  obtain ⟨a, b, c, rfl, hc, q⟩ := q1
  obtain ⟨t, u, v, rfl⟩ := ints3 r1
  refine call_range3 hc ?_
  refine wpAny_pyIter_range (IsRange.new ..) (small_step hc) ?_
  have I2 : Inv X pins σ H1 { s1 with heap := s1.heap.push { cls := .type "range", data := .fields #[.int a t, .int b u, .int c v] } } := I1.kept (t' := s1.toks) fun b o e => Heap.get?_push_of_some _ e
  refine ⟨(s1.heap.push { cls := .type "range", data := .fields #[.int a t, .int b u, .int c v] }).objs.size, [(s1.heap.push { cls := .type "range", data := .fields #[.int a t, .int b u, .int c v] }).objs.size], _, _, H1, rfl, I2.kept (t' := s1.toks) fun b o e => Heap.get?_push_of_some _ e, turn_rangeS _ a c (stepN a b c), ?_, fun y hy => ?_, q⟩
  · have e1 : a + ((0 : Nat) : Int) * c = a := by simp
    have e2 : ((stepN a b c : Nat) : Int) - ((0 : Nat) : Int) = Builtin.Range.rangeSize a b c := by rw [size_step hc]; simp
    show IsRangeIter _ _ (a + ((0 : Nat) : Int) * c) (((stepN a b c : Nat) : Int) - ((0 : Nat) : Int)) c
    rw [e1, e2]
    exact Heap.get?_push_size _ rfl
  · have e : y = (s1.heap.push { cls := .type "range", data := .fields #[.int a t, .int b u, .int c v] }).objs.size := by simpa using hy
    subst e
    exact I2.fpOk (Nat.le_refl _) (I2.hok.fresh (Nat.le_refl _))
def rngS (lo c : Int) (n : Nat) : List Wv := (List.range n).map fun k : Nat => Wv.int (lo + k * c)
theorem rngS_len {lo c : Int} {n : Nat} : (rngS lo c n).length = n := by unfold rngS; simp
theorem rngS_get? {lo c : Int} {n k : Nat} (h : k < n) : (rngS lo c n)[k]? = some (.int (lo + k * c)) := by
  unfold rngS
  rw [List.getElem?_map, List.getElem?_range h]
  rfl
theorem rngS_get {lo c : Int} {n k : Nat} (h : k < (rngS lo c n).length) : (rngS lo c n)[k] = .int (lo + k * c) := by
  have q := rngS_get? (lo := lo) (c := c) (n := n) (k := k) (by rw [rngS_len] at h; exact h)
  rw [List.getElem?_eq_getElem h] at q
  exact Option.some.inj q
noncomputable def gForR3 (i : Nat) (ga : GA) (gb : GS) : GS := fun ρ st => (ga ρ st).thn ρ fun ws st1 => match ws with
  | [.int a, .int b, .int c] => if CRs a b c then forT i gb (rngS a c (stepN a b c)) ρ st1 else .bad
  | _ => .bad
theorem js_forR3 (i : Nat) {x : Str} {l : Expr} {ls : List Expr} {body : List Stmt} {ga : GA} {gb : GS} {pos pos' p q : Pos} (hN : X.N.Nodup) (hp : PassesOwn (model X.prog X.w) X.A X.env X.xe) (hc : X.calm = true) (hg : Gl X "range") (hm : X.mg "range" = none) (ha : JA X (l :: ls) ga) (hb : JSs X body gb)
    (hx : X.N[i]? = some x) (hlo : Loc X.env.scope x) (hlf : X.fn x = true ∨ X.env.scope.names.lookup x = some .local) (hst : starEach (l :: ls) X.env = (false, eval l X.env) :: starEach ls X.env) (hpl : (backTo q (starEach ls X.env)).any (·.1) = false) :
    JS X (.For (.Name x pos') (.Call (.Name "range" p) (l :: ls) [] q) body [] pos) (gForR3 i ga gb) := by
  refine JS.of (ps_for hp hc (pi_range3 hg hm pa_SA hst hpl) (pg_name hN hx hlo hlf) pss_SSs (fun _ => rfl)) fun ρ st σ H m D S R p => ?_
  refine ha.go S R (PostS.of_thn R p) fun ws st1 vs m1 H1 p1 e1 S1 rs => ?_
  split at p1
  · rename_i a b c
    by_cases cc : CRs a b c
    · rw [if_pos cc] at p1
      obtain ⟨w1, w2, w3, v1, v2, v3, e, rfl, r1, r2, r3⟩ := rel3 rs rfl
      cases e
      cases relInt r1
      cases relInt r2
      cases relInt r3
      refine ⟨a, b, c, rfl, cc, for_core (J' := Itq a c (stepN a b c)) i hb S1 (R.mono e1) (PostS.shift p1 e1) (fun k H m' e hk => by rw [rngS_len] at hk; exact hk) (fun k H m' e hk => by rw [rngS_len] at hk; exact Nat.le_of_eq hk.symm) fun k hk H x H' m' e y => ?_⟩
      obtain ⟨y1, y2⟩ := y
      refine ⟨y1, ?_⟩
      rw [rngS_get, y2]
      exact mkInt
    · rw [if_neg cc] at p1; exact False.elim p1
  · exact False.elim p1
end
end J
namespace J
open PySem PySem.Spec PyProof.Rows L2
structure Ct where
  N : List Str
  names : List (Str × NameKind)
  consts : List (Str × Wv)
  bl : List Str
  fns : List (Str × Nat × (List Wv → Hs → Re Wv))
  tb : Tab := []
  tt : TabT := []
  clss : List Str := []
  cln : List Str := []
  tc : Tab := []
  dcs : List (Str × Dc) := []
  dts : List Str := []
  dks : List Str := []
  fnu : List Str := []
  loop : Bool := true
  free : Bool := true
  top : Bool := true
  lam : Option (Lm × LF) := none
  fnL : List (Str × FLt) := []
  lfn : List Str := []
  lj : Nat := 0
  self : Str := ""
def ixOf (x : Str) : List Str → Option Nat
  | [] => none
  | y :: r => if x = y then some 0 else match ixOf x r with
    | some i => some (i + 1)
    | none => none
theorem ixOf_get {x : Str} : ∀ {N : List Str} {i : Nat}, ixOf x N = some i → N[i]? = some x
  | [], i, h => by cases h
  | y :: r, i, h => by
    unfold ixOf at h
    by_cases e : x = y
    · rw [if_pos e] at h; cases h; subst e; rfl
    · rw [if_neg e] at h
      cases q : ixOf x r with
      | none => rw [q] at h; cases h
      | some j => rw [q] at h; cases h; simpa using ixOf_get q
def okN (x : Str) : Bool := !(x == ("__debug__" : Str)) && !(x == ("__classdict__" : Str)) && !(decide (x = "__name__"))
theorem okN_d {x : Str} (h : okN x = true) : (x == ("__debug__" : Str)) = false := by unfold okN at h; revert h; cases (x == ("__debug__" : Str)) <;> simp
theorem okN_c {x : Str} (h : okN x = true) : (x == ("__classdict__" : Str)) = false := by unfold okN at h; revert h; cases (x == ("__classdict__" : Str)) <;> simp
theorem okN_n {x : Str} (h : okN x = true) : x ≠ "__name__" := by
  intro e
  subst e
  unfold okN at h
  simp at h
def FlatL : List Wv → List V → Prop
  | [], [] => True
  | .int i :: r, .int j :: t => i = j ∧ FlatL r t
  | .str x :: r, .str y :: t => (x = y ∧ PyData.strOk x = true) ∧ FlatL r t
  | _, _ => False
theorem FlatL.rel {K : PySem.W.Frag} {m : Mp} {H : Hp} : ∀ {ws : List Wv} {vs : List V}, FlatL ws vs → RelWs K m H ws vs
  | [], [], _ => RelWs.nil
  | .int i :: r, .int j :: t, h => by
    obtain ⟨rfl, h⟩ := h
    exact RelWs.cons (by unfold RelW; rfl) h.rel
  | .str x :: r, .str y :: t, h => by
    obtain ⟨⟨rfl, hx⟩, h⟩ := h
    exact RelWs.cons (by unfold RelW; exact ⟨rfl, hx⟩) h.rel
  | [], _ :: _, h => False.elim h
  | .int i :: r, [], h => False.elim h
  | .str i :: r, [], h => False.elim h
  | .int i :: r, .str _ :: _, h => False.elim h
  | .str i :: r, .int _ :: _, h => False.elim h
def CstOk (K : PySem.W.Frag) (mg : Str → Option Value) (x : Str) : Wv → Prop
  | .int i => ∃ t, mg x = some (.int i t)
  | .str y => (∃ t, mg x = some (.str y t)) ∧ PyData.strOk y = true
  | .ktp ws => ∃ (a : Addr) (vs : List V) (o : Obj) (its : Array Value) (n : Nat), mg x = some (.ref a) ∧ K.lookup a = some o ∧ o.cls = .type "tuple" ∧ o.data = .seq its n ∧ its.size ≤ sizeLine ∧ Vals vs its.toList ∧ FlatL ws vs
  | _ => False
structure GoodX (c : Ct) (k : Nat) (X : Cx) : Prop where
  lam : ∀ p L, c.lam = some (p, L) → HasL X.prog X.w X.K X.mg X.base k p 3 L
  fnL : ∀ x F, c.fnL.lookup x = some F → FnL X.prog X.w X.K X.mg k c.lj x F
  fnJ : ∀ x n F, c.fns.lookup x = some (n, F) → c.lfn.contains x = true → ∀ base, ModB X.K X.mg base → Has X.prog X.w X.K X.mg base c.lj x n F
  at' : c.top = true → c.self ∈ lamDefs → ∃ P, LamAt X c.self P
structure Good (c : Ct) (k : Nat) (X : Cx) : Prop where
  N : X.N = c.N
  sc : X.env.scope.names = c.names
  nd : c.N.Nodup
  un : X.A.units + 64 < cLine
  free : c.free = true → Room k X.A ∧ X.calm = true
  loop : c.loop = true → X.calm = true ∧ PassesOwn (model X.prog X.w) X.A X.env X.xe
  cst : ∀ x w, c.consts.lookup x = some w → CstOk X.K X.mg x w
  bl : ∀ x, c.bl.contains x = true → X.mg x = none
  fns : ∀ x n F, c.fns.lookup x = some (n, F) → Has X.prog X.w X.K X.mg X.base k x n F
  stk : c.top = true → Stk X
  fn : c.top = true → ∀ x, X.fn x = true
  kind : X.env.scope.kind = .function
  tab : TabOk X.K c.tb c.tt c.tc
  cls : ∀ x, c.clss.contains x = true → ∃ C, X.mg x = some (.ref C) ∧ ExcC X.K x C
  cln : ∀ x, c.cln.contains x = true → ∃ C, X.mg x = some (.ref C) ∧ ClsAt X.K x C
  dcs : ∀ x kvs, c.dcs.lookup x = some kvs → DcAt X.K X.w X.mg x kvs
  rm : RoomU k X.A
  fnu : ∀ x n F, c.fnu.contains x = true → c.fns.lookup x = some (n, F) → HasU X.prog X.w X.K X.mg X.base k x n F
  x : GoodX c k X
theorem room_un {k : Nat} {A : Around} (hr : Room k A) : A.units + 64 < cLine := by have := hr.un; omega
def Ct.inTry (c : Ct) : Ct := { c with loop := false }
def Ct.inSuite (c : Ct) : Ct := { c with loop := false, free := false }
abbrev Ct.un (c : Ct) : Ct := c.inSuite
theorem Good.body {c : Ct} {k : Nat} {X : Cx} (G : Good c k X) (hf : c.free = true) (pn : List (Addr × Obj)) (E : Value → Shared → Prop) : Good c.inTry k (reX X X.A true pn E) :=
  ⟨G.N, G.sc, G.nd, G.un, fun _ => ⟨(G.free hf).1, rfl⟩, (fun z => by cases z), G.cst, G.bl, G.fns, fun z => ⟨(G.stk z).st, (G.stk z).fr, (G.stk z).ex⟩, G.fn, G.kind, G.tab, G.cls, G.cln, G.dcs, ⟨G.rm.d, G.rm.u⟩, G.fnu, ⟨G.x.lam, G.x.fnL, G.x.fnJ, fun t m => (G.x.at' t m).imp fun P L => ⟨L.code, L.qual, L.tab, L.mem, L.uniq, L.bm⟩⟩⟩
theorem boot_tyV : bootBuiltins "ValueError" = some (.type "ValueError") := by decide +kernel
def tyOf (x : Str) : Option String :=
  if x = "int" then some "int" else if x = "str" then some "str" else if x = "bool" then some "bool" else if x = "tuple" then some "tuple" else if x = "list" then some "list" else if x = "ValueError" then some "ValueError" else none
theorem tyOf_ok {x : Str} {T : String} (h : tyOf x = some T) : bootBuiltins x = some (.type T) := by
  unfold tyOf at h
  by_cases e : x = "int"
  · rw [if_pos e] at h; cases h; subst e; exact boot_tyI
  rw [if_neg e] at h
  by_cases e : x = "str"
  · rw [if_pos e] at h; cases h; subst e; exact boot_tyS
  rw [if_neg e] at h
  by_cases e : x = "bool"
  · rw [if_pos e] at h; cases h; subst e; exact boot_tyB
  rw [if_neg e] at h
  by_cases e : x = "tuple"
  · rw [if_pos e] at h; cases h; subst e; exact boot_tyT
  rw [if_neg e] at h
  by_cases e : x = "list"
  · rw [if_pos e] at h; cases h; subst e; exact boot_tyL
  rw [if_neg e] at h
  by_cases e : x = "ValueError"
  · rw [if_pos e] at h; cases h; subst e; exact boot_tyV
  rw [if_neg e] at h
  cases h
section
variable {X : Cx}
def oBad : Op2 := fun _ _ _ => .bad
theorem ow_bad {f : Value → Value → Sem Value} : OpW X f oBad := ⟨fun _ _ _ _ => False, fun _ _ _ _ _ _ _ _ _ _ _ _ h => h.elim, fun _ _ _ _ _ _ _ _ _ _ _ p => p⟩
noncomputable def binO : Operator → Op2
  | .Add => oAdd
  | .Sub => oSub
  | .Mult => oMulL
  | .FloorDiv => oFdiv
  | .Mod => oMod
  | .Pow => oPow
  | _ => oBad
theorem binO_ok (o : Operator) : OpW X (binaryOp o) (binO o) := by
  cases o <;> first | exact ow_add | exact ow_sub | exact ow_mulL1 | exact ow_fdiv | exact ow_mod | exact ow_pow | exact ow_bad
def cmpO : CmpOp → Op2
  | .Eq => oEq
  | .NotEq => oNe
  | .Lt => oLt
  | .LtE => oLe
  | .Gt => oGt
  | .GtE => oGe
  | .Is => oIs
  | .IsNot => oIsNot
  | .In => oIn2
  | .NotIn => oNotIn2
theorem cmpO_ok (hu : X.A.units + 64 < cLine) (o : CmpOp) : OpW X (compareOp o) (cmpO o) := by
  cases o <;> first | exact ow_eq hu | exact ow_ne hu | exact ow_ltT hu | exact ow_leT hu | exact ow_gt | exact ow_ge | exact ow_is | exact ow_isnot | exact ow_in2 | exact ow_notIn2
def cName (c : Ct) (x : Str) : GE := if okN x = true then
    match c.names.lookup x with
    | some .local => (match ixOf x c.N with | some i => gVar i | none => gBad)
    | some .cell => (match ixOf x c.N with | some i => gVar i | none => gBad)
    | some .free => (match ixOf x c.N with | some i => gVar i | none => gBad)
    | some .globalImplicit => (match c.consts.lookup x with
      | some w => gC w
      | none => if c.clss.contains x = true then gC (.cls x) else if c.cln.contains x = true then gC (.cls x) else if c.bl.contains x = true then (match tyOf x with | some T => gC (.ty T) | none => gBad) else gBad)
    | _ => gBad
  else gBad
theorem cName_ok {c : Ct} {k : Nat} (G : Good c k X) (x : Str) (pos : Pos) : JE X (.Name x pos) (cName c x) := by
  unfold cName
  by_cases hx : okN x = true
  · rw [if_pos hx]
    cases e : c.names.lookup x with
    | none => exact je_bad
    | some kd =>
      have el : X.env.scope.names.lookup x = some kd := by rw [G.sc]; exact e
      cases kd with
      | «local» =>
        dsimp only
        cases e2 : ixOf x c.N with
        | none => exact je_bad
        | some i => exact je_var i (by rw [G.N]; exact ixOf_get e2) (Or.inl el) (okN_d hx) (okN_c hx)
      | cell =>
        dsimp only
        cases e2 : ixOf x c.N with
        | none => exact je_bad
        | some i => exact je_var i (by rw [G.N]; exact ixOf_get e2) (Or.inr (Or.inl el)) (okN_d hx) (okN_c hx)
      | free =>
        dsimp only
        cases e2 : ixOf x c.N with
        | none => exact je_bad
        | some i => exact je_var i (by rw [G.N]; exact ixOf_get e2) (Or.inr (Or.inr el)) (okN_d hx) (okN_c hx)
      | globalImplicit =>
        dsimp only
        have hg : Gl X x := el
        cases e2 : c.consts.lookup x with
        | some w =>
          have q := G.cst x w e2
          cases w with
          | int i => obtain ⟨t, q⟩ := q; exact je_globI hg q (okN_d hx)
          | str y => obtain ⟨⟨t, q⟩, z⟩ := q; exact je_globS hg q z (okN_d hx)
          | ktp ws =>
            obtain ⟨a, vs, o, its, n, q1, q2, q3, q4, q5, q6, q7⟩ := q
            exact JE.of (pe_glob (v := .ref a) hg q1 rfl (okN_d hx)) fun ρ st σ H m Q S R p => p (.ref a) m H Ext.refl S (by unfold RelW; exact ⟨a, vs, rfl, ⟨o, its, n, q2, q3, q4, q5, q6⟩, q7.rel⟩)
          | _ => exact False.elim q
        | none =>
          dsimp only
          by_cases e5 : c.clss.contains x = true
          · rw [if_pos e5]
            obtain ⟨C, q1, q2⟩ := G.cls x e5
            exact JE.of (pe_glob (v := .ref C) hg q1 rfl (okN_d hx)) fun ρ st σ H m Q S R p => p (.ref C) m H Ext.refl S (by unfold RelW; exact ⟨C, rfl, q2.cls⟩)
          rw [if_neg e5]
          by_cases e6 : c.cln.contains x = true
          · rw [if_pos e6]
            obtain ⟨C, q1, q2⟩ := G.cln x e6
            exact JE.of (pe_glob (v := .ref C) hg q1 rfl (okN_d hx)) fun ρ st σ H m Q S R p => p (.ref C) m H Ext.refl S (by unfold RelW; exact ⟨C, rfl, q2⟩)
          rw [if_neg e6]
          by_cases e3 : c.bl.contains x = true
          · rw [if_pos e3]
            cases e4 : tyOf x with
            | none => exact je_bad
            | some T => exact je_ty hg (G.bl x e3) (tyOf_ok e4) (okN_n hx) (okN_d hx)
          · rw [if_neg e3]; exact je_bad
      | _ => exact je_bad
  · rw [if_neg hx]; exact je_bad
def cConst : Const → GE
  | .none => gC .non
  | .bool b => gC (.bl b)
  | .int i => gC (.int i)
  | .str x => if PyData.strOk x = true then gC (.str x) else gBad
  | _ => gBad
theorem cConst_ok (k : Const) (j : Nat) (pos : Pos) : JE X (.Constant k j pos) (cConst k) := by
  cases k with
  | none => exact je_non
  | bool b => exact je_bl
  | int i => exact je_int
  | str x =>
    show JE X _ (if PyData.strOk x = true then gC (.str x) else gBad)
    by_cases h : PyData.strOk x = true
    · rw [if_pos h]; exact je_str h
    · rw [if_neg h]; exact je_bad
  | _ => exact je_bad
def plain : Expr → Bool
  | .Starred .. => false
  | _ => true
theorem star_plain {e : Expr} {es : List Expr} {env : Env} (h : plain e = true) : starEach (e :: es) env = (false, eval e env) :: starEach es env := by
  cases e <;> first | rfl | cases h
theorem any_plain {pos : Pos} {env : Env} : ∀ {es : List Expr}, es.all plain = true → (backTo pos (starEach es env)).any (·.1) = false
  | [], _ => rfl
  | e :: es, h => by
    rw [List.all_cons, Bool.and_eq_true] at h
    rw [star_plain h.1]
    have q := any_plain (pos := pos) (env := env) h.2
    unfold backTo at q ⊢
    rw [List.map_cons, List.any_cons, q]
    rfl
def argsG (f : Expr → GE) : List Expr → GA
  | [] => gNil
  | e :: es => gCons (f e) (argsG f es)
theorem args_ok {f : Expr → GE} (h : ∀ e, JE X e (f e)) : ∀ es : List Expr, es.all plain = true → JA X es (argsG f es)
  | [], _ => ja_nil
  | e :: es, g => by
    rw [List.all_cons, Bool.and_eq_true] at g
    exact ja_cons (h e) (args_ok h es g.2) (star_plain g.1)
def blO (c : Ct) (x : Str) : Option (Value × (List Wv → Hs → Re Wv)) :=
  if x = "len" then some (.builtin "len", oLen) else if x = "isinstance" then some (.builtin "isinstance", oIsA c.tb c.tt) else if x = "int" then some (.type "int", oInt2) else if x = "tuple" then some (.type "tuple", oTupC) else if x = "min" ∧ c.free = true then some (.builtin "min", oMin2) else if x = "sum" ∧ c.free = true then some (.builtin "sum", oSum) else none
theorem boot_min' : bootBuiltins "min" = some (.builtin "min") := by decide +kernel
theorem boot_sum' : bootBuiltins "sum" = some (.builtin "sum") := by decide +kernel
theorem blO_ok {c : Ct} {x : Str} {v : Value} {op : List Wv → Hs → Re Wv} (O : TabOk X.K c.tb c.tt c.tc) (hc : c.free = true → X.calm = true) (h : blO c x = some (v, op)) : bootBuiltins x = some v ∧ CallW X v op ∧ ((∃ id, v = .builtin id) ∨ ∃ T, v = .type T) := by
  unfold blO at h
  by_cases e : x = "len"
  · rw [if_pos e] at h; cases h; subst e; exact ⟨boot_lenJ, cw_len, .inl ⟨_, rfl⟩⟩
  rw [if_neg e] at h
  by_cases e : x = "isinstance"
  · rw [if_pos e] at h; cases h; subst e; exact ⟨boot_isI, cw_isA O, .inl ⟨_, rfl⟩⟩
  rw [if_neg e] at h
  by_cases e : x = "int"
  · rw [if_pos e] at h; cases h; subst e; exact ⟨boot_tyI, cw_int2, .inr ⟨_, rfl⟩⟩
  rw [if_neg e] at h
  by_cases e : x = "tuple"
  · rw [if_pos e] at h; cases h; subst e; exact ⟨boot_tyT, cw_tup, .inr ⟨_, rfl⟩⟩
  rw [if_neg e] at h
  by_cases e : x = "min" ∧ c.free = true
  · rw [if_pos e] at h; cases h; obtain ⟨rfl, e2⟩ := e; exact ⟨boot_min', cw_min2 (hc e2), .inl ⟨_, rfl⟩⟩
  rw [if_neg e] at h
  by_cases e : x = "sum" ∧ c.free = true
  · rw [if_pos e] at h; cases h; obtain ⟨rfl, e2⟩ := e; exact ⟨boot_sum', cw_sum (hc e2), .inl ⟨_, rfl⟩⟩
  rw [if_neg e] at h
  cases h
noncomputable def cCallV (c : Ct) (fE : Expr → GE) (x : Str) (es : List Expr) : GE := match c.lam, ixOf x c.N with
  | some (p, L), some i => if okN x = true ∧ es.all plain = true ∧ (c.names.lookup x = some .local ∨ c.names.lookup x = some .cell ∨ c.names.lookup x = some .free) ∧ c.free = true then gCallF p 3 L i (argsG fE es) else gBad
  | _, _ => gBad
theorem cCallV_ok {c : Ct} {k : Nat} (G : Good c k X) {fE : Expr → GE} (h : ∀ e, JE X e (fE e)) (x : Str) (e : Expr) (es : List Expr) (p pos : Pos) : JE X (.Call (.Name x p) (e :: es) [] pos) (cCallV c fE x (e :: es)) := by
  unfold cCallV
  cases el : c.lam with
  | none => exact je_bad
  | some pL =>
    obtain ⟨pl, L⟩ := pL
    cases ei : ixOf x c.N with
    | none => exact je_bad
    | some i =>
      dsimp only
      by_cases g : okN x = true ∧ (e :: es).all plain = true ∧ (c.names.lookup x = some .local ∨ c.names.lookup x = some .cell ∨ c.names.lookup x = some .free) ∧ c.free = true
      · rw [if_pos g]
        obtain ⟨g1, g2, g3, g4⟩ := g
        have gp : plain e = true ∧ es.all plain = true := by rw [List.all_cons, Bool.and_eq_true] at g2; exact g2
        refine je_callF (G.x.lam pl L el) (G.free g4).1 (by rw [G.N]; exact ixOf_get ei) ?_ (args_ok h (e :: es) g2) (okN_d g1) (okN_c g1) (star_plain gp.1) (any_plain gp.2)
        unfold Vis
        rw [G.sc]
        exact g3
      · rw [if_neg g]; exact je_bad
noncomputable def cCallN (c : Ct) (fE : Expr → GE) (x : Str) (es : List Expr) : GE := if okN x = true ∧ es.all plain = true ∧ c.names.lookup x = some .globalImplicit then
      (match c.fns.lookup x with
      | some (n, F) => if c.free = true then gCall n F (argsG fE es) else gBad
      | none => if c.bl.contains x = true then (match blO c x with | some (_, op) => gCallB op (argsG fE es) | none => gBad) else gBad)
    else cCallV c fE x es
def cMeth (fE : Expr → GE) (o : Expr) (name : Str) (e : Expr) (apos cpos : Pos) : GE := if plain e = true ∧ (apos.endLine == cpos.line) = true then
      (if name = "append" then gMeth mApp (fE o) (fE e) else gBad)
    else gBad
def dcOf (c : Ct) (x : Str) : Option Dc := if okN x = true ∧ c.names.lookup x = some .globalImplicit then c.dcs.lookup x else none
theorem dcOf_ok {c : Ct} {k : Nat} (G : Good c k X) {x : Str} {kvs : Dc} (h : dcOf c x = some kvs) : Gl X x ∧ (x == ("__debug__" : Str)) = false ∧ DcAt X.K X.w X.mg x kvs := by
  unfold dcOf at h
  by_cases g : okN x = true ∧ c.names.lookup x = some .globalImplicit
  · rw [if_pos g] at h
    refine ⟨?_, okN_d g.1, G.dcs x kvs h⟩
    show X.env.scope.names.lookup x = _
    rw [G.sc]; exact g.2
  · rw [if_neg g] at h; cases h
noncomputable def cCall (c : Ct) (fE : Expr → GE) (cpos : Pos) : Expr → List Expr → List Keyword → GE
  | .Name x _, e :: es, [] => cCallN c fE x (e :: es)
  | .Attribute (.Name x p) name apos, [e], [] => if name = "append" ∨ name = "extend" then cMeth fE (.Name x p) name e apos cpos else gBad
  | _, _, _ => gBad
theorem cCallN_ok {c : Ct} {k : Nat} (G : Good c k X) {fE : Expr → GE} (h : ∀ e, JE X e (fE e)) (x : Str) (e : Expr) (es : List Expr) (p pos : Pos) : JE X (.Call (.Name x p) (e :: es) [] pos) (cCallN c fE x (e :: es)) := by
  unfold cCallN
  by_cases g : okN x = true ∧ (e :: es).all plain = true ∧ c.names.lookup x = some .globalImplicit
  · rw [if_pos g]
    obtain ⟨g1, g2, g3⟩ := g
    have hg : Gl X x := by
      show X.env.scope.names.lookup x = _
      rw [G.sc]; exact g3
    have gp : plain e = true ∧ es.all plain = true := by rw [List.all_cons, Bool.and_eq_true] at g2; exact g2
    have ha := args_ok h (e :: es) g2
    cases e1 : c.fns.lookup x with
    | some nF =>
      obtain ⟨n, F⟩ := nF
      dsimp only
      by_cases cf : c.free = true
      · rw [if_pos cf]
        obtain ⟨a, fd, ps, G1, G2, G3, G4⟩ := G.fns x n F e1
        exact je_call G1 (G.free cf).1 G2 G3 G4 ha hg (okN_d g1) (star_plain gp.1) (any_plain gp.2)
      · rw [if_neg cf]
        exact je_bad
    | none =>
      dsimp only
      by_cases e3 : c.bl.contains x = true
      · rw [if_pos e3]
        cases e4 : blO c x with
        | none => exact je_bad
        | some io =>
          obtain ⟨v, op⟩ := io
          obtain ⟨b1, b2, b3⟩ := blO_ok (X := X) G.tab (fun z => (G.free z).2) e4
          rcases b3 with ⟨id, rfl⟩ | ⟨T, rfl⟩
          · exact je_callB b2 hg (G.bl x e3) b1 ha (okN_n g1) (okN_d g1) (star_plain gp.1) (any_plain gp.2)
          · exact je_callTy b2 hg (G.bl x e3) b1 ha (okN_n g1) (okN_d g1) (star_plain gp.1) (any_plain gp.2)
      · rw [if_neg e3]
        exact je_bad
  · rw [if_neg g]; exact cCallV_ok G h x e es p pos
theorem cMeth_ok {fE : Expr → GE} (h : ∀ e, JE X e (fE e)) (x name : Str) (e : Expr) (p apos cpos : Pos) : JE X (.Call (.Attribute (.Name x p) name apos) [e] [] cpos) (cMeth fE (.Name x p) name e apos cpos) := by
  unfold cMeth
  by_cases g : plain e = true ∧ (apos.endLine == cpos.line) = true
  · rw [if_pos g]
    by_cases n1 : name = "append"
    · rw [if_pos n1]
      subst n1
      exact je_meth mw_app PySem.F.slot_list_append PySem.F.type_list_append (h _) (h e) (star_plain g.1) g.2
    rw [if_neg n1]
    exact je_bad
  · rw [if_neg g]; exact je_bad
theorem cCall_ok {c : Ct} {k : Nat} (G : Good c k X) {fE : Expr → GE} (h : ∀ e, JE X e (fE e)) (f : Expr) (as : List Expr) (ks : List Keyword) (pos : Pos) : JE X (.Call f as ks pos) (cCall c fE pos f as ks) := by
  unfold cCall
  split
  · exact cCallN_ok G h _ _ _ _ _
  · rename_i x p name apos e
    by_cases g : name = "append" ∨ name = "extend"
    · rw [if_pos g]; exact cMeth_ok h _ _ _ _ _ _
    · rw [if_neg g]
      exact je_bad
  · exact je_bad
def isSl : Expr → Bool
  | .Slice .. => true
  | _ => false
def partG (f : Expr → GE) : Option Expr → GO
  | none => gNoPart
  | some e => gPart (f e)
theorem part_ok {f : Expr → GE} (h : ∀ e, JE X e (f e)) (o : Option Expr) : JO X o (partG f o) := by
  cases o with
  | none => exact jo_none
  | some e => exact jo_some (h e)
def subG (f : Expr → GE) (a : Expr) : Expr → GE
  | .Slice lo hi none _ => gSlice2 (f a) (partG f lo) (partG f hi)
  | .Slice .. => gBad
  | b => gBin oIx (f a) (f b)
theorem sub_ok {f : Expr → GE} (h : ∀ e, JE X e (f e)) (a b : Expr) (pos : Pos) : JE X (.Subscript a b pos) (subG f a b) := by
  unfold subG
  split
  · exact je_slice2 (h a) (part_ok h _) (part_ok h _)
  · exact je_bad
  · rename_i n1 n2
    refine je_ix (h a) (h b) ?_
    intro o i
    cases b <;> first | rfl | (rename_i lo hi st p; exact (n2 _ _ _ _ rfl).elim)
def cmpG (f : Expr → GE) (a : Expr) : List CmpOp → List Expr → GE
  | [o], [b] => if behindInMarks o b = false then gBin (cmpO o) (f a) (f b) else gBad
  | [o, o'], [b, b'] => if lastMarks [o, o'] [b, b'] = false then gChain (cmpO o) (cmpO o') (f a) (f b) (f b') else gBad
  | _, _ => gBad
theorem cmp_ok (hu : X.A.units + 64 < cLine) {f : Expr → GE} (h : ∀ e, JE X e (f e)) (a : Expr) (os : List CmpOp) (bs : List Expr) (pos : Pos) : JE X (.Compare a os bs pos) (cmpG f a os bs) := by
  unfold cmpG
  split
  · rename_i o b
    by_cases g : behindInMarks o b = false
    · rw [if_pos g]; exact je_cmp (cmpO_ok hu o) (h a) (h b) g
    · rw [if_neg g]; exact je_bad
  · rename_i o o' b b'
    by_cases g : lastMarks [o, o'] [b, b'] = false
    · rw [if_pos g]; exact je_chain (cmpO_ok hu o) (cmpO_ok hu o') (h a) (h b) (h b') g
    · rw [if_neg g]; exact je_bad
  · exact je_bad
def cmpT (f : Expr → GE) (a : Expr) : List CmpOp → List Expr → GT
  | [o], [b] => if behindInMarks o b = false then gTst (gBin (cmpO o) (f a) (f b)) else gBadT
  | [o, o'], [b, b'] => if lastMarks [o, o'] [b, b'] = false then gTst (gChain (cmpO o) (cmpO o') (f a) (f b) (f b')) else gBadT
  | _, _ => gBadT
theorem cmpT_ok (hu : X.A.units + 64 < cLine) {f : Expr → GE} (h : ∀ e, JE X e (f e)) (a : Expr) (os : List CmpOp) (bs : List Expr) (pos : Pos) : JT X (.Compare a os bs pos) (cmpT f a os bs) := by
  unfold cmpT
  split
  · rename_i o b
    by_cases g : behindInMarks o b = false
    · rw [if_pos g]; exact jt_cmp (cmpO_ok hu o) (h a) (h b) g
    · rw [if_neg g]; exact jt_bad
  · rename_i o o' b b'
    by_cases g : lastMarks [o, o'] [b, b'] = false
    · rw [if_pos g]; exact jt_chain (cmpO_ok hu o) (cmpO_ok hu o') (h a) (h b) (h b') g
    · rw [if_neg g]; exact jt_bad
  · exact jt_bad
def subD (c : Ct) (f : Expr → GE) : Expr → Expr → GE
  | .Name x p, b => (match dcOf c x with | some kvs => if isSl b = false then gDcIx kvs (f b) else gBad | none => subG f (.Name x p) b)
  | a, b => subG f a b
theorem subD_ok {c : Ct} {k : Nat} (G : Good c k X) {f : Expr → GE} (h : ∀ e, JE X e (f e)) (a b : Expr) (pos : Pos) : JE X (.Subscript a b pos) (subD c f a b) := by
  unfold subD
  split
  · rename_i x p
    cases e : dcOf c x with
    | none => exact sub_ok h _ b pos
    | some kvs =>
      dsimp only
      by_cases g : isSl b = false
      · rw [if_pos g]
        obtain ⟨g1, g2, g3⟩ := dcOf_ok G e
        refine je_dcIx (h b) ?_ g1 g2 g3
        intro o i
        cases b <;> first | rfl | cases g
      · rw [if_neg g]; exact je_bad
  · exact sub_ok h _ b pos
def andV (f : Expr → GE) : List Expr → GE
  | [] => gBad
  | [a] => f a
  | a :: b :: r => gAndV (f a) (andV f (b :: r))
def orV (f : Expr → GE) : List Expr → GE
  | [] => gBad
  | [a] => f a
  | a :: b :: r => gOrV (f a) (orV f (b :: r))
theorem andV_ok {f : Expr → GE} (h : ∀ e, JE X e (f e)) (pos : Pos) : ∀ es, JE X (.BoolOp .And es pos) (andV f es)
  | [] => je_bad
  | [a] => je_one (h a)
  | a :: b :: r => je_and (h a) (andV_ok h pos (b :: r))
theorem orV_ok {f : Expr → GE} (h : ∀ e, JE X e (f e)) (pos : Pos) : ∀ es, JE X (.BoolOp .Or es pos) (orV f es)
  | [] => je_bad
  | [a] => je_one (h a)
  | a :: b :: r => je_or (h a) (orV_ok h pos (b :: r))
def andT (f : Expr → GT) : List Expr → GT
  | [] => gBadT
  | [a] => f a
  | a :: b :: r => gAnd (f a) (andT f (b :: r))
def orT (f : Expr → GT) : List Expr → GT
  | [] => gBadT
  | [a] => f a
  | a :: b :: r => gOr (f a) (orT f (b :: r))
theorem jw_bad {e : Expr} : JW X e gBadT := fun ρ st σ H m Q S R p => False.elim p
theorem andT_ok {f : Expr → GT} (h : ∀ e, JT X e (f e)) (pos : Pos) : ∀ es, JW X (.BoolOp .And es pos) (andT f es)
  | [] => jw_bad
  | [a] => jw_and1 (h a)
  | a :: b :: r => jw_and (h a) (andT_ok h pos (b :: r))
theorem orT_ok {f : Expr → GT} (h : ∀ e, JT X e (f e)) (pos : Pos) : ∀ es, JW X (.BoolOp .Or es pos) (orT f es)
  | [] => jw_bad
  | [a] => jw_or1 (h a)
  | a :: b :: r => jw_or (h a) (orT_ok h pos (b :: r))
def unG (f : Expr → GE) : UnaryOp → Expr → GE
  | .USub, a => gUn opNeg (f a)
  | .Not, a => gNotV (f a)
  | _, _ => gBad
def seqG (f : Expr → GE) (g : GA → GE) (es : List Expr) : GE := if es.all plain = true then g (argsG f es) else gBad
def isSet : Expr → Bool
  | .Set .. => true
  | _ => false
theorem fold_no {e : Expr} {env : Env} (h : isSet e = false) (x : Value) : foldedSetIterable e env x = pure x := by
  cases e <;> first | rfl | cases h
def isRange (c : Ct) (x : Str) : Bool := decide (x = "range") && decide (c.names.lookup x = some .globalImplicit) && c.bl.contains x && (match c.fns.lookup x with | some _ => false | none => true)
theorem range_ok {c : Ct} {k : Nat} (G : Good c k X) (y : Str) (hy : isRange c y = true) : y = "range" ∧ Gl X y ∧ X.mg y = none := by
  unfold isRange at hy
  simp only [Bool.and_eq_true, decide_eq_true_eq] at hy
  refine ⟨hy.1.1.1, ?_, G.bl y hy.1.2⟩
  show X.env.scope.names.lookup y = _
  rw [G.sc]; exact hy.1.1.2
noncomputable def iterG (c : Ct) (f : Expr → GE) : Expr → GI
  | .Call (.Name x p) [a] [] q => if isRange c x = true then (if plain a = true then giR1 (argsG f [a]) else gBadI) else giSeq2 (f (.Call (.Name x p) [a] [] q))
  | e => if isSet e = false then giSeq2 (f e) else gBadI
theorem iter_ok {c : Ct} {k : Nat} (G : Good c k X) {f : Expr → GE} (h : ∀ e, JE X e (f e)) (tg e : Expr) : JI X tg e (iterG c f e) := by
  unfold iterG
  split
  · rename_i y p a q
    by_cases g : isRange c y = true
    · rw [if_pos g]
      obtain ⟨rfl, g2, g3⟩ := range_ok G y g
      by_cases ga : plain a = true
      · rw [if_pos ga]
        exact ji_r1 g2 g3 (args_ok h [a] (by simp [ga])) (star_plain ga)
      · rw [if_neg ga]; exact ji_bad
    · rw [if_neg g]; exact ji_seq2 (h _)
  · by_cases g : isSet e = false
    · rw [if_pos g]; exact ji_seq2 (h _)
    · rw [if_neg g]; exact ji_bad
def giOf (gi : GI) : GI2 := fun ρ st => (gi ρ st).bind fun w st1 => .ok (w.1.map fun l => (l, w.2), w.2) st1
def isZp (c : Ct) (x : Str) : Bool := decide (x = "zip") && decide (c.names.lookup x = some .globalImplicit) && c.bl.contains x
theorem zp_ok {c : Ct} {k : Nat} (G : Good c k X) (x : Str) (h : isZp c x = true) : x = "zip" ∧ Gl X "zip" ∧ X.mg "zip" = none := by
  unfold isZp at h
  simp only [Bool.and_eq_true, decide_eq_true_eq] at h
  obtain ⟨⟨rfl, h2⟩, h3⟩ := h
  exact ⟨rfl, by show X.env.scope.names.lookup _ = _; rw [G.sc]; exact h2, G.bl _ h3⟩
noncomputable def iterG2 (c : Ct) (f : Expr → GE) : Expr → GI2
  | .Call (.Name x p) [a, b, d] [] q => if isZp c x = true ∧ [a, b, d].all plain = true then giZip (argsG f [a, b, d]) else gBadI2
  | e => giOf (iterG c f e)
theorem iter2_ok {c : Ct} {k : Nat} (G : Good c k X) {f : Expr → GE} (h : ∀ e, JE X e (f e)) (es : List Expr) (kt : Nat) (pt : Pos) (e : Expr) : JI2 X (.Tuple es kt pt) e (iterG2 c f e) := by
  unfold iterG2
  split
  · rename_i y p a b d q
    by_cases g : isZp c y = true ∧ [a, b, d].all plain = true
    · rw [if_pos g]
      obtain ⟨g1, g2⟩ := g
      obtain ⟨rfl, g3, g4⟩ := zp_ok G y g1
      have gp : plain a = true ∧ [b, d].all plain = true := by rw [List.all_cons, Bool.and_eq_true] at g2; exact g2
      exact ji2_zip g3 g4 (args_ok h [a, b, d] g2) (star_plain gp.1) (any_plain gp.2)
    · rw [if_neg g]; exact ji2_bad
  · exact ji2_of (iter_ok G h _ _)
def namesL : List Expr → Option (List Str)
  | [] => some []
  | .Name x _ :: r => (namesL r).map (x :: ·)
  | _ => none
theorem namesL_ok : ∀ {es : List Expr} {xs : List Str}, namesL es = some xs → NamesAre es xs
  | [], xs, h => by cases h; exact .nil
  | e :: r, xs, h => by
    cases e with
    | Name x p =>
      unfold namesL at h
      cases e1 : namesL r with
      | none => rw [e1] at h; cases h
      | some ys =>
        rw [e1] at h
        cases h
        exact .cons (namesL_ok e1)
    | _ => cases h
def capsL (c : Ct) : List (Str × NameKind) → Option Caps
  | [] => some []
  | (n, .free) :: r => if c.names.lookup n = some .cell ∨ c.names.lookup n = some .free then (match ixOf n c.N, capsL c r with | some i, some l => some ((n, i) :: l) | _, _ => none) else none
  | _ :: r => capsL c r
theorem capsL_ok {c : Ct} : ∀ {ns : List (Str × NameKind)} {cs : Caps}, capsL c ns = some cs → (∀ y ∈ ns, y.2 = .free → c.names.lookup y.1 = some .cell ∨ c.names.lookup y.1 = some .free) ∧ ∀ p ∈ cs, (p.1, NameKind.free) ∈ ns ∧ c.N[p.2]? = some p.1
  | [], cs, h => by cases h; exact ⟨(fun _ z => by cases z), (fun _ z => by cases z)⟩
  | (n, k) :: r, cs, h => by
    unfold capsL at h
    split at h
    · cases ‹_ :: _ = []›
    · rename_i n' r' he
      cases he
      by_cases g : c.names.lookup n = some .cell ∨ c.names.lookup n = some .free
      · rw [if_pos g] at h
        cases e1 : ixOf n c.N with
        | none => rw [e1] at h; cases h
        | some i =>
          cases e2 : capsL c r with
          | none => rw [e1, e2] at h; cases h
          | some l =>
            rw [e1, e2] at h
            cases h
            obtain ⟨q1, q2⟩ := capsL_ok e2
            refine ⟨fun y hy e => ?_, fun p hp => ?_⟩
            · rcases List.mem_cons.mp hy with z | z
              · subst z; exact g
              · exact q1 y z e
            · rcases List.mem_cons.mp hp with z | z
              · subst z; exact ⟨List.mem_cons_self, ixOf_get e1⟩
              · exact ⟨List.mem_cons_of_mem _ (q2 p z).1, (q2 p z).2⟩
      · rw [if_neg g] at h; cases h
    · rename_i kk r' hk he
      cases he
      obtain ⟨q1, q2⟩ := capsL_ok h
      refine ⟨fun y hy e => ?_, fun p hp => ⟨List.mem_cons_of_mem _ (q2 p hp).1, (q2 p hp).2⟩⟩
      rcases List.mem_cons.mp hy with z | z
      · subst z
        have e' : k = .free := e
        subst e'
        exact (hk n rfl).elim
      · exact q1 y z e
def relabN (c : Ct) (ns : List (Str × NameKind)) : List (Str × NameKind) := ns.map fun (n, k) => if (k == .free && c.names.lookup n == some .cell) then (n, .cell) else (n, k)
def isFnK : ScopeKind → Bool
  | .function => true
  | _ => false
def scopeOk (scope : Scope) (x : Str) : Bool := isFnK scope.kind && scope.names.all (fun y => decide (scope.names.lookup y.1 = some y.2)) && scope.names.all (fun y => decide (y.2 ≠ .cell)) && decide (scope.names.lookup x = some .local)
def Ct.block (c : Ct) (scope : Scope) (x : Str) (cs : Caps) : Ct := { c with N := x :: cs.map (·.1), names := relabN c scope.names, loop := false, top := false }
noncomputable def compC (c : Ct) (sub : Ct → (Expr → GE) × (Expr → GT)) (f : Expr → GE) (elt : Expr) (x : Str) (iter : Expr) (gts : Ct → GT) (scope : Scope) : GE :=
  if scopeOk scope x = true ∧ c.free = true ∧ isSet iter = false then (match capsL c scope.names with
    | some cs => if (x :: cs.map (·.1)).Nodup then gComp cs (iterG c f iter) (gts (c.block scope x cs)) ((sub (c.block scope x cs)).1 elt) else gBad
    | none => gBad) else gBad
def Ct.block2 (c : Ct) (scope : Scope) (xs : List Str) (cs : Caps) : Ct := { c with N := xs ++ cs.map (·.1), names := relabN c scope.names, loop := false, top := false }
noncomputable def compC2 (c : Ct) (sub : Ct → (Expr → GE) × (Expr → GT)) (f : Expr → GE) (elt : Expr) (es : List Expr) (iter : Expr) (gts : Ct → GT) (scope : Scope) : GE := match namesL es with
  | some (x :: xr) => if (x :: xr).all (scopeOk scope) = true ∧ c.free = true ∧ isSet iter = false then (match capsL c scope.names with
    | some cs => if ((x :: xr) ++ cs.map (·.1)).Nodup then gComp2 (x :: xr).length cs (iterG2 c f iter) (gts (c.block2 scope (x :: xr) cs)) ((sub (c.block2 scope (x :: xr) cs)).1 elt) else gBad
    | none => gBad) else gBad
  | _ => gBad
noncomputable def coG (c : Ct) (sub : Ct → (Expr → GE) × (Expr → GT)) (f : Expr → GE) (elt : Expr) (scope : Scope) : List Comprehension → GE
  | [⟨.Name x _, iter, [], 0⟩] => compC c sub f elt x iter (fun _ => fun _ st => .ok true st) scope
  | [⟨.Tuple es _ _, iter, [], 0⟩] => compC2 c sub f elt es iter (fun _ => fun _ st => .ok true st) scope
  | _ => gBad
theorem block_good {c : Ct} {k : Nat} (G : Good c k X) {scope : Scope} {x : Str} {cs : Caps} (hs : scopeOk scope x = true) (hf : c.free = true) (nd : (x :: cs.map (·.1)).Nodup) (C : Addr) (s0 : Shared) (H0 : Hp) (fp : List Addr) (pn : List (Addr × Obj)) :
    Good (c.block scope x cs) k (compX X scope x cs C s0 H0 fp pn) := by
  unfold scopeOk at hs
  simp only [Bool.and_eq_true, decide_eq_true_eq] at hs
  have hk : scope.kind = .function := by
    have := hs.1.1.1
    revert this
    cases scope.kind <;> intro z <;> first | rfl | cases z
  refine ⟨rfl, ?_, nd, G.un, fun _ => ⟨(G.free hf).1, rfl⟩, (fun z => by cases z), G.cst, G.bl, G.fns, (fun z => by cases z), (fun z => by cases z), hk, G.tab, G.cls, G.cln, G.dcs, ⟨G.rm.d, G.rm.u⟩, G.fnu, ⟨G.x.lam, G.x.fnL, G.x.fnJ, (fun z => by cases z)⟩⟩
  show (relabel scope X.env).names = relabN c scope.names
  unfold relabel relabN Env.kindOf
  rw [G.kind, G.sc]
  simp
theorem block_good2 {c : Ct} {k : Nat} (G : Good c k X) {scope : Scope} {x : Str} {xr : List Str} {cs : Caps} (hs : scopeOk scope x = true) (hf : c.free = true) (nd : ((x :: xr) ++ cs.map (·.1)).Nodup) (C : Addr) (s0 : Shared) (H0 : Hp) (fp : List Addr) (pn : List (Addr × Obj)) :
    Good (c.block2 scope (x :: xr) cs) k (compX2 X scope (x :: xr) cs C s0 H0 fp pn) := by
  unfold scopeOk at hs
  simp only [Bool.and_eq_true, decide_eq_true_eq] at hs
  have hk : scope.kind = .function := by
    have := hs.1.1.1
    revert this
    cases scope.kind <;> intro z <;> first | rfl | cases z
  refine ⟨rfl, ?_, nd, G.un, fun _ => ⟨(G.free hf).1, rfl⟩, (fun z => by cases z), G.cst, G.bl, G.fns, (fun z => by cases z), (fun z => by cases z), hk, G.tab, G.cls, G.cln, G.dcs, ⟨G.rm.d, G.rm.u⟩, G.fnu, ⟨G.x.lam, G.x.fnL, G.x.fnJ, (fun z => by cases z)⟩⟩
  show (relabel scope X.env).names = relabN c scope.names
  unfold relabel relabN Env.kindOf
  rw [G.kind, G.sc]
  simp
theorem scope_cs {c : Ct} {k : Nat} (G : Good c k X) {scope : Scope} {x : Str} {cs : Caps} (hs : scopeOk scope x = true) (hcs : capsL c scope.names = some cs) (nd : (x :: cs.map (·.1)).Nodup) : CScope X scope x cs := by
  unfold scopeOk at hs
  simp only [Bool.and_eq_true, decide_eq_true_eq, List.all_eq_true] at hs
  obtain ⟨⟨⟨h1, h2⟩, h3⟩, h4⟩ := hs
  have hk : scope.kind = .function := by
    revert h1
    cases scope.kind <;> intro z <;> first | rfl | cases z
  obtain ⟨q1, q2⟩ := capsL_ok hcs
  refine ⟨hk, h2, h3, h4, fun y hy e => ?_, fun p hp => ⟨by rw [G.N]; exact (q2 p hp).2, h2 _ (q2 p hp).1⟩, nd⟩
  show X.env.scope.names.lookup y.1 = _ ∨ X.env.scope.names.lookup y.1 = _
  rw [G.sc]; exact q1 y hy e
def JAs (X : Cx) (e : Expr) (g : GE) : Prop := ∀ (i : Nat) (y : Str) (py spos : Pos), X.N.Nodup → X.N[i]? = some y → Loc X.env.scope y → (X.fn y = true ∨ X.env.scope.names.lookup y = some .local) → JS X (.Assign [.Name y py] e spos) (gSet i g)
theorem js_setBad {i : Nat} {s : Stmt} : JS X s (gSet i gBad) := fun ρ st σ H m D S R p => False.elim p
theorem jas_bad {e : Expr} : JAs X e gBad := fun i y py spos _ _ _ _ => js_setBad
theorem co_both {c : Ct} {k : Nat} (G : Good c k X) {sub : Ct → (Expr → GE) × (Expr → GT)} (hb : ∀ c X, Good c k X → (∀ e, JE X e ((sub c).1 e)) ∧ ∀ e, JT X e ((sub c).2 e)) {f : Expr → GE} (h : ∀ e, JE X e (f e)) (elt : Expr) (scope : Scope) (gens : List Comprehension) (pos : Pos) :
    JE X (.ListComp elt gens scope pos) (coG c sub f elt scope gens) ∧ JAs X (.ListComp elt gens scope pos) (coG c sub f elt scope gens) := by
  have core : ∀ (x : Str) (px : Pos) (iter : Expr) (ifs : List Expr) (gts : Ct → GT), (∀ c X, Good c k X → JTs X ifs (gts c)) →
      JE X (.ListComp elt [⟨.Name x px, iter, ifs, 0⟩] scope pos) (compC c sub f elt x iter gts scope) ∧ JAs X (.ListComp elt [⟨.Name x px, iter, ifs, 0⟩] scope pos) (compC c sub f elt x iter gts scope) := by
    intro x px iter ifs gts hg
    unfold compC
    by_cases g : scopeOk scope x = true ∧ c.free = true ∧ isSet iter = false
    · rw [if_pos g]
      obtain ⟨g1, g2, g3⟩ := g
      cases ec : capsL c scope.names with
      | none => exact ⟨je_bad, jas_bad⟩
      | some cs =>
        dsimp only
        by_cases nd : (x :: cs.map (·.1)).Nodup
        · rw [if_pos nd]
          have CS := scope_cs G g1 ec nd
          have hE : ∀ C s0 H0 fp pn, JE (compX X scope x cs C s0 H0 fp pn) elt ((sub (c.block scope x cs)).1 elt) := fun C s0 H0 fp pn => (hb _ _ (block_good G g1 g2 nd C s0 H0 fp pn)).1 elt
          have hT : ∀ C s0 H0 fp pn, JTs (compX X scope x cs C s0 H0 fp pn) ifs (gts (c.block scope x cs)) := fun C s0 H0 fp pn => hg _ _ (block_good G g1 g2 nd C s0 H0 fp pn)
          exact ⟨je_comp CS (G.free g2).2 (iter_ok G h _ iter) hE hT (fold_no g3), fun i y py spos hN hi hl hf => js_setC i hN CS (G.free g2).2 (iter_ok G h _ iter) hE hT (fold_no g3) hi hl hf⟩
        · rw [if_neg nd]; exact ⟨je_bad, jas_bad⟩
    · rw [if_neg g]; exact ⟨je_bad, jas_bad⟩
  have core2 : ∀ (es : List Expr) (kt : Nat) (pt : Pos) (iter : Expr) (ifs : List Expr) (gts : Ct → GT), (∀ c X, Good c k X → JTs X ifs (gts c)) →
      JE X (.ListComp elt [⟨.Tuple es kt pt, iter, ifs, 0⟩] scope pos) (compC2 c sub f elt es iter gts scope) ∧ JAs X (.ListComp elt [⟨.Tuple es kt pt, iter, ifs, 0⟩] scope pos) (compC2 c sub f elt es iter gts scope) := by
    intro es kt pt iter ifs gts hg
    unfold compC2
    cases en : namesL es with
    | none => exact ⟨je_bad, jas_bad⟩
    | some xs =>
      cases xs with
      | nil => exact ⟨je_bad, jas_bad⟩
      | cons x xr =>
        dsimp only
        by_cases g : (x :: xr).all (scopeOk scope) = true ∧ c.free = true ∧ isSet iter = false
        · rw [if_pos g]
          obtain ⟨g1, g2, g3⟩ := g
          have gx : ∀ y ∈ x :: xr, scopeOk scope y = true := List.all_eq_true.mp g1
          cases ec : capsL c scope.names with
          | none => exact ⟨je_bad, jas_bad⟩
          | some cs =>
            dsimp only
            by_cases nd : ((x :: xr) ++ cs.map (·.1)).Nodup
            · rw [if_pos nd]
              have nd1 : (x :: cs.map (·.1)).Nodup := nd.sublist (List.Sublist.cons₂ x (List.sublist_append_right xr _))
              have vr : ∀ y ∈ x :: xr, scope.names.lookup y = some .local := fun y hy => by
                have q := gx y hy
                unfold scopeOk at q
                simp only [Bool.and_eq_true, decide_eq_true_eq] at q
                exact q.2
              have CS : CScope2 X scope x xr cs := ⟨scope_cs G (gx x List.mem_cons_self) ec nd1, vr, nd⟩
              have sl := namesL_ok en
              have hE : ∀ C s0 H0 fp pn, JE (compX2 X scope (x :: xr) cs C s0 H0 fp pn) elt ((sub (c.block2 scope (x :: xr) cs)).1 elt) := fun C s0 H0 fp pn => (hb _ _ (block_good2 G (gx x List.mem_cons_self) g2 nd C s0 H0 fp pn)).1 elt
              have hT : ∀ C s0 H0 fp pn, JTs (compX2 X scope (x :: xr) cs C s0 H0 fp pn) ifs (gts (c.block2 scope (x :: xr) cs)) := fun C s0 H0 fp pn => hg _ _ (block_good2 G (gx x List.mem_cons_self) g2 nd C s0 H0 fp pn)
              exact ⟨je_comp2 CS sl (G.free g2).2 (iter2_ok G h es kt pt iter) hE hT (fold_no g3), fun i y py spos hN hi hl hf => js_setC2 i hN CS sl (G.free g2).2 (iter2_ok G h es kt pt iter) hE hT (fold_no g3) hi hl hf⟩
            · rw [if_neg nd]; exact ⟨je_bad, jas_bad⟩
        · rw [if_neg g]; exact ⟨je_bad, jas_bad⟩
  unfold coG
  split
  · exact core _ _ _ _ _ fun _ _ _ => jts_nil
  · exact core2 _ _ _ _ _ _ fun _ _ _ => jts_nil
  · exact ⟨je_bad, jas_bad⟩
def lamScB (sc : Scope) (x1 x2 x3 y : Str) : Bool := isFnK sc.kind && !sc.isCoroutine && !sc.isGenerator && sc.names.all (fun p => decide (p.2 ≠ .cell)) && decide (sc.names.lookup x1 = some .local) && decide (sc.names.lookup x2 = some .local) && decide (sc.names.lookup x3 = some .local) && decide (sc.names.lookup y = some .free) && decide ([x1, x2, x3, y].Nodup)
theorem lamScB_ok {sc : Scope} {x1 x2 x3 y : Str} (h : lamScB sc x1 x2 x3 y = true) (hf : freeOf sc = [y]) : LamSc sc x1 x2 x3 y := by
  unfold lamScB at h
  simp only [Bool.and_eq_true, decide_eq_true_eq, List.all_eq_true, Bool.not_eq_true'] at h
  obtain ⟨⟨⟨⟨⟨⟨⟨⟨h1, h2⟩, h3⟩, h4⟩, h5⟩, h6⟩, h7⟩, h8⟩, h9⟩ := h
  have hk : sc.kind = .function := by
    revert h1
    cases sc.kind <;> intro z <;> first | rfl | cases z
  exact ⟨hk, h2, h3, h4, h5, h6, h7, hf, h8, h9⟩
def Ct.inLam (c : Ct) (N : List Str) (ns : List (Str × NameKind)) : Ct := { c with N := N, names := ns, fns := c.fns.filter (fun p => c.lfn.contains p.1), fnu := [], loop := false, top := false, free := true, fnL := [], lam := none, dts := [], dks := [], self := "" }
theorem look_filter {α : Type} {l : List (Str × α)} {q : Str → Bool} {x : Str} {a : α} (h : (l.filter fun p => q p.1).lookup x = some a) : l.lookup x = some a ∧ q x = true := by
  induction l with
  | nil => cases h
  | cons p l ih =>
    obtain ⟨y, b⟩ := p
    rw [List.lookup_cons]
    by_cases hq : q y = true
    · rw [List.filter_cons_of_pos (by simpa using hq), List.lookup_cons] at h
      cases e : x == y with
      | true =>
        rw [e] at h
        cases h
        exact ⟨rfl, by rw [eq_of_beq e]; exact hq⟩
      | false => rw [e] at h; exact ih h
    · rw [List.filter_cons_of_neg (by simpa using hq)] at h
      obtain ⟨h1, h2⟩ := ih h
      cases e : x == y with
      | true => rw [eq_of_beq e] at h2; exact absurd h2 hq
      | false => exact ⟨h1, h2⟩
noncomputable def cLam (c : Ct) (sub : Ct → (Expr → GE) × (Expr → GT)) (f : Expr → GE) (x : Str) (e : Expr) (x1 x2 x3 : Str) (body : Expr) (scope : Scope) : GE := match freeOf scope, c.fnL.lookup x with
  | [y], some FL => (match ixOf y c.N with
    | some iy => if okN x = true ∧ plain e = true ∧ c.names.lookup x = some .globalImplicit ∧ lamScB scope x1 x2 x3 y = true ∧ c.names.lookup y = some .cell ∧ c.top = true ∧ c.free = true ∧ lamDefs.contains c.self = true then gLam FL iy (f e) ((sub (c.inLam [x1, x2, x3, y] scope.names)).1 body) else gBad
    | none => gBad)
  | _, _ => gBad
theorem cLam_ok {c : Ct} {k : Nat} (G : Good c k X) {sub : Ct → (Expr → GE) × (Expr → GT)} (hb : ∀ k c X, Good c k X → (∀ e, JE X e ((sub c).1 e)) ∧ ∀ e, JT X e ((sub c).2 e)) {f : Expr → GE} (h : ∀ e, JE X e (f e)) (x : Str) (e : Expr) (x1 x2 x3 : Str) (a1 a2 a3 : Option Expr) (q1 q2 q3 : Pos) (body : Expr) (scope : Scope) (p lpos pos : Pos) :
    JE X (.Call (.Name x p) [e, .Lambda (lamArgs x1 x2 x3 a1 a2 a3 q1 q2 q3) body scope lpos] [] pos) (cLam c sub f x e x1 x2 x3 body scope) := by
  unfold cLam
  cases ef : freeOf scope with
  | nil => exact je_bad
  | cons y r =>
    cases r with
    | cons z r => exact je_bad
    | nil =>
      cases el : c.fnL.lookup x with
      | none => exact je_bad
      | some FL =>
        cases ei : ixOf y c.N with
        | none => dsimp only; rw [ei]; exact je_bad
        | some iy =>
          dsimp only
          rw [ei]
          dsimp only
          by_cases g : okN x = true ∧ plain e = true ∧ c.names.lookup x = some .globalImplicit ∧ lamScB scope x1 x2 x3 y = true ∧ c.names.lookup y = some .cell ∧ c.top = true ∧ c.free = true ∧ lamDefs.contains c.self = true
          · rw [if_pos g]
            obtain ⟨g1, g2, g3, g4, g5, g6, g7, g8⟩ := g
            have S := lamScB_ok g4 ef
            have hg : Gl X x := by
              show X.env.scope.names.lookup x = _
              rw [G.sc]; exact g3
            obtain ⟨P, D⟩ := G.x.at' g6 (by simpa using g8)
            refine je_lam (j := c.lj) (P := P) (G.x.fnL x FL el) (G.free g7).1 hg (okN_d g1) (h e) D S (by rw [G.N]; exact ixOf_get ei) (.inl (by rw [G.sc]; exact g5)) (G.fn g6 y) (fun base pl cy A outer s H E M hr => ?_) (fun r => star_plain g2)
            refine (hb c.lj (c.inLam [x1, x2, x3, y] scope.names) (cxL X.prog X.w X.K X.mg base [x1, x2, x3, y] pl scope [(y, cy)] A outer s H E) ⟨rfl, rfl, S.nd, room_un hr, fun _ => ⟨hr, rfl⟩, (fun z => by cases z), G.cst, G.bl, fun x n F h => ?_, (fun z => by cases z), (fun z => by cases z), S.kind, G.tab, G.cls, G.cln, G.dcs, RoomU.of hr, (fun x n F h => by cases h), ⟨(fun p L z => by cases z), (fun x F z => by cases z), fun x n F h hx => ?_, (fun z => by cases z)⟩⟩).1 body
            · obtain ⟨h1, h2⟩ := look_filter (q := fun n => c.lfn.contains n) h
              exact G.x.fnJ x n F h1 h2 base M
            · obtain ⟨h1, h2⟩ := look_filter (q := fun n => c.lfn.contains n) h
              exact G.x.fnJ x n F h1 h2
          · rw [if_neg g]; exact je_bad
def lam3 : Expr → Option (Str × Str × Str × Expr × Scope)
  | .Lambda a b s _ => if (a.posonlyargs.isEmpty && a.vararg.isNone && a.kwonlyargs.isEmpty && a.kw_defaults.isEmpty && a.kwarg.isNone && a.defaults.isEmpty) = true then (match a.args with | [u, v, w] => some (u.arg, v.arg, w.arg, b, s) | _ => none) else none
  | _ => none
theorem lam3_ok {e : Expr} {x1 x2 x3 : Str} {b : Expr} {s : Scope} (h : lam3 e = some (x1, x2, x3, b, s)) : ∃ a1 a2 a3 q1 q2 q3 p, e = .Lambda (lamArgs x1 x2 x3 a1 a2 a3 q1 q2 q3) b s p := by
  cases e with
  | Lambda a b' s' p =>
    obtain ⟨po, ar, va, ko, kd, kw, df⟩ := a
    cases po with
    | cons _ _ => cases h
    | nil => cases va with
      | some _ => cases h
      | none => cases ko with
        | cons _ _ => cases h
        | nil => cases kd with
          | cons _ _ => cases h
          | nil => cases kw with
            | some _ => cases h
            | none => cases df with
              | cons _ _ => cases h
              | nil =>
                rcases ar with _ | ⟨⟨y1, a1, q1⟩, _ | ⟨⟨y2, a2, q2⟩, _ | ⟨⟨y3, a3, q3⟩, _ | ⟨_, _⟩⟩⟩⟩ <;> cases h
                exact ⟨a1, a2, a3, q1, q2, q3, p, rfl⟩
  | _ => cases h
noncomputable def cCallL (c : Ct) (sub : Ct → (Expr → GE) × (Expr → GT)) (fE : Expr → GE) (pos : Pos) (f : Expr) (as : List Expr) (ks : List Keyword) : GE := match as with
  | [e, l] => (match lam3 l with
    | some (x1, x2, x3, body, scope) => (match f with
      | .Name x _ => (match ks with
        | [] => cLam c sub fE x e x1 x2 x3 body scope
        | _ :: _ => cCall c fE pos f [e, l] ks)
      | _ => cCall c fE pos f [e, l] ks)
    | none => cCall c fE pos f [e, l] ks)
  | _ => cCall c fE pos f as ks
theorem cCallL_ok {c : Ct} {k : Nat} (G : Good c k X) {sub : Ct → (Expr → GE) × (Expr → GT)} (hb : ∀ k c X, Good c k X → (∀ e, JE X e ((sub c).1 e)) ∧ ∀ e, JT X e ((sub c).2 e)) {fE : Expr → GE} (h : ∀ e, JE X e (fE e)) (f : Expr) (as : List Expr) (ks : List Keyword) (pos : Pos) : JE X (.Call f as ks pos) (cCallL c sub fE pos f as ks) := by
  have d := cCall_ok G h f as ks pos
  rcases as with _ | ⟨e, _ | ⟨l, _ | ⟨l2, r⟩⟩⟩
  · exact d
  · exact d
  · unfold cCallL
    dsimp only
    cases hl : lam3 l with
    | none => exact d
    | some q =>
      obtain ⟨x1, x2, x3, b, s⟩ := q
      obtain ⟨a1, a2, a3, q1, q2, q3, p, rfl⟩ := lam3_ok hl
      dsimp only
      cases f with
      | Name x px =>
        cases ks with
        | nil => exact cLam_ok G hb h _ _ _ _ _ _ _ _ _ _ _ _ _ _ _ _
        | cons _ _ => exact d
      | _ => exact d
  · exact d
noncomputable def stepE (c : Ct) (sub : Ct → (Expr → GE) × (Expr → GT)) (f : Expr → GE) (t : Expr → GT) : Expr → GE
  | .Name x _ => cName c x
  | .Constant k _ _ => cConst k
  | .BinOp a o b _ => gBin (binO o) (f a) (f b)
  | .UnaryOp o a _ => unG f o a
  | .BoolOp .And es _ => andV f es
  | .BoolOp .Or es _ => orV f es
  | .Compare a os bs _ => cmpG f a os bs
  | .IfExp q a b _ => gIfE (t q) (f a) (f b)
  | .Tuple es _ _ => seqG f gTup es
  | .List es _ => seqG f gLst es
  | .Subscript a b _ => subD c f a b
  | .Call g as ks p => cCallL c sub f p g as ks
  | .ListComp elt gens scope _ => coG c sub f elt scope gens
  | _ => gBad
def stepT (c : Ct) (f : Expr → GE) (t : Expr → GT) : Expr → GT
  | .UnaryOp .Not a _ => gNot (t a)
  | .BoolOp .And es _ => andT t es
  | .BoolOp .Or es _ => orT t es
  | .Compare a os bs _ => cmpT f a os bs
  | .Name x p => gTru (f (.Name x p))
  | .Call g as ks p => gTru (f (.Call g as ks p))
  | .Subscript a b p => gTru (f (.Subscript a b p))
  | .Constant k j p => gTru (f (.Constant k j p))
  | .BinOp a o b p => gTru (f (.BinOp a o b p))
  | _ => gBadT
theorem stepE_ok {c : Ct} {k : Nat} (G : Good c k X) {sub : Ct → (Expr → GE) × (Expr → GT)} (hb : ∀ k c X, Good c k X → (∀ e, JE X e ((sub c).1 e)) ∧ ∀ e, JT X e ((sub c).2 e)) {f : Expr → GE} {t : Expr → GT} (h : ∀ e, JE X e (f e)) (ht : ∀ e, JT X e (t e)) (e : Expr) : JE X e (stepE c sub f t e) := by
  have hu : X.A.units + 64 < cLine := G.un
  cases e with
  | Name x p => exact cName_ok G x p
  | Constant v j p => exact cConst_ok v j p
  | BinOp a o b p => exact je_bin (binO_ok o) (h a) (h b)
  | UnaryOp o a p =>
    cases o with
    | USub => exact je_neg (h a)
    | Not => exact je_not (h a)
    | _ => exact je_bad
  | BoolOp o es p =>
    cases o with
    | And => exact andV_ok h p es
    | Or => exact orV_ok h p es
  | Compare a os bs p => exact cmp_ok G.un h a os bs p
  | IfExp q a b p => exact je_if (ht q) (h a) (h b)
  | Tuple es j p =>
    show JE X _ (seqG f gTup es)
    unfold seqG
    by_cases g : es.all plain = true
    · rw [if_pos g]; exact je_tup (args_ok h es g)
    · rw [if_neg g]; exact je_bad
  | List es p =>
    show JE X _ (seqG f gLst es)
    unfold seqG
    by_cases g : es.all plain = true
    · rw [if_pos g]; exact je_lst (args_ok h es g)
    · rw [if_neg g]; exact je_bad
  | Subscript a b p => exact subD_ok G h a b p
  | Call g as ks p => exact cCallL_ok G hb h g as ks p
  | ListComp elt gens scope p => exact (co_both G (hb k) h elt scope gens p).1
  | _ => exact je_bad
def isCo : Expr → Bool
  | .ListComp .. => true
  | .SetComp .. => true
  | .DictComp .. => true
  | .Set .. => true
  | _ => false
theorem swap_no {e : Expr} {t : Option Expr} {n : Nat} {env : Env} (h : isCo e = false) : swapsWith e t n env = pure false := by
  cases e <;> first | rfl | cases h
theorem stepE_as {c : Ct} {k : Nat} (G : Good c k X) {sub : Ct → (Expr → GE) × (Expr → GT)} (hb : ∀ k c X, Good c k X → (∀ e, JE X e ((sub c).1 e)) ∧ ∀ e, JT X e ((sub c).2 e)) {f : Expr → GE} {t : Expr → GT} (h : ∀ e, JE X e (f e)) (ht : ∀ e, JT X e (t e)) (e : Expr) : JAs X e (stepE c sub f t e) := by
  by_cases g : isCo e = false
  · exact fun i y py spos hN hi hl hf => js_set i hN (stepE_ok G hb h ht e) hi hl (swap_no g) hf
  · cases e with
    | ListComp elt gens scope p => exact (co_both G (hb k) h elt scope gens p).2
    | SetComp => exact jas_bad
    | DictComp => exact jas_bad
    | Set => exact jas_bad
    | _ => exact absurd rfl g
theorem stepT_ok {c : Ct} {k : Nat} (G : Good c k X) {f : Expr → GE} {t : Expr → GT} (h : ∀ e, JE X e (f e)) (ht : ∀ e, JT X e (t e)) (e : Expr) : JT X e (stepT c f t e) := by
  have hu : X.A.units + 64 < cLine := G.un
  cases e with
  | UnaryOp o a p =>
    cases o with
    | Not => exact jt_not (ht a)
    | _ => exact jt_bad
  | BoolOp o es p =>
    cases o with
    | And => exact (andT_ok ht p es).jt
    | Or => exact (orT_ok ht p es).jt
  | Compare a os bs p => exact cmpT_ok G.un h a os bs p
  | Name x p => exact jt_tru (h _) (fun _ => rfl)
  | Call g as ks p => exact jt_tru (h _) (fun _ => rfl)
  | Subscript a b p => exact jt_tru (h _) (fun _ => rfl)
  | Constant v j p => exact jt_tru (h _) (fun _ => rfl)
  | BinOp a o b p => exact jt_tru (h _) (fun _ => rfl)
  | _ => exact jt_bad
end
noncomputable def compE : Nat → Ct → (Expr → GE) × (Expr → GT)
  | 0, _ => (fun _ => gBad, fun _ => gBadT)
  | n + 1, c => (stepE c (compE n) (compE n c).1 (compE n c).2, stepT c (compE n c).1 (compE n c).2)
section
variable {X : Cx}
theorem compE_ok : ∀ (n : Nat) (k : Nat) (c : Ct) (X : Cx), Good c k X → (∀ e, JE X e ((compE n c).1 e)) ∧ ∀ e, JT X e ((compE n c).2 e)
  | 0, _, _, _, _ => ⟨fun _ => je_bad, fun _ => jt_bad⟩
  | n + 1, k, c, X, G => ⟨fun e => stepE_ok G (fun k c X G => compE_ok n k c X G) (compE_ok n k c X G).1 (compE_ok n k c X G).2 e, fun e => stepT_ok G (compE_ok n k c X G).1 (compE_ok n k c X G).2 e⟩
theorem compE_as {k : Nat} : ∀ (n : Nat) (c : Ct) (X : Cx), Good c k X → ∀ e, JAs X e ((compE n c).1 e)
  | 0, _, _, _, _ => jas_bad
  | n + 1, c, X, G, e => stepE_as G (fun k c X G => compE_ok n k c X G) (compE_ok n k c X G).1 (compE_ok n k c X G).2 e
def slot (c : Ct) (x : Str) : Option Nat := if c.names.lookup x = some .local ∨ (c.names.lookup x = some .cell ∧ c.top = true) then ixOf x c.N else none
theorem slot_ok {c : Ct} {k : Nat} (G : Good c k X) {x : Str} {i : Nat} (h : slot c x = some i) : X.N[i]? = some x ∧ (Loc X.env.scope x ∧ (X.fn x = true ∨ X.env.scope.names.lookup x = some .local)) := by
  unfold slot at h
  by_cases e : c.names.lookup x = some .local ∨ (c.names.lookup x = some .cell ∧ c.top = true)
  · rw [if_pos e] at h
    refine ⟨by rw [G.N]; exact ixOf_get h, ?_⟩
    rcases e with e | ⟨e, e2⟩
    · have q : X.env.scope.names.lookup x = some .local := by rw [G.sc]; exact e
      exact ⟨.inl q, .inr q⟩
    · have q : X.env.scope.names.lookup x = some .cell := by rw [G.sc]; exact e
      exact ⟨.inr q, .inl (G.fn e2 x)⟩
  · rw [if_neg e] at h; cases h
def slots (c : Ct) : List Expr → Option (List Nat)
  | [] => some []
  | .Name x _ :: es => (match slot c x, slots c es with | some i, some is => some (i :: is) | _, _ => none)
  | _ => none
def asgG (c : Ct) (f : Expr → GE) (v : Expr) : List Expr → GS
  | [.Name x _] => (match slot c x with | some i => gSet i (f v) | none => gNever)
  | [.Subscript o i _] => if isCo v = false ∧ isSl i = false then gSetI (f v) (f o) (f i) else gNever
  | _ => gNever
theorem asg_ok {c : Ct} {k : Nat} (G : Good c k X) {f : Expr → GE} (h : ∀ e, JE X e (f e)) (ha : ∀ e, JAs X e (f e)) (v : Expr) (ts : List Expr) (pos : Pos) : JS X (.Assign ts v pos) (asgG c f v ts) := by
  unfold asgG
  split
  · rename_i x p
    cases e : slot c x with
    | none => exact js_never
    | some i =>
      obtain ⟨e1, e2⟩ := slot_ok G e
      dsimp only
      exact ha v i x _ _ (by rw [G.N]; exact G.nd) e1 e2.1 e2.2
  · rename_i o i p
    by_cases g : isCo v = false ∧ isSl i = false
    · rw [if_pos g]
      have g2 := g.2
      refine js_setI (h v) (h o) (h i) (by unfold swapsWithSole; exact swap_no g.1) ?_ rfl ?_
      · cases v <;> rfl
      · intro _
        cases i <;> first | rfl | cases g2
    · rw [if_neg g]; exact js_never
  · exact js_never
noncomputable def forG (c : Ct) (f : Expr → GE) (i : Nat) (gb : GS) : Expr → GS
  | .Call (.Name x p) [a] [] q => if isRange c x = true then (if plain a = true then gForR1 i (argsG f [a]) gb else gNever) else gFor i (f (.Call (.Name x p) [a] [] q)) gb
  | .Call (.Name x p) [a, b, d] [] q => if isRange c x = true then (if [a, b, d].all plain = true then gForR3 i (argsG f [a, b, d]) gb else gNever) else gFor i (f (.Call (.Name x p) [a, b, d] [] q)) gb
  | e => if isSet e = false then gFor i (f e) gb else gNever
theorem for_ok {c : Ct} {k : Nat} (G : Good c k X) (hl : c.loop = true) {f : Expr → GE} (h : ∀ e, JE X e (f e)) {x : Str} {i : Nat} (hx : slot c x = some i) {body : List Stmt} {gb : GS} (hb : JSs X body gb) (e : Expr) (pos pos' : Pos) : JS X (.For (.Name x pos') e body [] pos) (forG c f i gb e) := by
  have nd : X.N.Nodup := by rw [G.N]; exact G.nd
  obtain ⟨e1, e2⟩ := slot_ok G hx
  have rg := range_ok G
  unfold forG
  split
  · rename_i y p a q
    by_cases g : isRange c y = true
    · rw [if_pos g]
      obtain ⟨rfl, g2, g3⟩ := rg y g
      by_cases ga : plain a = true
      · rw [if_pos ga]
        exact js_forR1 i nd (G.loop hl).2 (G.loop hl).1 g2 g3 (args_ok h [a] (by simp [ga])) hb e1 e2.1 e2.2 (star_plain ga)
      · rw [if_neg ga]; exact js_never
    · rw [if_neg g]; exact js_for i nd (G.loop hl).2 (G.loop hl).1 (h _) hb e1 e2.1 e2.2 (fold_no rfl)
  · rename_i y p a b d q
    by_cases g : isRange c y = true
    · rw [if_pos g]
      obtain ⟨rfl, g2, g3⟩ := rg y g
      by_cases ga : [a, b, d].all plain = true
      · rw [if_pos ga]
        have gp : plain a = true ∧ [b, d].all plain = true := by rw [List.all_cons, Bool.and_eq_true] at ga; exact ga
        exact js_forR3 i nd (G.loop hl).2 (G.loop hl).1 g2 g3 (args_ok h [a, b, d] ga) hb e1 e2.1 e2.2 (star_plain gp.1) (any_plain gp.2)
      · rw [if_neg ga]; exact js_never
    · rw [if_neg g]; exact js_for i nd (G.loop hl).2 (G.loop hl).1 (h _) hb e1 e2.1 e2.2 (fold_no rfl)
  · by_cases g : isSet e = false
    · rw [if_pos g]; exact js_for i nd (G.loop hl).2 (G.loop hl).1 (h _) hb e1 e2.1 e2.2 (fold_no g)
    · rw [if_neg g]; exact js_never
noncomputable def stepS (c : Ct) (f : Expr → GE) (t : Expr → GT) (b : Ct → List Stmt → GS) : Stmt → GS
  | .Return (some e) _ => gRet (f e)
  | .Return none _ => gRet (gC .non)
  | .Expr e _ => if isCo e = false then gExpr (f e) else gNever
  | .If q x y _ => gIf (t q) (b c x) (b c y)
  | .Assign ts v _ => asgG c f v ts
  | .For (.Name x _) e body [] _ => if c.loop = true then (match slot c x with | some i => forG c f i (b c body) e | none => gNever) else gNever
  | _ => gNever
theorem stepS_ok {c : Ct} {k : Nat} (G : Good c k X) {f : Expr → GE} {t : Expr → GT} {b : Ct → List Stmt → GS} (h : ∀ e, JE X e (f e)) (ha : ∀ e, JAs X e (f e)) (ht : ∀ e, JT X e (t e)) (hb : ∀ c X, Good c k X → ∀ s, JSs X s (b c s)) (s : Stmt) : JS X s (stepS c f t b s) := by
  unfold stepS
  split
  · exact js_ret (h _)
  · exact js_retN
  · rename_i e p
    by_cases g : isCo e = false
    · rw [if_pos g]; exact js_expr (h _) (swap_no g)
    · rw [if_neg g]; exact js_never
  · exact js_if (ht _) (hb c X G _) (hb c X G _)
  · exact asg_ok G h ha _ _ _
  · rename_i x p e body q
    by_cases g : c.loop = true
    · rw [if_pos g]
      cases e1 : slot c x with
      | none => exact js_never
      | some i => exact for_ok G g h e1 (hb c X G body) e _ _
    · rw [if_neg g]; exact js_never
  · exact js_never
end
def stmtsG (f : Stmt → GS) : List Stmt → GS
  | [] => gNext
  | [s] => f s
  | s :: s' :: r => gSeq (f s) (stmtsG f (s' :: r))
theorem stmts_ok {X : Cx} {f : Stmt → GS} (h : ∀ s, JS X s (f s)) : ∀ ss, JSs X ss (stmtsG f ss)
  | [] => jss_nil
  | [s] => jss_one (h s)
  | s :: s' :: r => jss_cons (h s) (stmts_ok h (s' :: r))
noncomputable def compS : Nat → Ct → List Stmt → GS
  | 0, _ => fun _ => gNever
  | n + 1, c => stmtsG (stepS c (compE 40 c).1 (compE 40 c).2 (compS n))
theorem compS_ok {k : Nat} : ∀ (n : Nat) (c : Ct) (X : Cx), Good c k X → ∀ ss : List Stmt, JSs X ss (compS n c ss)
  | 0, _, _, _, _ => jss_never
  | n + 1, c, X, G, ss => stmts_ok (fun s => stepS_ok G (compE_ok 40 k c X G).1 (compE_as 40 c X G) (compE_ok 40 k c X G).2 (compS_ok n) s) ss
structure LamK (K : PySem.W.Frag) (mg : Str → Option Value) (q : Str) (P : Addr) : Prop where
  tab : tabFree K q = some P
  code : ∃ c o vs file tf flags tg inF text tt, PySem.W.tabIn K q = some (c, P) ∧ K.lookup c = some o ∧ o.cls = .type "code" ∧ o.data = .fields vs ∧ vs[11]? = some (.ref P) ∧ vs.getD 11 .none = .ref P ∧ vs.getD 18 .none = .str file tf ∧
    vs.getD 7 .none = .int flags tg ∧ vs.getD 9 .none = .bool inF ∧ vs.getD 10 .none = .int text tt ∧ c ≠ P
  mem : q ∈ lamDefs
  uniq : ∀ q', q' ∈ lamDefs → tabFree K q' = some P → q' = q
theorem LamK.at' {X : Cx} {q : Str} {P f : Addr} {cdv : Value} (h : LamK X.K X.mg q P) (M : ModB X.K X.mg X.base) (hn : PySem.W.nsIn X.K mainGlobals q = some (some (.ref f))) (hc : CodeOf X.K f cdv) (e1 : X.env.code = cdv) (e2 : X.env.qual = q ++ ".<locals>.") : LamAt X q P := by
  obtain ⟨c, o, vs, file, tf, flags, tg, inF, text, tt, t, l, r⟩ := h.code
  refine ⟨⟨c, ?_, o, vs, file, tf, flags, tg, inF, text, tt, M.1.kin _ _ l, r⟩, e2, h.tab, h.mem, h.uniq, M.2⟩
  · obtain ⟨of, lf, fd, d, cd⟩ := hc
    rw [e1, ← cd]
    unfold PySem.W.tabIn at t
    rw [hn] at t
    dsimp only at t
    rw [lf] at t
    obtain ⟨oc, od, da, sl⟩ := of
    dsimp only at d
    subst d
    dsimp only at t
    cases q1 : fd.code with
    | ref c2 =>
      rw [q1] at t
      dsimp only at t
      split at t
      · split at t
        · cases t; rfl
        · cases t
      · cases t
    | _ => rw [q1] at t; cases t
structure TopX (c : Ct) (k : Nat) (P : Program) (w : World) (K : PySem.W.Frag) (mg : Str → Option Value) (base : Heap) : Prop where
  lam : ∀ p L, c.lam = some (p, L) → HasL P w K mg base k p 3 L
  fnL : ∀ x F, c.fnL.lookup x = some F → FnL P w K mg k c.lj x F
  fnJ : ∀ x n F, c.fns.lookup x = some (n, F) → c.lfn.contains x = true → ∀ base, ModB K mg base → Has P w K mg base c.lj x n F
  at' : c.self ∈ lamDefs → ∃ P, LamK K mg c.self P
theorem TopX.no {c : Ct} {k : Nat} {P : Program} {w : World} {K : PySem.W.Frag} {mg : Str → Option Value} {base : Heap} (h1 : c.lam = none) (h2 : c.fnL = []) (h3 : c.lfn = []) (h4 : c.self = "") : TopX c k P w K mg base :=
  ⟨(fun p L e => by rw [h1] at e; cases e), (fun x F e => by rw [h2] at e; cases e), (fun x n F _ e => by rw [h3] at e; cases e), (fun e => by rw [h4] at e; exact absurd e (by decide))⟩
structure TopOk (c : Ct) (k : Nat) (P : Program) (w : World) (K : PySem.W.Frag) (mg : Str → Option Value) (base : Heap) : Prop where
  cst : ∀ x w, c.consts.lookup x = some w → CstOk K mg x w
  bl : ∀ x, c.bl.contains x = true → mg x = none
  fns : ∀ x n F, c.fns.lookup x = some (n, F) → Has P w K mg base k x n F
  tab : TabOk K c.tb c.tt c.tc
  cls : ∀ x, c.clss.contains x = true → ∃ C, mg x = some (.ref C) ∧ ExcC K x C
  cln : ∀ x, c.cln.contains x = true → ∃ C, mg x = some (.ref C) ∧ ClsAt K x C
  dcs : ∀ x kvs, c.dcs.lookup x = some kvs → DcAt K w mg x kvs
  fnu : ∀ x n F, c.fnu.contains x = true → c.fns.lookup x = some (n, F) → HasU P w K mg base k x n F
  x : TopX c k P w K mg base
theorem has_def {P : Program} {w : World} {K : PySem.W.Frag} {mg : Str → Option Value} {base : Heap} {h : Heap} {k : Nat} {c : Ct} {x : Str} {st : Stmt} {ps : List Str} {g : GS} (KX : K.In h) (NS : h.Ns mainGlobals mg) (D : DefAt K x st) (T : TopOk c k P w K mg base)
    (S : FnScope c.N ps (defScope st)) (hn : (defScope st).names = c.names) (hg : compS 30 c (defBody st) = g)
    (hb : ∀ (kV doc pm : Value) (an : Option Addr) (cdv ct : Value) (us : List Value), us.length = ps.length → bindArgs (PySem.W.fnOf x x (defArgs st) (defBody st) (defScope st) .none kV doc pm an cdv ct) ⟨us, []⟩ = pure (ps.zip us)) (hM : c.self ∈ lamDefs → ModB K mg base ∧ c.self = x := by exact fun z => absurd (show ("" : Str) ∈ lamDefs from z) (by decide)) :
    Has P w K mg base (k + 1) x ps.length (fnF c.N.length g) := by
  obtain ⟨f, fd, a, F⟩ := D
  refine ⟨f, fd, ps, ?_, PySem.W.mg_of KX NS a, F.kp, F.binds hb⟩
  subst hg
  refine fn_ok F S fun cdv hcdv A outer s H E hr => ?_
  refine compS_ok (k := k) 30 c _ ⟨rfl, hn, S.nd, room_un hr, fun _ => ⟨hr, rfl⟩, fun _ => ⟨rfl, PassesOwn.leaving⟩, T.cst, T.bl, T.fns, fun _ => ⟨rfl, rfl, rfl⟩, fun _ _ => rfl, S.kind, T.tab, T.cls, T.cln, T.dcs, RoomU.of hr, T.fnu, ⟨T.x.lam, T.x.fnL, T.x.fnJ, fun _ z => ?_⟩⟩ _
  obtain ⟨P', L⟩ := T.x.at' z
  obtain ⟨M, e⟩ := hM z
  exact ⟨P', LamK.at' L M (by rw [e]; exact a) hcdv rfl (by rw [e]; rfl)⟩
theorem fn_def {P : Program} {w : World} {K : PySem.W.Frag} {mg : Str → Option Value} {base : Heap} {k : Nat} {c : Ct} {x : Str} {st : Stmt} {ps : List Str} {g : GS} {f : Addr} {fd : FuncData} (F : Fun K x x st f fd) (T : TopOk c k P w K mg base)
    (S : FnScope c.N ps (defScope st)) (hn : (defScope st).names = c.names) (hg : compS 30 c (defBody st) = g) (hs : c.self ∉ lamDefs := by exact (show ("" : Str) ∉ lamDefs by decide)) : FnOk P w K mg base (CXJ P w) (k + 1) f fd ps (spW K ps.length (fnF c.N.length g)) := by
  subst hg
  refine fn_ok F S fun cdv _ A outer s H E hr => ?_
  exact compS_ok (k := k) 30 c _ ⟨rfl, hn, S.nd, room_un hr, fun _ => ⟨hr, rfl⟩, fun _ => ⟨rfl, PassesOwn.leaving⟩, T.cst, T.bl, T.fns, fun _ => ⟨rfl, rfl, rfl⟩, fun _ _ => rfl, S.kind, T.tab, T.cls, T.cln, T.dcs, RoomU.of hr, T.fnu, ⟨T.x.lam, T.x.fnL, T.x.fnJ, fun _ z => absurd z hs⟩⟩ _
end J
namespace J
open PySem PySem.Spec PyProof.Rows L2
def AllP {α : Type} (P : α → Prop) : List α → Prop
  | [] => True
  | a :: l => P a ∧ AllP P l
theorem AllP.look {κ β : Type} [BEq κ] [LawfulBEq κ] {P : κ × β → Prop} : ∀ {l : List (κ × β)} {x : κ} {b : β}, AllP P l → l.lookup x = some b → P (x, b)
  | [], _, _, _, h => by cases h
  | (y, c) :: l, x, b, a, h => by
    rw [List.lookup_cons] at h
    cases e : x == y with
    | true =>
      rw [e] at h
      cases h
      have e' := eq_of_beq e
      subst e'
      exact a.1
    | false => rw [e] at h; exact AllP.look a.2 h
theorem AllP.mem {P : Str → Prop} : ∀ {l : List Str} {x : Str}, AllP P l → l.contains x = true → P x
  | [], _, _, h => by cases h
  | y :: l, x, a, h => by
    rw [List.contains_cons, Bool.or_eq_true] at h
    rcases h with e | h
    · have e' := eq_of_beq e
      subst e'
      exact a.1
    · exact AllP.mem a.2 h
theorem cls_one {K : PySem.W.Frag} {c : PySem.Str} {C D : Addr} (h : ClsAt K c C) (k : ClsAt K c D) : C = D := by
  unfold ClsAt at h k
  rw [h] at k
  cases k
  rfl
theorem tab_mk {K : PySem.W.Frag} {tb : Tab} {tt : TabT} {tc : Tab} (h : AllP (fun p => ∃ C D, ClsAt K p.1.1 C ∧ ClsAt K p.1.2 D ∧ ExcK K C ∧ PySem.W.kitOne K (.ref C) (.ref D) = some p.2) tb)
    (g : AllP (fun p => ∃ C, ClsAt K p.1.1 C ∧ ExcK K C ∧ PySem.W.kitOne K (.ref C) (.type p.1.2) = some p.2) tt)
    (f : AllP (fun p => ∃ C D, ClsAt K p.1.1 C ∧ ClsAt K p.1.2 D ∧ PySem.W.excIn K C bmV nwV = true ∧ PySem.W.excIn K D bmV nwV = true ∧ PySem.W.mroIn K C (.ref D) = some p.2) tc) : TabOk K tb tt tc :=
  ⟨fun c d b C D e hC hD => by
    obtain ⟨C', D', q1, q2, r⟩ := AllP.look h e
    cases cls_one hC q1
    cases cls_one hD q2
    exact r, fun c d b C D e hC hD => by
    obtain ⟨C', D', q1, q2, r⟩ := AllP.look f e
    cases cls_one hC q1
    cases cls_one hD q2
    exact r, fun c T b C e hC => by
    obtain ⟨C', q1, r⟩ := AllP.look g e
    cases cls_one hC q1
    exact r⟩
theorem topOk_mk {c : Ct} {k : Nat} {P : Program} {w : World} {K : PySem.W.Frag} {mg : Str → Option Value} {base : Heap} (hc : AllP (fun p => CstOk K mg p.1 p.2) c.consts) (hb : AllP (fun x => mg x = none) c.bl) (hf : AllP (fun p => Has P w K mg base k p.1 p.2.1 p.2.2) c.fns)
    (ht : TabOk K c.tb c.tt c.tc) (hk : AllP (fun x => ∃ C, mg x = some (.ref C) ∧ ExcC K x C) c.clss) (hn : AllP (fun x => ∃ C, mg x = some (.ref C) ∧ ClsAt K x C) c.cln) (hd : AllP (fun p => DcAt K w mg p.1 p.2) c.dcs)
    (hu : AllP (fun x => ∀ n F, c.fns.lookup x = some (n, F) → HasU P w K mg base k x n F) c.fnu := by exact trivial) (hx : TopX c k P w K mg base := by exact TopX.no rfl rfl rfl rfl) : TopOk c k P w K mg base :=
  ⟨fun _ _ h => hc.look h, fun _ h => hb.mem h, fun x n F h => hf.look (b := (n, F)) h, ht, fun _ h => hk.mem h, fun _ h => hn.mem h, fun x kvs h => hd.look (b := kvs) h, fun x n F h k => hu.mem h n F k, hx⟩
end J
namespace J
open PySem PySem.Spec PyProof.Rows L2
def tabsOf (K : PySem.W.Frag) : List Addr := lamDefs.filterMap (tabFree K)
def TabsK (K : PySem.W.Frag) (ts : List Addr) : Prop := ∀ q P, q ∈ lamDefs → tabFree K q = some P → P ∈ ts ∧ ∃ c o vs, K.lookup c = some o ∧ o.cls = .type "code" ∧ o.data = .fields vs ∧ vs[11]? = some (.ref P)
theorem mem_tabs {K : PySem.W.Frag} {P : Addr} (h : P ∈ tabsOf K) : ∃ q, q ∈ lamDefs ∧ tabFree K q = some P := by
  unfold tabsOf at h
  obtain ⟨q, hq, e⟩ := List.mem_filterMap.mp h
  exact ⟨q, hq, e⟩
theorem free_none {K : PySem.W.Frag} {q : Str} {P : Addr} (h : tabFree K q = some P) : K.lookup P = none ∧ ∃ c, PySem.W.tabIn K q = some (c, P) := by
  unfold tabFree at h
  cases t : PySem.W.tabIn K q with
  | none => rw [t] at h; cases h
  | some cp =>
    obtain ⟨c, P'⟩ := cp
    rw [t] at h
    dsimp only at h
    split at h
    · rename_i z; cases h; exact ⟨by simpa using z, c, rfl⟩
    · cases h
theorem free_of {K : PySem.W.Frag} {q : Str} {c P : Addr} (t : PySem.W.tabIn K q = some (c, P)) (h : K.lookup P = none) : tabFree K q = some P := by
  unfold tabFree
  rw [t]
  dsimp only
  rw [h]
  rfl
theorem lamK_mk {K : PySem.W.Frag} {mg : Str → Option Value} {q : Str} {c P : Addr} {o : Obj} {vs : Array Value} {file : Str} {tf tg tt : Tok} {flags text : Int} {inF : Bool} (hq : q ∈ lamDefs) (ht : PySem.W.tabIn K q = some (c, P)) (hn : K.lookup P = none) (hc : K.lookup c = some o) (h1 : o.cls = .type "code") (h2 : o.data = .fields vs)
    (h3 : vs[11]? = some (.ref P)) (h4 : vs.getD 11 .none = .ref P) (h5 : vs.getD 18 .none = .str file tf) (h6 : vs.getD 7 .none = .int flags tg) (h7 : vs.getD 9 .none = .bool inF) (h8 : vs.getD 10 .none = .int text tt) (hne : c ≠ P)
    (hu : ∀ q', q' ∈ lamDefs → tabFree K q' = some P → q' = q) : LamK K mg q P :=
  ⟨free_of ht hn, ⟨c, o, vs, file, tf, flags, tg, inF, text, tt, ht, hc, h1, h2, h3, h4, h5, h6, h7, h8, hne⟩, hq, hu⟩
theorem law_hasM {P : Program} {w : World} {K : PySem.W.Frag} {mg : Str → Option Value} {h : Heap} {k : Nat} {F : List Wv → Hs → Re Wv} {fa : Addr} {st : Stmt} (KX : K.In h) (NS : h.Ns mainGlobals mg) (hmg : mg "law" = some (.ref fa)) (D : DefAt K "law" st)
    (hp : ∀ (kV doc pm : Value) (an : Option Addr) (cdv ct : Value) (s : Shared) (u : Value), BindsTo s (PySem.W.fnOf "law" "law" (defArgs st) (defBody st) (defScope st) .none kV doc pm an cdv ct) ⟨[u], []⟩ [("script", u)])
    (FN : ∀ (f : Addr) (fd : FuncData), Fun K "law" "law" st f fd → ∀ base : Heap, ModB K mg base → FnOk P w K mg base (CXJ P w) k f fd ["script"] (spW K 1 F)) :
    ∃ fd : FuncData, (∀ (s : Shared) (u : Value), BindsTo s fd ⟨[u], []⟩ [("script", u)]) ∧ ∀ base : Heap, ModB K mg base → FnOk P w K mg base (CXJ P w) k fa fd ["script"] (spW K 1 F) := by
  obtain ⟨f, fd, a, Fu⟩ := D
  have e := hmg.symm.trans (PySem.W.mg_of KX NS a)
  cases e
  refine ⟨fd, fun s u => ?_, FN fa fd Fu⟩
  obtain ⟨oc, od, kV, doc, pm, an, cdv, ct, osl, rfl, lk, hcd⟩ := Fu.ex
  exact hp kV doc pm an cdv ct s u
theorem HasL.mono {P : Program} {w : World} {K : PySem.W.Frag} {mg : Str → Option Value} {base : Heap} {j k : Nat} {p : Lm} {n : Nat} {L : LF} (h : HasL P w K mg base j p n L) (l : j ≤ k) : HasL P w K mg base k p n L := by
  obtain ⟨fd, ps, ob, G, r⟩ := h
  exact ⟨fd, ps, ob, G.mono l, r⟩
theorem topX_mk {c : Ct} {k : Nat} {P : Program} {w : World} {K : PySem.W.Frag} {mg : Str → Option Value} {base : Heap} (hl : c.lam = none) (hf : AllP (fun q => FnL P w K mg k c.lj q.1 q.2) c.fnL)
    (hj : AllP (fun x => ∀ n F, c.fns.lookup x = some (n, F) → ∀ base, ModB K mg base → Has P w K mg base c.lj x n F) c.lfn) (ha : c.self ∈ lamDefs → ∃ P, LamK K mg c.self P) : TopX c k P w K mg base :=
  ⟨(fun p L e => by rw [hl] at e; cases e), fun x F e => hf.look (b := F) e, fun x n F e h => hj.mem h n F e, ha⟩
theorem topX_lam {c : Ct} {k : Nat} {P : Program} {w : World} {K : PySem.W.Frag} {mg : Str → Option Value} {base : Heap} {p : Lm} {L : LF} (hl : c.lam = some (p, L)) (H : HasL P w K mg base k p 3 L) (h2 : c.fnL = []) (h3 : c.lfn = []) (h4 : c.self = "") : TopX c k P w K mg base :=
  ⟨(fun p' L' e => by rw [hl] at e; cases e; exact H), (fun x F e => by rw [h2] at e; cases e), (fun x n F _ e => by rw [h3] at e; cases e), (fun e => by rw [h4] at e; exact absurd e (by decide))⟩
theorem law_callT {P : Program} {w : World} {K : PySem.W.Frag} {mg mb : Str → Option Value} {CX : CXT} {k : Nat} {fa a : Addr} {fd : FuncData} {x : Str} {sp : Sp} {s₁ : Shared} {vs : List Value} {ns : List Int} {ts : List Addr}
    (KX : K.In s₁.heap) (T : TabsK K ts) (TH : ∀ P ∈ ts, s₁.heap.get? P = some (PySem.W.tabObj #[])) (hbm : BmOk mg s₁.heap) (hns : s₁.heap.Ns mainGlobals mg) (hb : s₁.heap.Ns builtinsNs mb) (hbb : ∀ x : Str, x ≠ "__name__" → mb x = bootBuiltins x) (hlim : s₁.heap.NoLimit) (hg : s₁.gens = #[])
    (ha : s₁.heap.get? a = some { cls := .type "list", data := .seq vs.toArray }) (hi : IntsAre vs ns) (hl : ns.length ≤ sizeLine) (hr : Room k callerA)
    (F : ∀ base : Heap, ModB K mg base → FnOk P w K mg base CX k fa fd [x] sp) (hbind : ∀ (s : Shared) (u : Value), BindsTo s fd ⟨[u], []⟩ [(x, u)])
    (hsp : ∀ H : Hp, OnlyT H → SqL K H a (ns.map V.int) → TbOk K H → sp [.ref a] H (fun v _ => v = .bl true) fun _ _ _ => False)
    (hCX : ∀ H e s', CX [] H s₁ (fun _ _ _ => False) e s' → False) :
    codeAny (model P w) callerA (.call (.ref fa) ⟨[.ref a], []⟩) (fun r s' => r = .ok (.ret (.bool true)) ∧ OldK s₁.heap s'.heap ∧ s'.os = s₁.os ∧ AllBare s'.gens) s₁ := by
  have rv := vals_ints hi
  have lenV := hi.length
  have tabH : ∀ b ∈ tabsOf K, s₁.heap.get? b = some (PySem.W.tabObj #[]) := fun b hbt => by
    obtain ⟨q, hq, t⟩ := mem_tabs hbt
    exact TH _ (T q b hq t).1
  have nta : a ∉ tabsOf K := fun z => by
    have e := tabH a z
    rw [ha] at e; cases e
  have core : ∀ S : Option HO, (S = none ∨ S = some (.frz { cls := .type "list", data := .seq vs.toArray } (.lst (ns.map V.int)))) → (S = none → SqL K (fun b => if b = a then S else if b ∈ tabsOf K then some (.tbl #[]) else none) a (ns.map V.int)) → (S ≠ none → K.lookup a = none) →
      codeAny (model P w) callerA (.call (.ref fa) ⟨[.ref a], []⟩) (fun r s' => r = .ok (.ret (.bool true)) ∧ OldK s₁.heap s'.heap ∧ s'.os = s₁.os ∧ AllBare s'.gens) s₁ := by
    intro S hS hS0 hK
    let H : Hp := fun b => if b = a then S else if b ∈ tabsOf K then some (.tbl #[]) else none
    have Ha : H a = S := if_pos rfl
    have Ht : ∀ b ∈ tabsOf K, H b = some (.tbl #[]) := fun b hbt => by
      show (if b = a then S else _) = _
      rw [if_neg (fun e => nta (by rw [← e]; exact hbt)), if_pos hbt]
    have Hn : ∀ b, b ≠ a → b ∉ tabsOf K → H b = none := fun b h1 h2 => by
      show (if b = a then S else _) = _
      rw [if_neg h1, if_neg h2]
    have hO : OnlyT H := fun b => by
      by_cases e : b = a
      · subst e
        rw [Ha]
        rcases hS with z | z
        · exact .inl z
        · exact .inr (.inl ⟨_, _, z⟩)
      · by_cases e2 : b ∈ tabsOf K
        · exact .inr (.inr (Ht b e2))
        · exact .inl (Hn b e e2)
    have hok : HOk P w H s₁.heap := fun b u z => by
      by_cases e : b = a
      · subst e
        rw [Ha] at z
        rcases hS with q | q
        · rw [q] at z; cases z
        · rw [q] at z
          cases z
          exact ⟨ha, by rw [List.length_map]; exact hl, vs, _, rv, ha⟩
      · by_cases e2 : b ∈ tabsOf K
        · rw [Ht b e2] at z
          cases z
          exact tabH b e2
        · rw [Hn b e e2] at z; cases z
    have hSq : SqL K H a (ns.map V.int) := by
      rcases hS with z | z
      · exact hS0 z
      · exact .inl (.inr ⟨_, Ha.trans z⟩)
    have tb : TbOk K H := fun q P' hq e => ⟨#[], Ht _ (List.mem_filterMap.mpr ⟨q, hq, e⟩), trivial, fun pos cv z => by simp [codeAmong] at z⟩
    have dictN : ∀ {b : Addr} {o : Obj} {es : Array DictEntry} {ep : Nat}, s₁.heap.get? b = some o → o.data = .dict es ep → H b = none := fun {b o es ep} e d => by
      refine Hn b (fun z => ?_) (fun z => ?_)
      · rw [z, ha] at e; cases e; cases d
      · rw [tabH b z] at e; cases e; cases d
    have nsK : ∀ {b : Addr} {m : Str → Option Value}, s₁.heap.Ns b m → (hidT s₁.heap H).Ns b m := fun {b m} ⟨o, es, ep, e, d, r⟩ => ⟨o, es, ep, hidT_get e (dictN e d), d, r⟩
    have hKb : K.In (hidT s₁.heap H) := fun b o e1 => by
      have e2 : b ∉ tabsOf K := fun z => by
        obtain ⟨q, hq, t⟩ := mem_tabs z
        rw [(free_none t).1] at e1; cases e1
      refine hidT_get (KX b o e1) ?_
      by_cases z : b = a
      · subst z
        rw [Ha]
        rcases hS with q | q
        · exact q
        · rw [hK (by rw [q]; simp)] at e1; cases e1
      · exact Hn b z e2
    have hM : Mod K mg (hidT s₁.heap H) := ⟨hKb, nsK hns, ⟨mb, nsK hb, hbb⟩, let ⟨mc, h1, h2⟩ := hlim; ⟨mc, nsK h1, h2⟩⟩
    have e0 : Env0 P w K mg (hidT s₁.heap H) callerA [] s₁ H := ⟨rfl, hM, fun b o e => of_hidT e, Nat.le_of_eq (hidT_size _ _), trivial, fun b z => absurd (show b ∈ ([] : List Addr) from z) (by simp), hok, .of_eq hg⟩
    have hB : BmOk mg (hidT s₁.heap H) := by
      obtain ⟨bm, ob, b1, b2, b3, b4, b5, b6, b7⟩ := hbm
      refine ⟨bm, ob, b1, b2, b3, hidT_get b4 (Hn bm (fun z => ?_) fun z => ?_), b5, b6, b7⟩
      · rw [z, ha] at b4; cases b4; cases b7
      · rw [tabH bm z] at b4; cases b4; cases b7
    refine codeAny_mono ((F _ ⟨hM, hB⟩).run callerA [] s₁ H ⟨[.ref a], []⟩ [.ref a] [.ref a] _ _ hr e0 (hbind s₁ (.ref a)) (.cons rfl .nil) (hsp H hO hSq tb)) fun r s' h => ?_
    cases r with
    | error e => exact (hCX H e s' h).elim
    | ok fl =>
      cases fl with
      | next => exact False.elim h
      | brk => exact False.elim h
      | cont => exact False.elim h
      | ret u =>
        obtain ⟨v, H', os, bare, un, hok', r', q⟩ := h
        have q' : v = .bl true := q
        subst q'
        obtain rfl : u = Value.bool true := r'
        have old : ∀ b o, s₁.heap.get? b = some o → asItWas s₁.heap s'.heap b o := fun b o e => by
          cases q : H b with
          | none => exact .inl (un.keep b o e q (fun z => absurd (show b ∈ ([] : List Addr) from z) (by simp)) (by simp))
          | some u =>
            rcases hO b with z | ⟨ob, xs, z⟩ | z
            · rw [q] at z; cases z
            · obtain ⟨e1, _⟩ := hok b _ z
              obtain ⟨e2, _⟩ := hok' b _ (un.frzs b ob _ z)
              rw [e] at e1; cases e1
              exact .inl e2
            · obtain ⟨more, m1⟩ := un.tbls b _ z
              have e1 : s₁.heap.get? b = some (PySem.W.tabObj #[]) := hok b _ z
              have e2 : s'.heap.get? b = some (PySem.W.tabObj (#[] ++ more)) := hok' b _ m1
              rw [e] at e1
              cases e1
              have hbt : b ∈ tabsOf K := by
                by_cases e3 : b ∈ tabsOf K
                · exact e3
                · by_cases e4 : b = a
                  · rw [e4, ha] at e; cases e
                  · rw [Hn b e4 e3] at z; cases z
              obtain ⟨qq, hq, t⟩ := mem_tabs hbt
              obtain ⟨_, c, o2, vs2, l1, l2, l3, l4⟩ := T qq b hq t
              exact .inr (.inl ⟨⟨c, o2, vs2, KX _ _ l1, l2, l3, l4⟩, rfl, #[], more, rfl, e2⟩)
        exact ⟨rfl, ⟨old, fun b o e => un.there b o e (by simp)⟩, os, bare⟩
  cases hk : K.lookup a with
  | some o =>
    have e := KX a o hk
    rw [ha] at e
    cases e
    refine core none (.inl rfl) (fun _ => .inr ⟨_, vs.toArray, _, hk, rfl, rfl, rfl, by rw [List.size_toArray, lenV]; exact hl, by simpa using rv⟩) (fun z => absurd rfl z)
  | none => exact core _ (.inr rfl) (fun z => by cases z) fun _ => hk
theorem walk_ofT {l : PySem.W.OpenLaw} {n k : Nat} {q : Program} {loose : List Str} {XP : (Str → Option Value) → Heap → Prop} {YP : World → Heap → Prop} {d : DefRec} {K : Params → PySem.W.Frag} {CX : World → CXT} {sp : World → Sp} {x : Str} {ts : List Addr}
    (hn : l.most = some n) (hn2 : n ≤ sizeLine) (hdf : d.params.defaults = []) (hr : Room k callerA) (hY : ∀ (w : World) (h : Heap), YP w h → (K w.params).In h ∧ ∀ P ∈ ts, h.get? P = some (PySem.W.tabObj #[]))
    (F : ∀ (w : World) (mg : Str → Option Value) (fa : Addr) (h : Heap), (K w.params).In h → h.Ns mainGlobals mg → mg d.name = some (.ref fa) → TabsK (K w.params) ts ∧
      ∃ fd : FuncData, (∀ (s : Shared) (u : Value), BindsTo s fd ⟨[u], []⟩ [(x, u)]) ∧ ∀ base : Heap, ModB (K w.params) mg base → FnOk l.prog w (K w.params) mg base (CX w) k fa fd [x] (sp w))
    (hsp : ∀ (w : World) (H : Hp) (a : Addr) (ns : List Int), ns.length ≤ n → OnlyT H → SqL (K w.params) H a (ns.map V.int) → TbOk (K w.params) H → sp w [.ref a] H (fun v _ => v = .bl true) fun _ _ _ => False)
    (hCX : ∀ (w : World) (H : Hp) (s : Shared) (e : Value) (s' : Shared), CX w [] H s (fun _ _ _ => False) e s' → False) :
    PySem.W.WalkO q loose XP YP l.row.toRowW d [] (fun f vs => PySem.call f vs) := by
  refine Att.attach_call hn hdf fun w s₀ s₁ mg mb fa o pm cd doc a vs ns G Y ho hd hcd hmg hobj hints hlen hg => ?_
  obtain ⟨KX, TH⟩ := hY w _ Y
  obtain ⟨T, fd, hb, hF⟩ := F w mg fa _ KX G.T.g hmg
  have hbm : BmOk mg s₁.heap := by
    obtain ⟨bm, ob, b1, b2, b3, b4, b5, b6⟩ := G.T.bmain
    refine ⟨bm, ob, b1, b2, fun q => ?_, b3, b4, b5, b6⟩
    obtain ⟨o, es, ep, e, hd, _⟩ := G.T.g
    rw [q, e] at b3; cases b3; rw [hd] at b6; cases b6
  exact law_callT KX T TH hbm G.T.g G.T.b G.T.builtins G.T.nolimit hg hobj hints (Nat.le_trans hlen hn2) hr hF hb (fun H hO hS hT => hsp w H a ns hlen hO hS hT) fun H e s' => hCX w H s₁ e s'
end J
namespace J
open PySem PySem.Spec PyProof.Rows L2
def Rs.sq (r : Rs) (h : GS) : Rs := match r with
  | .nx ρ st => h ρ st
  | r => r
section
variable {α β : Type} {ρ ρ' : Rho} {st : Hs} {h g ga' gb' : GS} {ga gb gc : GE} {gt gu : GT} {w : Wv} {c : PySem.Str} {f : α → Hs → Re β} {k : α → Hs → Rs} {a : α} {i : Nat}
@[simp] theorem sq_nx : (Rs.nx ρ st).sq h = h ρ st := rfl
@[simp] theorem sq_rt : (Rs.rt w st).sq h = .rt w st := rfl
@[simp] theorem sq_bk : (Rs.bk ρ st).sq h = .bk ρ st := rfl
@[simp] theorem sq_ct : (Rs.ct ρ st).sq h = .ct ρ st := rfl
@[simp] theorem sq_err : (Rs.err c ρ st).sq h = .err c ρ st := rfl
@[simp] theorem sq_bad : Rs.bad.sq h = .bad := rfl
@[simp] theorem bind_ok : (Re.ok a st).bind f = f a st := rfl
@[simp] theorem bind_err : (Re.err c st).bind f = .err c st := rfl
@[simp] theorem bind_bad : (Re.bad : Re α).bind f = .bad := rfl
@[simp] theorem thn_ok : (Re.ok a st).thn ρ k = k a st := rfl
@[simp] theorem thn_err : (Re.err c st : Re α).thn ρ k = .err c ρ st := rfl
@[simp] theorem nox_ok : (Re.ok a st).nox = .ok a st := rfl
@[simp] theorem nox_bad : (Re.bad : Re α).nox = .bad := rfl
@[simp] theorem thn_bad : (Re.bad : Re α).thn ρ k = .bad := rfl
@[simp] theorem e_seq : gSeq g h ρ st = (g ρ st).sq h := by unfold gSeq Rs.sq; cases g ρ st <;> rfl
@[simp] theorem e_next : gNext ρ st = .nx ρ st := rfl
@[simp] theorem e_ret : gRet ga ρ st = (ga ρ st).thn ρ fun w st' => .rt w st' := rfl
@[simp] theorem e_expr : gExpr ga ρ st = (ga ρ st).thn ρ fun _ st' => .nx ρ st' := rfl
@[simp] theorem e_set : gSet i ga ρ st = (ga ρ st).thn ρ fun w st' => .nx (ρ.set i (some w)) st' := rfl
def kIf (ga gb : GS) (ρ : Rho) : Bool → Hs → Rs := fun b st' => if b = true then ga ρ st' else gb ρ st'
@[simp] theorem kIf_t : kIf g h ρ true st = g ρ st := rfl
@[simp] theorem kIf_f : kIf g h ρ false st = h ρ st := rfl
@[simp] theorem e_if : gIf gt g h ρ st = (gt ρ st).thn ρ (kIf g h ρ) := rfl
def rdV (o : Option (Option Wv)) (st : Hs) : Re Wv := match o with
  | some (some w) => .ok w st
  | _ => .bad
@[simp] theorem rdV_s : rdV (some (some w)) st = .ok w st := rfl
@[simp] theorem e_var : gVar i ρ st = rdV ρ[i]? st := rfl
@[simp] theorem e_c : gC w ρ st = .ok w st := rfl
def kB (op : Op2) (gb : GE) (ρ : Rho) : Wv → Hs → Re Wv := fun x st1 => (gb ρ st1).bind fun y st2 => (op x y st2).nox
@[simp] theorem kB_d {op : Op2} {x : Wv} : kB op gb ρ x st = (gb ρ st).bind fun y st2 => (op x y st2).nox := rfl
@[simp] theorem e_bin {op : Op2} : gBin op ga gb ρ st = (ga ρ st).bind (kB op gb ρ) := rfl
@[simp] theorem e_tst : gTst ga ρ st = (ga ρ st).bind tst := rfl
@[simp] theorem tst_b {b : Bool} : tst (.bl b) st = .ok b st := rfl
@[simp] theorem e_tru : gTru ga ρ st = (ga ρ st).bind truW := rfl
@[simp] theorem truW_b {b : Bool} : truW (.bl b) st = .ok b st := rfl
@[simp] theorem e_not : gNot gt ρ st = (gt ρ st).bind fun b st1 => .ok (!b) st1 := rfl
def kAnd (gb : GT) (ρ : Rho) : Bool → Hs → Re Bool := fun b st1 => if b = true then gb ρ st1 else .ok false st1
@[simp] theorem kAnd_t : kAnd gu ρ true st = gu ρ st := rfl
@[simp] theorem kAnd_f : kAnd gu ρ false st = .ok false st := rfl
def kOr (gb : GT) (ρ : Rho) : Bool → Hs → Re Bool := fun b st1 => if b = true then .ok true st1 else gb ρ st1
@[simp] theorem kOr_t : kOr gu ρ true st = .ok true st := rfl
@[simp] theorem kOr_f : kOr gu ρ false st = gu ρ st := rfl
@[simp] theorem e_or : gOr gt gu ρ st = (gt ρ st).bind (kOr gu ρ) := rfl
def kAndV (gb : GE) (ρ : Rho) : Wv → Hs → Re Wv := fun w st1 => match w with
  | .bl true => gb ρ st1
  | .bl false => .ok (.bl false) st1
  | _ => .bad
@[simp] theorem kAndV_t : kAndV gb ρ (.bl true) st = gb ρ st := rfl
@[simp] theorem kAndV_f : kAndV gb ρ (.bl false) st = .ok (.bl false) st := rfl
@[simp] theorem e_andV : gAndV ga gb ρ st = (ga ρ st).bind (kAndV gb ρ) := rfl
def kNotV : Wv → Hs → Re Wv := fun w st1 => match w with
  | .bl b => .ok (.bl (!b)) st1
  | _ => .bad
@[simp] theorem kNotV_b {b : Bool} : kNotV (.bl b) st = .ok (.bl (!b)) st := rfl
def kIfE (ga gb : GE) (ρ : Rho) : Bool → Hs → Re Wv := fun b st1 => if b = true then ga ρ st1 else gb ρ st1
@[simp] theorem kIfE_t : kIfE ga gb ρ true st = ga ρ st := rfl
@[simp] theorem kIfE_f : kIfE ga gb ρ false st = gb ρ st := rfl
@[simp] theorem e_ifE : gIfE gt ga gb ρ st = (gt ρ st).bind (kIfE ga gb ρ) := rfl
@[simp] theorem e_nil : gNil ρ st = .ok [] st := rfl
def kCons (gr : GA) (ρ : Rho) : Wv → Hs → Re (List Wv) := fun x st1 => (gr ρ st1).bind fun xs st2 => .ok (x :: xs) st2
@[simp] theorem kCons_d {gr : GA} {x : Wv} : kCons gr ρ x st = (gr ρ st).bind fun xs st2 => .ok (x :: xs) st2 := rfl
@[simp] theorem e_cons {gr : GA} : gCons ga gr ρ st = (ga ρ st).bind (kCons gr ρ) := rfl
def kTup : List Wv → Hs → Re Wv := fun ws st1 => if ws.length ≤ lim then .ok (.tup ws) st1 else .bad
theorem kTup_d {ws : List Wv} (hl : ws.length ≤ lim) : kTup ws st = .ok (.tup ws) st := if_pos hl
@[simp] theorem e_tup {gr : GA} : gTup gr ρ st = (gr ρ st).bind kTup := rfl
def kLst : List Wv → Hs → Re Wv := fun ws st1 => if ws.length ≤ lim then .ok (.ref st1.length) (st1 ++ [.lst ws]) else .bad
theorem kLst_d {ws : List Wv} (hl : ws.length ≤ lim) : kLst ws st = .ok (.ref st.length) (st ++ [.lst ws]) := if_pos hl
@[simp] theorem e_lst {gr : GA} : gLst gr ρ st = (gr ρ st).bind kLst := rfl
section
variable {x x0 x1 x2 x3 x4 x5 x6 x7 : Wv}
@[simp] theorem kTup_1 : kTup [x0] st = .ok (.tup [x0]) st := kTup_d (by simp [lim])
@[simp] theorem kTup_2 : kTup [x0, x1] st = .ok (.tup [x0, x1]) st := kTup_d (by simp [lim])
@[simp] theorem kTup_3 : kTup [x0, x1, x2] st = .ok (.tup [x0, x1, x2]) st := kTup_d (by simp [lim])
@[simp] theorem kTup_4 : kTup [x0, x1, x2, x3] st = .ok (.tup [x0, x1, x2, x3]) st := kTup_d (by simp [lim])
@[simp] theorem kLst_0 : kLst [] st = .ok (.ref st.length) (st ++ [.lst []]) := kLst_d (by simp [lim])
@[simp] theorem kLst_1 : kLst [x0] st = .ok (.ref st.length) (st ++ [.lst [x0]]) := kLst_d (by simp [lim])
@[simp] theorem kLst_2 : kLst [x0, x1] st = .ok (.ref st.length) (st ++ [.lst [x0, x1]]) := kLst_d (by simp [lim])
@[simp] theorem kLst_4 : kLst [x0, x1, x2, x3] st = .ok (.ref st.length) (st ++ [.lst [x0, x1, x2, x3]]) := kLst_d (by simp [lim])
@[simp] theorem kLst_5 : kLst [x0, x1, x2, x3, x4] st = .ok (.ref st.length) (st ++ [.lst [x0, x1, x2, x3, x4]]) := kLst_d (by simp [lim])
end
def kCall (n : Nat) (F : List Wv → Hs → Re Wv) : List Wv → Hs → Re Wv := fun ws st1 => if ws.length = n then F ws st1 else .bad
section
variable {F : List Wv → Hs → Re Wv} {x0 x1 x2 x3 : Wv} {gr : GA}
@[simp] theorem kCall_1 : kCall 1 F [x0] st = F [x0] st := rfl
@[simp] theorem kCall_2 : kCall 2 F [x0, x1] st = F [x0, x1] st := rfl
@[simp] theorem kCall_3 : kCall 3 F [x0, x1, x2] st = F [x0, x1, x2] st := rfl
@[simp] theorem kCall_4 : kCall 4 F [x0, x1, x2, x3] st = F [x0, x1, x2, x3] st := rfl
@[simp] theorem e_call {n : Nat} : gCall n F gr ρ st = (gr ρ st).bind (kCall n F) := rfl
@[simp] theorem e_callB {op : List Wv → Hs → Re Wv} : gCallB op gr ρ st = (gr ρ st).bind fun ws st1 => (op ws st1).nox := rfl
end
@[simp] theorem e_un {op : Wv → Hs → Re Wv} : gUn op ga ρ st = (ga ρ st).bind op := rfl
@[simp] theorem neg_i {i : Int} : opNeg (.int i) st = .ok (.int (-i)) st := rfl
@[simp] theorem add_i {i j : Int} : oAdd (.int i) (.int j) st = .ok (.int (i + j)) st := rfl
@[simp] theorem sub_i {i j : Int} : oSub (.int i) (.int j) st = .ok (.int (i - j)) st := rfl
@[simp] theorem lt_i {i j : Int} : oLt (.int i) (.int j) st = .ok (.bl (decide (i < j))) st := rfl
@[simp] theorem le_i {i j : Int} : oLe (.int i) (.int j) st = .ok (.bl (decide (i ≤ j))) st := rfl
@[simp] theorem gt_i {i j : Int} : oGt (.int i) (.int j) st = .ok (.bl (decide (j < i))) st := rfl
@[simp] theorem ge_i {i j : Int} : oGe (.int i) (.int j) st = .ok (.bl (decide (j ≤ i))) st := rfl
@[simp] theorem eq_i {i j : Int} : oEq (.int i) (.int j) st = .ok (.bl (i == j)) st := rfl
@[simp] theorem ne_i {i j : Int} : oNe (.int i) (.int j) st = .ok (.bl (!(i == j))) st := rfl
@[simp] theorem eq_s {i j : PySem.Str} : oEq (.str i) (.str j) st = .ok (.bl (i == j)) st := rfl
@[simp] theorem ne_s {i j : PySem.Str} : oNe (.str i) (.str j) st = .ok (.bl (!(i == j))) st := rfl
@[simp] theorem eq_b {i j : Bool} : oEq (.bl i) (.bl j) st = .ok (.bl (i == j)) st := by cases i <;> cases j <;> rfl
@[simp] theorem ne_b {i j : Bool} : oNe (.bl i) (.bl j) st = .ok (.bl (!(i == j))) st := by cases i <;> cases j <;> rfl
theorem fdiv_i {i j : Int} (h : j ≠ 0 ∧ j.natAbs.log2 < 9000) : oFdiv (.int i) (.int j) st = .ok (.int (i.fdiv j)) st := by show (if _ then _ else _) = _; rw [if_pos h]
theorem mod_i {i j : Int} (h : j ≠ 0) : oMod (.int i) (.int j) st = .ok (.int (i.fmod j)) st := by show (if _ then _ else _) = _; rw [if_pos h]
theorem mul_i {i j : Int} (h : IntMulOk i j) : oMulL (.int i) (.int j) st = .ok (.int (i * j)) st := by show (if _ then _ else _) = _; rw [if_pos h]
theorem mul_l {i j : Int} (h1 : -(2 ^ 64) < i) (h2 : i < 2 ^ 64) : oMulL (.int i) (.int j) st = .ok (.int (i * j)) st := mul_i (IntMulOk.of_left (intBits_le_64 h1 h2))
theorem mul_r {i j : Int} (h1 : -(2 ^ 64) < j) (h2 : j < 2 ^ 64) : oMulL (.int i) (.int j) st = .ok (.int (i * j)) st := mul_i (IntMulOk.of_right (intBits_le_64 h1 h2))
theorem pow_i {i j : Int} (h : 0 ≤ j ∧ j ≤ 1000000 ∧ i.natAbs < 2 ^ 64) : oPow (.int i) (.int j) st = .ok (.int (i ^ j.toNat)) st := by show (if _ then _ else _) = _; rw [if_pos h]
theorem ix_l {l : Nat} {i : Int} {ws : List Wv} {v : Wv} (h : lstOf st l = some ws) (h2 : atI ws i = some v) : oIx (.ref l) (.int i) st = .ok v st := by
  show (match lstOf st l with | some ws => (match atI ws i with | some w => Re.ok w st | none => .bad) | none => .bad) = _
  rw [h]
  dsimp only
  rw [h2]
theorem ix_t {i : Int} {ws : List Wv} {v : Wv} (h2 : atI ws i = some v) : oIx (.tup ws) (.int i) st = .ok v st := by
  show (match atI ws i with | some w => Re.ok w st | none => .bad) = _
  rw [h2]
end
section
variable {ρ : Rho} {st : Hs} {ga gb gc : GE} {gl gh : GO}
def kSl (gl gh : GO) (ρ : Rho) : Wv → Hs → Re Wv := fun x st1 => (gl ρ st1).bind fun lo st2 => (gh ρ st2).bind fun hi st3 => oSl2 x lo hi st3
@[simp] theorem e_slice : gSlice2 ga gl gh ρ st = (ga ρ st).bind (kSl gl gh ρ) := rfl
@[simp] theorem kSl_d {x : Wv} : kSl gl gh ρ x st = (gl ρ st).bind fun lo st2 => (gh ρ st2).bind fun hi st3 => oSl2 x lo hi st3 := rfl
@[simp] theorem e_nopart : gNoPart ρ st = .ok none st := rfl
def kPart : Wv → Hs → Re (Option Int) := fun w st1 => match w with
  | .int i => .ok (some i) st1
  | _ => .bad
@[simp] theorem e_part : gPart ga ρ st = (ga ρ st).bind kPart := rfl
@[simp] theorem kPart_i {i : Int} : kPart (.int i) st = .ok (some i) st := rfl
theorem len_l {l : Nat} {ws : List Wv} (h : lstOf st l = some ws) : oLen [.ref l] st = .ok (.int ws.length) st := by
  show (match lstOf st l with | some ws => Re.ok (Wv.int ws.length) st | none => .bad) = _
  rw [h]
def kCh2 (op' : Op2) (gc : GE) (y : Wv) (ρ : Rho) : Wv → Hs → Re Wv := fun z st3 => match z with
  | .bl true => (gc ρ st3).bind fun u st4 => (op' y u st4).nox
  | .bl false => .ok (.bl false) st3
  | _ => .bad
@[simp] theorem kCh2_t {op' : Op2} {y : Wv} : kCh2 op' gc y ρ (.bl true) st = (gc ρ st).bind fun u st4 => (op' y u st4).nox := rfl
@[simp] theorem kCh2_f {op' : Op2} {y : Wv} : kCh2 op' gc y ρ (.bl false) st = .ok (.bl false) st := rfl
@[simp] theorem e_chain {op op' : Op2} : gChain op op' ga gb gc ρ st = (ga ρ st).bind fun x st1 => (gb ρ st1).bind fun y st2 => (op x y st2).nox.bind (kCh2 op' gc y ρ) := rfl
end
theorem lstOf_new {st : Hs} {ws : List Wv} : lstOf (st ++ [.lst ws]) st.length = some ws := by unfold lstOf; simp
theorem lstOf_lt {st : Hs} {l : Nat} {ws : List Wv} (h : lstOf st l = some ws) : l < st.length := by
  unfold lstOf at h
  cases e : st[l]? with
  | none => rw [e] at h; cases h
  | some o => exact (List.getElem?_eq_some_iff.mp e).1
def Keep (l : Nat) (st st' : Hs) : Prop := st.length ≤ st'.length ∧ ∀ k, k < st.length → k ≠ l → st'[k]? = st[k]?
theorem Keep.refl {l : Nat} {st : Hs} : Keep l st st := ⟨Nat.le_refl _, fun _ _ _ => rfl⟩
theorem Keep.trans {l : Nat} {a b c : Hs} (h : Keep l a b) (k : Keep l b c) : Keep l a c := ⟨Nat.le_trans h.1 k.1, fun j h1 h2 => (k.2 j (Nat.lt_of_lt_of_le h1 h.1) h2).trans (h.2 j h1 h2)⟩
theorem Keep.push {l : Nat} {st : Hs} {o : Ob} : Keep l st (st ++ [o]) := ⟨by simp, fun k h _ => List.getElem?_append_left h⟩
theorem Keep.set {l : Nat} {st : Hs} {o : Ob} : Keep l st (st.set l o) := ⟨by simp, fun k _ h => List.getElem?_set_ne (fun z => h z.symm)⟩
theorem Keep.lst {l : Nat} {st st' : Hs} (k : Keep l st st') {j : Nat} {ws : List Wv} (h : lstOf st j = some ws) (hj : j ≠ l) : lstOf st' j = some ws := by
  unfold lstOf at h ⊢
  rw [k.2 j (lstOf_lt (st := st) (ws := ws) (by unfold lstOf; exact h)) hj]
  exact h
@[simp] theorem e_forR1 {i : Nat} {ga : GA} {gb : GS} {ρ : Rho} {st : Hs} : gForR1 i ga gb ρ st = (ga ρ st).thn ρ fun ws st1 => match ws with
  | [.int j] => if CRng j then forT i gb (rngW 0 j.toNat) ρ st1 else .bad
  | _ => .bad := rfl
def kMeth (mt : Wv → Wv → Hs → Re Wv) (ga : GE) (ρ : Rho) : Wv → Hs → Re Wv := fun o st1 => match o with
  | .ref l => (match lstOf st1 l with
    | some _ => (ga ρ st1).bind fun v st2 => (mt o v st2).nox
    | none => .bad)
  | _ => .bad
@[simp] theorem e_meth {mt : Wv → Wv → Hs → Re Wv} {go ga : GE} {ρ : Rho} {st : Hs} : gMeth mt go ga ρ st = (go ρ st).bind (kMeth mt ga ρ) := rfl
theorem kMeth_l {mt : Wv → Wv → Hs → Re Wv} {ga : GE} {ρ : Rho} {st : Hs} {l : Nat} {ws : List Wv} (h : lstOf st l = some ws) : kMeth mt ga ρ (.ref l) st = (ga ρ st).bind fun v st2 => (mt (.ref l) v st2).nox := by
  show (match lstOf st l with | some _ => (ga ρ st).bind fun v st2 => (mt (.ref l) v st2).nox | none => .bad) = _
  rw [h]
theorem app_l {st : Hs} {l : Nat} {v : Wv} {ws : List Wv} (h : st[l]? = some (.lst ws)) (hl : ws.length < lim) : mApp (.ref l) v st = .ok .non (st.set l (.lst (ws ++ [v]))) := by
  show (match st[l]? with | some (.lst ws) => if ws.length < lim then Re.ok Wv.non (st.set l (.lst (ws ++ [v]))) else .bad | _ => .bad) = _
  rw [h]
  exact if_pos hl
noncomputable def kFor (i : Nat) (gb : GS) (ρ : Rho) : Wv → Hs → Rs := fun w st1 => match w with
  | .ref l => (match lstOf st1 l with | some ws => forL i gb l ws ws ρ st1 | none => .bad)
  | .tup ws => forT i gb ws ρ st1
  | .ktp ws => forT i gb ws ρ st1
  | _ => .bad
@[simp] theorem e_for {i : Nat} {ga : GE} {gb : GS} {ρ : Rho} {st : Hs} : gFor i ga gb ρ st = (ga ρ st).thn ρ (kFor i gb ρ) := rfl
theorem kFor_l {i : Nat} {gb : GS} {ρ : Rho} {st : Hs} {l : Nat} {ws : List Wv} (h : lstOf st l = some ws) : kFor i gb ρ (.ref l) st = forL i gb l ws ws ρ st := by
  show (match lstOf st l with | some ws => forL i gb l ws ws ρ st | none => .bad) = _
  rw [h]
@[simp] theorem kFor_t {i : Nat} {gb : GS} {ρ : Rho} {st : Hs} {ws : List Wv} : kFor i gb ρ (.tup ws) st = forT i gb ws ρ st := rfl
theorem forL_inv {i : Nat} {gb : GS} {l : Nat} {all : List Wv} (P : Rho → Hs → Prop) : ∀ (ws : List Wv) (ρ : Rho) (st : Hs), P ρ st → lstOf st l = some all →
    (∀ w ∈ ws, ∀ ρ st, P ρ st → lstOf st l = some all → ∃ ρ' st', gb (ρ.set i (some w)) st = .nx ρ' st' ∧ lstOf st' l = some all ∧ P ρ' st') →
    ∃ ρ' st', forL i gb l all ws ρ st = .nx ρ' st' ∧ P ρ' st' ∧ lstOf st' l = some all
  | [], ρ, st, h, hl, _ => ⟨ρ, st, rfl, h, hl⟩
  | w :: r, ρ, st, h, hl, step => by
    obtain ⟨ρ1, st1, e1, l1, p1⟩ := step w List.mem_cons_self ρ st h hl
    obtain ⟨ρ2, st2, e2, p2, l2⟩ := forL_inv P r ρ1 st1 p1 l1 fun w hw => step w (List.mem_cons_of_mem _ hw)
    refine ⟨ρ2, st2, ?_, p2, l2⟩
    unfold forL
    rw [e1]
    simp only [if_pos l1]
    exact e2
theorem forT_ix {i : Nat} {gb : GS} (P : Nat → Rho → Hs → Prop) : ∀ (ws : List Wv) (k : Nat) (ρ : Rho) (st : Hs), P k ρ st →
    (∀ (j : Nat) (w : Wv), ws[j]? = some w → ∀ ρ st, P (k + j) ρ st → ∃ ρ' st', gb (ρ.set i (some w)) st = .nx ρ' st' ∧ P (k + j + 1) ρ' st') → ∃ ρ' st', forT i gb ws ρ st = .nx ρ' st' ∧ P (k + ws.length) ρ' st'
  | [], k, ρ, st, h, _ => ⟨ρ, st, rfl, h⟩
  | w :: r, k, ρ, st, h, step => by
    obtain ⟨ρ1, st1, e1, p1⟩ := step 0 w rfl ρ st h
    obtain ⟨ρ2, st2, e2, p2⟩ := forT_ix P r (k + 1) ρ1 st1 p1 fun j w hw ρ st hp => by
      have e : k + (j + 1) = k + 1 + j := by omega
      have q := step (j + 1) w hw ρ st (by rw [e]; exact hp)
      rw [e] at q
      exact q
    refine ⟨ρ2, st2, ?_, ?_⟩
    · unfold forT
      rw [e1]
      exact e2
    · have e : k + (w :: r).length = k + 1 + r.length := by simp; omega
      rw [e]
      exact p2
theorem forT_inv {i : Nat} {gb : GS} (P : Rho → Hs → Prop) : ∀ (ws : List Wv) (ρ : Rho) (st : Hs), P ρ st →
    (∀ w ∈ ws, ∀ ρ st, P ρ st → ∃ ρ' st', gb (ρ.set i (some w)) st = .nx ρ' st' ∧ P ρ' st') → ∃ ρ' st', forT i gb ws ρ st = .nx ρ' st' ∧ P ρ' st'
  | [], ρ, st, h, _ => ⟨ρ, st, rfl, h⟩
  | w :: r, ρ, st, h, step => by
    obtain ⟨ρ1, st1, e1, p1⟩ := step w List.mem_cons_self ρ st h
    obtain ⟨ρ2, st2, e2, p2⟩ := forT_inv P r ρ1 st1 p1 fun w hw => step w (List.mem_cons_of_mem _ hw)
    refine ⟨ρ2, st2, ?_, p2⟩
    unfold forT
    rw [e1]
    exact e2
@[simp] theorem str2_i {i : Int} {st : Hs} : oStr2 [.int i] st = oStr [.int i] st := rfl
@[simp] theorem e_comp {cs : Caps} {gi : GI} {gt : GT} {ge : GE} {ρ : Rho} {st : Hs} : gComp cs gi gt ge ρ st = (gi ρ st).bind (compRun cs gt ge ρ) := rfl
@[simp] theorem e_giSeq {g : GE} {ρ : Rho} {st : Hs} : giSeq2 g ρ st = (g ρ st).bind seqW2 := rfl
@[simp] theorem e_giR1 {g : GA} {ρ : Rho} {st : Hs} : giR1 g ρ st = (g ρ st).bind rng1W := rfl
@[simp] theorem e_giR2 {g : GA} {ρ : Rho} {st : Hs} : giR2 g ρ st = (g ρ st).bind rng2W := rfl
theorem rng1_i {j : Int} {st : Hs} (h : CRng j) : rng1W [.int j] st = .ok (none, rngW 0 j.toNat) st := if_pos h
@[simp] theorem seqW_s {st : Hs} {z : PySem.Str} : seqW2 (.str z) st = .ok (none, signsW z) st := rfl
@[simp] theorem seqW_t {st : Hs} {ws : List Wv} : seqW2 (.tup ws) st = .ok (none, ws) st := rfl
theorem app_new {st : Hs} {acc : List Wv} {v : Wv} (h : acc.length < lim) : mApp (.ref st.length) v (st ++ [.lst acc]) = .ok .non (st ++ [.lst (acc ++ [v])]) := by
  rw [app_l (ws := acc) (by simp) h]
  congr 1
  simp
end J
namespace J
open PySem PySem.Spec PyProof.Rows L2
theorem atI_some {α : Type} {ws : List α} {d : Int} (h0 : 0 ≤ d) (h1 : d < ws.length) : ∃ v, L2.atI ws d = some v ∧ v ∈ ws := by
  have hk : d.toNat < ws.length := by omega
  have ek : d = ((d.toNat : Nat) : Int) := by omega
  refine ⟨ws[d.toNat], ?_, List.getElem_mem hk⟩
  have q := L2.atI_nat (List.getElem?_eq_getElem hk)
  rw [← ek] at q
  exact q
theorem set_get {st : Hs} {l : Nat} {o o' : Ob} (h : st[l]? = some o) : (st.set l o')[l]? = some o' := List.getElem?_set_self (List.getElem?_eq_some_iff.mp h).1
theorem push_get {st : Hs} {l : Nat} {o o' : Ob} (h : st[l]? = some o) : (st ++ [o'])[l]? = some o := by rw [List.getElem?_append_left (List.getElem?_eq_some_iff.mp h).1]; exact h
theorem lst_get {st : Hs} {l : Nat} {ws : List Wv} (h : st[l]? = some (.lst ws)) : lstOf st l = some ws := by unfold lstOf; rw [h]
theorem get_lt {st : Hs} {l : Nat} {o : Ob} (h : st[l]? = some o) : l < st.length := (List.getElem?_eq_some_iff.mp h).1
theorem new_get {st : Hs} {o : Ob} : (st ++ [o])[st.length]? = some o := by simp
@[simp] theorem abs_i {i : Int} {st : Hs} : oAbs [.int i] st = .ok (.int (if i < 0 then -i else i)) st := rfl
@[simp] theorem sum_l {l : Nat} {st : Hs} {ns : List Int} (h : lstOf st l = some (ns.map Wv.int)) : oSum [.ref l] st = .ok (.int ns.sum) st := by
  show (match lstOf st l with | some ws => (match intsOf ws with | some ns => Re.ok (Wv.int ns.sum) st | none => .bad) | none => .bad) = _
  rw [h]
  dsimp only
  rw [intsOf_map]
theorem rng_mem {lo : Int} {n : Nat} {w : Wv} (h : w ∈ rngW lo n) : ∃ k : Int, w = .int k ∧ lo ≤ k ∧ k < lo + n := by
  unfold rngW at h
  obtain ⟨k, hk, rfl⟩ := List.mem_map.mp h
  have := List.mem_range.mp hk
  exact ⟨lo + k, rfl, by omega, by omega⟩
theorem crng {i : Int} (h1 : -1000000 ≤ i) (h2 : i ≤ 1000000) : CRng i := ⟨by omega, by omega⟩
@[simp] theorem kCall_0 {F : List Wv → Hs → Re Wv} {st : Hs} : kCall 0 F [] st = F [] st := rfl
theorem compG_inv {w : Wk} {gt : Wv → Hs → Re Bool} {ge : Wv → Hs → Re Wv} {rr : Nat} (P : Hs → Prop) (E : Wv → Prop) (hP : ∀ st acc, P st → P (st.set rr (.lst acc))) (hck : ∀ st, P st → ckOf w st) :
    ∀ (ws : List Wv), (∀ v ∈ ws, ∀ st acc, P st → st[rr]? = some (.lst acc) → ∃ st1, gt v st = .ok true st1 ∧ P st1 ∧ st1[rr]? = some (.lst acc) ∧ ∃ u st2, ge v st1 = .ok u st2 ∧ E u ∧ P st2 ∧ st2[rr]? = some (.lst acc)) →
      ∀ (acc : List Wv) (st : Hs), P st → st[rr]? = some (.lst acc) → acc.length + ws.length < lim → (∀ a ∈ acc, E a) → ∃ st' acc', compG (ckOf w) gt ge rr ws st = some st' ∧ P st' ∧ st'[rr]? = some (.lst acc') ∧ (∀ a ∈ acc', E a) ∧ acc'.length = acc.length + ws.length
  | [], _, acc, st, hp, hg, _, ha => ⟨st, acc, rfl, hp, hg, ha, rfl⟩
  | v :: r, step, acc, st, hp, hg, hl, ha => by
    obtain ⟨st1, e1, p1, g1, u, st2, e2, hu, p2, g2⟩ := step v List.mem_cons_self st acc hp hg
    have hl' : acc.length + (r.length + 1) < lim := hl
    obtain ⟨st3, acc3, f1, f2, f3, f4, f5⟩ := compG_inv P E hP hck r (fun v hv => step v (List.mem_cons_of_mem _ hv)) (acc ++ [u]) (st2.set rr (.lst (acc ++ [u]))) (hP _ _ p2) (set_get g2) (by simp; omega) (by
      intro a h
      rcases List.mem_append.mp h with z | z
      · exact ha a z
      · simp at z; rw [z]; exact hu)
    refine ⟨st3, acc3, ?_, f2, f3, f4, ?_⟩
    · unfold compG
      rw [e1]
      dsimp only
      rw [e2]
      dsimp only
      rw [app_l g2 (by omega)]
      dsimp only
      rw [if_pos (hck _ (hP _ _ p2)), f1]
    · rw [f5]; simp; omega
def Gr (st st' : Hs) : Prop := st.length ≤ st'.length ∧ ∀ k, k < st.length → st'[k]? = st[k]?
theorem Gr.refl {st : Hs} : Gr st st := ⟨Nat.le_refl _, fun _ _ => rfl⟩
theorem Gr.trans {a b c : Hs} (h : Gr a b) (k : Gr b c) : Gr a c := ⟨Nat.le_trans h.1 k.1, fun j h1 => (k.2 j (Nat.lt_of_lt_of_le h1 h.1)).trans (h.2 j h1)⟩
theorem Gr.push {st : Hs} {o : Ob} : Gr st (st ++ [o]) := ⟨by simp, fun k h => List.getElem?_append_left h⟩
theorem Gr.lst {st st' : Hs} (k : Gr st st') {j : Nat} {ws : List Wv} (h : lstOf st j = some ws) : lstOf st' j = some ws := by
  unfold lstOf at h ⊢
  rw [k.2 j (lstOf_lt (st := st) (ws := ws) (by unfold lstOf; exact h))]
  exact h
theorem Gr.get {st st' : Hs} (k : Gr st st') {j : Nat} {o : Ob} (h : st[j]? = some o) : st'[j]? = some o := by rw [k.2 j (get_lt h)]; exact h
theorem Gr.keep {st st' : Hs} {l : Nat} (k : Gr st st') : Keep l st st' := ⟨k.1, fun j h _ => k.2 j h⟩
theorem Keep.gr {st st' : Hs} {l : Nat} (h : st.length ≤ l) (k : Keep l st st') : Gr st st' := ⟨k.1, fun j h1 => k.2 j h1 (by omega)⟩
theorem Gr.keepAt {st s1 s2 : Hs} {l : Nat} (h : st.length ≤ l) (g : Gr st s1) (k : Keep l s1 s2) : Gr st s2 := ⟨Nat.le_trans g.1 k.1, fun j h1 => (k.2 j (Nat.lt_of_lt_of_le h1 g.1) (by omega)).trans (g.2 j h1)⟩
theorem ne_dat {st : Hs} {x y : Wv} {d : PyData} (h1 : datum st 20 x = some d) (h2 : datum st 20 y = some d) (h : PyData.eqv d d = true) : oNe x y st = .ok (.bl false) st := by
  unfold oNe
  rw [h1, h2]
  show Re.ok (Wv.bl (!PyData.eqv d d)) st = _
  rw [h]
  rfl
@[simp] theorem max_2 {i j : Int} {st : Hs} : oMax2 [.int i, .int j] st = .ok (.int (if j > i then j else i)) st := rfl
@[simp] theorem min_2 {i j : Int} {st : Hs} : oMin2 [.int i, .int j] st = .ok (.int (if j < i then j else i)) st := rfl
def kDcIx (kvs : Dc) : Wv → Hs → Re Wv := fun a st1 => match a with
  | .str k => (match kvs.lookup k with | some w => .ok w st1 | none => .bad)
  | _ => .bad
@[simp] theorem e_dcIx {kvs : Dc} {ga : GE} {ρ : Rho} {st : Hs} : gDcIx kvs ga ρ st = (ga ρ st).bind (kDcIx kvs) := rfl
theorem kDcIx_s {kvs : Dc} {k : PySem.Str} {w : Wv} {st : Hs} (h : kvs.lookup k = some w) : kDcIx kvs (.str k) st = .ok w st := by
  show (match kvs.lookup k with | some w => Re.ok w st | none => .bad) = _
  rw [h]
end J
namespace K58
open PySem J
open L2 (defScope defBody defArgs FnScope CX0 FnOk XK Hp)
def top (i : Nat) : Stmt := PySem.Challenge.pw_onelook_k58_forms.main.body.getD i (.Pass ⟨0, 0, 0, 0⟩)
def tbl : Tab := []
def tblT : TabT := []
def d_PART_COUNTS : Dc := [("num", .int 0), ("text", .int 0), ("lost", .int 0), ("at", .int 0), ("minus", .int 1), ("not", .int 1), ("+", .int 2), ("-", .int 2), ("*", .int 2), ("/", .int 2), ("&", .int 2), ("<", .int 2), ("=", .int 2), ("rest", .int 2), ("if", .int 3), ("else", .int 2), ("sum", .int 0), ("count", .int 0), ("least", .int 0), ("greatest", .int 0), ("find", .int 1)]
def tblC : Tab := []
abbrev s__law_cell_at : Stmt := top 24
noncomputable def g__law_cell_at : GS := (gSeq (gIf (gTst (gBin oLt (gVar 1) (gCallB oLen (gCons (gVar 0) gNil)))) (gRet (gBin oIx (gVar 0) (gVar 1))) gNext)
  (gRet (gC (.int 0))))
noncomputable def F__law_cell_at : List Wv → Hs → Re Wv := fnF 2 g__law_cell_at
noncomputable def c__law_cell_at : Ct where
  N := ["script", "k"]
  names := (defScope s__law_cell_at).names
  consts := []
  bl := ["len"]
  fns := []
  tb := tbl
  tt := tblT
  tc := tblC
  clss := []
  cln := []
  dcs := []
  dts := []
  dks := []
theorem r__law_cell_at : compS 30 (c__law_cell_at) (defBody s__law_cell_at) = g__law_cell_at := by kernel_rfl
theorem sc__law_cell_at : FnScope (c__law_cell_at).N ["script", "k"] (defScope s__law_cell_at) := ⟨rfl, rfl, rfl, by decide +kernel, rfl, by decide +kernel, by decide +kernel⟩
abbrev s__law_mixed : Stmt := top 25
noncomputable def g__law_mixed : GS := (gSeq (gSet 2 (gBin oMod (gBin oMulL (gBin oAdd (gBin oAdd (gBin oMod (gVar 0) (gC (.int 1000000007))) (gBin oMulL (gC (.int 7919)) (gVar 1))) (gC (.int 1))) (gC (.int 48271))) (gC (.int 2147483647))))
  (gRet (gBin oMod (gBin oMulL (gBin oMod (gBin oMulL (gVar 2) (gVar 2)) (gC (.int 2147483629))) (gC (.int 69621))) (gC (.int 2147483647)))))
noncomputable def F__law_mixed : List Wv → Hs → Re Wv := fnF 3 g__law_mixed
noncomputable def c__law_mixed : Ct where
  N := ["cell", "k", "stir"]
  names := (defScope s__law_mixed).names
  consts := []
  bl := []
  fns := []
  tb := tbl
  tt := tblT
  tc := tblC
  clss := []
  cln := []
  dcs := []
  dts := []
  dks := []
theorem r__law_mixed : compS 30 (c__law_mixed) (defBody s__law_mixed) = g__law_mixed := by kernel_rfl
theorem sc__law_mixed : FnScope (c__law_mixed).N ["cell", "k"] (defScope s__law_mixed) := ⟨rfl, rfl, rfl, by decide +kernel, rfl, by decide +kernel, by decide +kernel⟩
abbrev s__law_stream : Stmt := top 26
noncomputable def g__law_stream_L1 : GS := (gSet 4 (gBin oAdd (gBin oMulL (gVar 4) (gC (.int 2147483647))) (gCall 2 F__law_mixed (gCons (gBin oAdd (gVar 2) (gCallB oSum (gCons (gVar 0) gNil))) (gCons (gBin oAdd (gBin oMulL (gC (.int 8)) (gVar 1)) (gVar 3)) gNil)))))
noncomputable def g__law_stream_L2 : GS := (gSet 2 (gBin oAdd (gBin oMulL (gVar 2) (gBin oPow (gC (.int 10)) (gC (.int 60)))) (gBin oMod (gBin oIx (gVar 0) (gVar 3)) (gBin oPow (gC (.int 10)) (gC (.int 60))))))
noncomputable def g__law_stream : GS := (gSeq (gSet 2 (gC (.int 0)))
  (gSeq (gForR3 3 (gCons (gBin oAdd (gVar 1) (gC (.int 1))) (gCons (gCallB oLen (gCons (gVar 0) gNil)) (gCons (gC (.int 13)) gNil))) g__law_stream_L2)
  (gSeq (gIf (gTst (gBin oEq (gBin oMod (gCall 2 F__law_cell_at (gCons (gVar 0) (gCons (gC (.int 0)) gNil))) (gC (.int 2))) (gC (.int 1)))) (gRet (gLst (gCons (gVar 2) gNil))) gNext)
  (gSeq (gSet 4 (gC (.int 0)))
  (gSeq (gForR1 3 (gCons (gC (.int 8)) gNil) g__law_stream_L1)
  (gRet (gLst (gCons (gBin oFdiv (gVar 4) (gC (.int 8))) gNil))))))))
noncomputable def F__law_stream : List Wv → Hs → Re Wv := fnF 5 g__law_stream
noncomputable def c__law_stream : Ct where
  N := ["script", "k", "cell", "j", "found"]
  names := (defScope s__law_stream).names
  consts := []
  bl := ["range", "len", "sum"]
  fns := [("_law_cell_at", 2, F__law_cell_at), ("_law_mixed", 2, F__law_mixed)]
  tb := tbl
  tt := tblT
  tc := tblC
  clss := []
  cln := []
  dcs := []
  dts := []
  dks := []
theorem r__law_stream : compS 30 (c__law_stream) (defBody s__law_stream) = g__law_stream := by kernel_rfl
theorem sc__law_stream : FnScope (c__law_stream).N ["script", "k"] (defScope s__law_stream) := ⟨rfl, rfl, rfl, by decide +kernel, rfl, by decide +kernel, by decide +kernel⟩
abbrev s__law_digit : Stmt := top 27
noncomputable def g__law_digit : GS := (gSeq (gSet 2 (gBin oMod (gBin oIx (gVar 0) (gC (.int 0))) (gVar 1)))
  (gSeq (gSetI (gBin oFdiv (gBin oIx (gVar 0) (gC (.int 0))) (gVar 1)) (gVar 0) (gC (.int 0)))
  (gRet (gVar 2))))
noncomputable def F__law_digit : List Wv → Hs → Re Wv := fnF 3 g__law_digit
noncomputable def c__law_digit : Ct where
  N := ["row", "many", "digit"]
  names := (defScope s__law_digit).names
  consts := []
  bl := []
  fns := []
  tb := tbl
  tt := tblT
  tc := tblC
  clss := []
  cln := []
  dcs := []
  dts := []
  dks := []
theorem r__law_digit : compS 30 (c__law_digit) (defBody s__law_digit) = g__law_digit := by kernel_rfl
theorem sc__law_digit : FnScope (c__law_digit).N ["row", "many"] (defScope s__law_digit) := ⟨rfl, rfl, rfl, by decide +kernel, rfl, by decide +kernel, by decide +kernel⟩
abbrev s__law_line : Stmt := top 28
noncomputable def g__law_line : GS := (gSeq (gSet 2 (gCall 2 F__law_digit (gCons (gVar 0) (gCons (gC (.int 4)) gNil))))
  (gSeq (gIf (gTst (gBin oEq (gVar 2) (gC (.int 0)))) (gRet (gCall 2 F__law_digit (gCons (gVar 0) (gCons (gC (.int 4)) gNil)))) gNext)
  (gSeq (gIf (gTst (gBin oEq (gVar 2) (gC (.int 1)))) (gRet (gBin oSub (gVar 1) (gCall 2 F__law_digit (gCons (gVar 0) (gCons (gC (.int 4)) gNil))))) gNext)
  (gRet (gCall 2 F__law_digit (gCons (gVar 0) (gCons (gBin oAdd (gVar 1) (gC (.int 1))) gNil)))))))
noncomputable def F__law_line : List Wv → Hs → Re Wv := fnF 3 g__law_line
noncomputable def c__law_line : Ct where
  N := ["row", "last", "way"]
  names := (defScope s__law_line).names
  consts := []
  bl := []
  fns := [("_law_digit", 2, F__law_digit)]
  tb := tbl
  tt := tblT
  tc := tblC
  clss := []
  cln := []
  dcs := []
  dts := []
  dks := []
theorem r__law_line : compS 30 (c__law_line) (defBody s__law_line) = g__law_line := by kernel_rfl
theorem sc__law_line : FnScope (c__law_line).N ["row", "last"] (defScope s__law_line) := ⟨rfl, rfl, rfl, by decide +kernel, rfl, by decide +kernel, by decide +kernel⟩
abbrev s__law_spot_at : Stmt := top 29
noncomputable def g__law_spot_at : GS := (gRet (gTup (gCons (gCall 2 F__law_line (gCons (gVar 0) (gCons (gC (.int 98)) gNil))) (gCons (gCall 2 F__law_line (gCons (gVar 0) (gCons (gC (.int 25)) gNil))) gNil))))
noncomputable def F__law_spot_at : List Wv → Hs → Re Wv := fnF 1 g__law_spot_at
noncomputable def c__law_spot_at : Ct where
  N := ["row"]
  names := (defScope s__law_spot_at).names
  consts := []
  bl := []
  fns := [("_law_line", 2, F__law_line)]
  tb := tbl
  tt := tblT
  tc := tblC
  clss := []
  cln := []
  dcs := []
  dts := []
  dks := []
theorem r__law_spot_at : compS 30 (c__law_spot_at) (defBody s__law_spot_at) = g__law_spot_at := by kernel_rfl
theorem sc__law_spot_at : FnScope (c__law_spot_at).N ["row"] (defScope s__law_spot_at) := ⟨rfl, rfl, rfl, by decide +kernel, rfl, by decide +kernel, by decide +kernel⟩
abbrev s__law_any_area : Stmt := top 30
noncomputable def g__law_any_area : GS := (gSeq (gSet 1 (gCall 2 F__law_line (gCons (gVar 0) (gCons (gC (.int 98)) gNil))))
  (gSeq (gSet 2 (gCall 2 F__law_line (gCons (gVar 0) (gCons (gC (.int 25)) gNil))))
  (gSeq (gIf (gTst (gBin oEq (gCall 2 F__law_digit (gCons (gVar 0) (gCons (gC (.int 9)) gNil))) (gC (.int 1)))) (gRet (gTup (gCons (gC (.int 0)) (gCons (gVar 2) (gCons (gC (.int 98)) (gCons (gCallB oMin2 (gCons (gC (.int 25)) (gCons (gBin oAdd (gVar 2) (gCall 2 F__law_digit (gCons (gVar 0) (gCons (gC (.int 3)) gNil)))) gNil))) gNil)))))) gNext)
  (gRet (gTup (gCons (gVar 1) (gCons (gVar 2) (gCons (gCallB oMin2 (gCons (gC (.int 98)) (gCons (gBin oAdd (gVar 1) (gCall 2 F__law_digit (gCons (gVar 0) (gCons (gC (.int 5)) gNil)))) gNil))) (gCons (gCallB oMin2 (gCons (gC (.int 25)) (gCons (gBin oAdd (gVar 2) (gCall 2 F__law_digit (gCons (gVar 0) (gCons (gC (.int 4)) gNil)))) gNil))) gNil)))))))))
noncomputable def F__law_any_area : List Wv → Hs → Re Wv := fnF 3 g__law_any_area
noncomputable def c__law_any_area : Ct where
  N := ["row", "top", "left"]
  names := (defScope s__law_any_area).names
  consts := []
  bl := ["min"]
  fns := [("_law_line", 2, F__law_line), ("_law_digit", 2, F__law_digit)]
  tb := tbl
  tt := tblT
  tc := tblC
  clss := []
  cln := []
  dcs := []
  dts := []
  dks := []
theorem r__law_any_area : compS 30 (c__law_any_area) (defBody s__law_any_area) = g__law_any_area := by kernel_rfl
theorem sc__law_any_area : FnScope (c__law_any_area).N ["row"] (defScope s__law_any_area) := ⟨rfl, rfl, rfl, by decide +kernel, rfl, by decide +kernel, by decide +kernel⟩
abbrev s__law_some_pins : Stmt := top 31
noncomputable def g__law_some_pins_C1t : GT := (fun _ st => .ok true st)
noncomputable def g__law_some_pins_C1e : GE := (gCall 2 F__law_digit (gCons (gVar 1) (gCons (gC (.int 2)) gNil)))
noncomputable def g__law_some_pins : GS := (gRet (gCallB oTupC (gCons (gComp [("row", 0)] (giR1 (gCons (gVar 1) gNil)) g__law_some_pins_C1t g__law_some_pins_C1e) gNil)))
noncomputable def F__law_some_pins : List Wv → Hs → Re Wv := fnF 2 g__law_some_pins
noncomputable def c__law_some_pins : Ct where
  N := ["row", "many"]
  names := (defScope s__law_some_pins).names
  consts := []
  bl := ["tuple", "range"]
  fns := [("_law_digit", 2, F__law_digit)]
  tb := tbl
  tt := tblT
  tc := tblC
  clss := []
  cln := []
  dcs := []
  dts := []
  dks := []
theorem r__law_some_pins : compS 30 (c__law_some_pins) (defBody s__law_some_pins) = g__law_some_pins := by kernel_rfl
theorem sc__law_some_pins : FnScope (c__law_some_pins).N ["row", "many"] (defScope s__law_some_pins) := ⟨rfl, rfl, rfl, by decide +kernel, rfl, by decide +kernel, by decide +kernel⟩
abbrev s__law_any_leaf : Stmt := top 32
noncomputable def g__law_any_leaf : GS := (gSeq (gSet 1 (gCall 2 F__law_digit (gCons (gVar 0) (gCons (gC (.int 7)) gNil))))
  (gSeq (gIf (gTst (gBin oEq (gVar 1) (gC (.int 0)))) (gRet (gTup (gCons (gC (.str "num")) (gCons (gBin oIx (gLst (gCons (gCall 2 F__law_digit (gCons (gVar 0) (gCons (gC (.int 10)) gNil))) (gCons (gBin oSub (gBin oPow (gC (.int 10)) (gC (.int 60))) (gCall 2 F__law_digit (gCons (gVar 0) (gCons (gC (.int 2)) gNil)))) gNil))) (gCall 2 F__law_digit (gCons (gVar 0) (gCons (gC (.int 2)) gNil)))) gNil)))) gNext)
  (gSeq (gIf (gTst (gBin oEq (gVar 1) (gC (.int 1)))) (gRet (gTup (gCons (gC (.str "text")) (gCons (gBin oIx (gLst (gCons (gC (.str "")) (gCons (gC (.str "a1")) (gCons (gC (.str "$b")) (gCons (gC (.str "no")) gNil))))) (gCall 2 F__law_digit (gCons (gVar 0) (gCons (gC (.int 4)) gNil)))) gNil)))) gNext)
  (gSeq (gIf (gTst (gBin oEq (gVar 1) (gC (.int 2)))) (gRet (gTup (gCons (gC (.str "lost")) gNil))) gNext)
  (gSeq (gIf (gTst (gBin oLt (gVar 1) (gC (.int 5)))) (gRet (gTup (gCons (gC (.str "at")) (gCons (gCall 1 F__law_spot_at (gCons (gVar 0) gNil)) (gCons (gCall 2 F__law_some_pins (gCons (gVar 0) (gCons (gC (.int 2)) gNil))) gNil))))) gNext)
  (gRet (gTup (gCons (gBin oIx (gLst (gCons (gC (.str "sum")) (gCons (gC (.str "count")) (gCons (gC (.str "least")) (gCons (gC (.str "greatest")) gNil))))) (gCall 2 F__law_digit (gCons (gVar 0) (gCons (gC (.int 4)) gNil)))) (gCons (gCall 1 F__law_any_area (gCons (gVar 0) gNil)) (gCons (gCall 2 F__law_some_pins (gCons (gVar 0) (gCons (gC (.int 4)) gNil))) gNil))))))))))
noncomputable def F__law_any_leaf : List Wv → Hs → Re Wv := fnF 2 g__law_any_leaf
noncomputable def c__law_any_leaf : Ct where
  N := ["row", "way"]
  names := (defScope s__law_any_leaf).names
  consts := []
  bl := []
  fns := [("_law_digit", 2, F__law_digit), ("_law_any_area", 1, F__law_any_area), ("_law_some_pins", 2, F__law_some_pins), ("_law_spot_at", 1, F__law_spot_at)]
  tb := tbl
  tt := tblT
  tc := tblC
  clss := []
  cln := []
  dcs := []
  dts := []
  dks := []
theorem r__law_any_leaf : compS 30 (c__law_any_leaf) (defBody s__law_any_leaf) = g__law_any_leaf := by kernel_rfl
theorem sc__law_any_leaf : FnScope (c__law_any_leaf).N ["row"] (defScope s__law_any_leaf) := ⟨rfl, rfl, rfl, by decide +kernel, rfl, by decide +kernel, by decide +kernel⟩
abbrev s__law_any_formula : Stmt := top 33
noncomputable def g__law_any_formula (F__law_any_formula : List Wv → Hs → Re Wv) : GS := (gSeq (gSet 2 (gCall 2 F__law_digit (gCons (gVar 0) (gCons (gC (.int 14)) gNil))))
  (gSeq (gIf (gOr (gTst (gBin oEq (gVar 1) (gC (.int 0)))) (gTst (gBin oLt (gVar 2) (gC (.int 3))))) (gRet (gCall 1 F__law_any_leaf (gCons (gVar 0) gNil))) gNext)
  (gSeq (gSet 3 (gCall 2 F__law_any_formula (gCons (gVar 0) (gCons (gBin oSub (gVar 1) (gC (.int 1))) gNil))))
  (gSeq (gIf (gTst (gBin oEq (gVar 2) (gC (.int 3)))) (gRet (gTup (gCons (gBin oIx (gLst (gCons (gC (.str "minus")) (gCons (gC (.str "not")) gNil))) (gCall 2 F__law_digit (gCons (gVar 0) (gCons (gC (.int 2)) gNil)))) (gCons (gVar 3) gNil)))) gNext)
  (gSeq (gIf (gTst (gBin oLt (gVar 2) (gC (.int 6)))) (gRet (gTup (gCons (gC (.str "find")) (gCons (gVar 3) (gCons (gCall 1 F__law_any_area (gCons (gVar 0) gNil)) (gCons (gCall 2 F__law_some_pins (gCons (gVar 0) (gCons (gC (.int 4)) gNil))) gNil)))))) gNext)
  (gSeq (gSet 4 (gCall 2 F__law_any_formula (gCons (gVar 0) (gCons (gBin oSub (gVar 1) (gC (.int 1))) gNil))))
  (gSeq (gIf (gTst (gBin oLt (gVar 2) (gC (.int 8)))) (gRet (gTup (gCons (gC (.str "if")) (gCons (gVar 3) (gCons (gVar 4) (gCons (gCall 2 F__law_any_formula (gCons (gVar 0) (gCons (gBin oSub (gVar 1) (gC (.int 1))) gNil))) gNil)))))) gNext)
  (gRet (gTup (gCons (gBin oIx (gLst (gCons (gC (.str "else")) (gCons (gC (.str "rest")) (gCons (gC (.str "+")) (gCons (gC (.str "-")) (gCons (gC (.str "*")) (gCons (gC (.str "/")) (gCons (gC (.str "&")) (gCons (gC (.str "<")) (gCons (gC (.str "=")) gNil)))))))))) (gCall 2 F__law_digit (gCons (gVar 0) (gCons (gC (.int 9)) gNil)))) (gCons (gVar 3) (gCons (gVar 4) gNil))))))))))))
noncomputable def c__law_any_formula (F__law_any_formula : List Wv → Hs → Re Wv) : Ct where
  N := ["row", "deep", "way", "one", "other"]
  names := (defScope s__law_any_formula).names
  consts := []
  bl := []
  fns := [("_law_digit", 2, F__law_digit), ("_law_any_formula", 2, F__law_any_formula), ("_law_any_leaf", 1, F__law_any_leaf), ("_law_any_area", 1, F__law_any_area), ("_law_some_pins", 2, F__law_some_pins)]
  tb := tbl
  tt := tblT
  tc := tblC
  clss := []
  cln := []
  dcs := []
  dts := []
  dks := []
theorem r__law_any_formula (F__law_any_formula : List Wv → Hs → Re Wv) : compS 30 (c__law_any_formula F__law_any_formula) (defBody s__law_any_formula) = g__law_any_formula F__law_any_formula := by kernel_rfl
theorem sc__law_any_formula (F__law_any_formula : List Wv → Hs → Re Wv) : FnScope ["row", "deep", "way", "one", "other"] ["row", "deep"] (defScope s__law_any_formula) := ⟨rfl, rfl, rfl, by decide +kernel, rfl, by decide +kernel, by decide +kernel⟩
noncomputable def RR__law_any_formula : Nat → (List Wv → Hs → Re Wv)
  | 0 => fBad
  | n + 1 => fnF 5 (g__law_any_formula ((RR__law_any_formula n)))
noncomputable def R__law_any_formula (n : Nat) : List Wv → Hs → Re Wv := (RR__law_any_formula n)
theorem R__law_any_formula_succ (n : Nat) : R__law_any_formula (n + 1) = fnF 5 (g__law_any_formula (R__law_any_formula n)) := rfl
noncomputable def F__law_any_formula : List Wv → Hs → Re Wv := R__law_any_formula 6
abbrev s_part_many : Stmt := top 12
noncomputable def g_part_many : GS := (gRet (gDcIx d_PART_COUNTS (gVar 0)))
noncomputable def F_part_many : List Wv → Hs → Re Wv := fnF 1 g_part_many
noncomputable def c_part_many : Ct where
  N := ["word"]
  names := (defScope s_part_many).names
  consts := []
  bl := []
  fns := []
  tb := tbl
  tt := tblT
  tc := tblC
  clss := []
  cln := []
  dcs := [("PART_COUNTS", d_PART_COUNTS)]
  dts := []
  dks := []
theorem r_part_many : compS 30 (c_part_many) (defBody s_part_many) = g_part_many := by kernel_rfl
theorem sc_part_many : FnScope (c_part_many).N ["word"] (defScope s_part_many) := ⟨rfl, rfl, rfl, by decide +kernel, rfl, by decide +kernel, by decide +kernel⟩
abbrev s_tail_of : Stmt := top 15
noncomputable def g_tail_of : GS := (gRet (gSlice2 (gVar 0) (gPart (gBin oAdd (gC (.int 1)) (gCall 1 F_part_many (gCons (gBin oIx (gVar 0) (gC (.int 0))) gNil)))) gNoPart))
noncomputable def F_tail_of : List Wv → Hs → Re Wv := fnF 1 g_tail_of
noncomputable def c_tail_of : Ct where
  N := ["formula"]
  names := (defScope s_tail_of).names
  consts := []
  bl := []
  fns := [("part_many", 1, F_part_many)]
  tb := tbl
  tt := tblT
  tc := tblC
  clss := []
  cln := []
  dcs := []
  dts := []
  dks := []
theorem r_tail_of : compS 30 (c_tail_of) (defBody s_tail_of) = g_tail_of := by kernel_rfl
theorem sc_tail_of : FnScope (c_tail_of).N ["formula"] (defScope s_tail_of) := ⟨rfl, rfl, rfl, by decide +kernel, rfl, by decide +kernel, by decide +kernel⟩
abbrev s_has_area : Stmt := top 13
noncomputable def g_has_area : GS := (gRet (gBin oIn2 (gVar 0) (gC (.ktp [.str "sum", .str "count", .str "least", .str "greatest", .str "find"]))))
noncomputable def F_has_area : List Wv → Hs → Re Wv := fnF 1 g_has_area
noncomputable def c_has_area : Ct where
  N := ["word"]
  names := (defScope s_has_area).names
  consts := [("AREA_WORDS", (.ktp [.str "sum", .str "count", .str "least", .str "greatest", .str "find"]))]
  bl := []
  fns := []
  tb := tbl
  tt := tblT
  tc := tblC
  clss := []
  cln := []
  dcs := []
  dts := []
  dks := []
theorem r_has_area : compS 30 (c_has_area) (defBody s_has_area) = g_has_area := by kernel_rfl
theorem sc_has_area : FnScope (c_has_area).N ["word"] (defScope s_has_area) := ⟨rfl, rfl, rfl, by decide +kernel, rfl, by decide +kernel, by decide +kernel⟩
abbrev s_parts_of : Stmt := top 14
noncomputable def g_parts_of : GS := (gRet (gSlice2 (gVar 0) (gPart (gC (.int 1))) (gPart (gBin oAdd (gC (.int 1)) (gCall 1 F_part_many (gCons (gBin oIx (gVar 0) (gC (.int 0))) gNil))))))
noncomputable def F_parts_of : List Wv → Hs → Re Wv := fnF 1 g_parts_of
noncomputable def c_parts_of : Ct where
  N := ["formula"]
  names := (defScope s_parts_of).names
  consts := []
  bl := []
  fns := [("part_many", 1, F_part_many)]
  tb := tbl
  tt := tblT
  tc := tblC
  clss := []
  cln := []
  dcs := []
  dts := []
  dks := []
theorem r_parts_of : compS 30 (c_parts_of) (defBody s_parts_of) = g_parts_of := by kernel_rfl
theorem sc_parts_of : FnScope (c_parts_of).N ["formula"] (defScope s_parts_of) := ⟨rfl, rfl, rfl, by decide +kernel, rfl, by decide +kernel, by decide +kernel⟩
abbrev s_rebuilt : Stmt := top 16
noncomputable def g_rebuilt_C1t (p : Lm) (L : LF) (F_rebuilt : List Wv → Hs → Re Wv) : GT := (fun _ st => .ok true st)
noncomputable def g_rebuilt_C1e (p : Lm) (L : LF) (F_rebuilt : List Wv → Hs → Re Wv) : GE := (gCall 2 F_rebuilt (gCons (gVar 0) (gCons (gVar 1) gNil)))
noncomputable def g_rebuilt (p : Lm) (L : LF) (F_rebuilt : List Wv → Hs → Re Wv) : GS := (gSeq (gSet 2 (gBin oIx (gVar 0) (gC (.int 0))))
  (gSeq (gSet 3 (gCall 1 F_tail_of (gCons (gVar 0) gNil)))
  (gSeq (gIf (gOr (gTst (gBin oEq (gVar 2) (gC (.str "at")))) (gTru (gCall 1 F_has_area (gCons (gVar 2) gNil)))) (gSeq (gSet 4 (gCallF p 3 L 1 (gCons (gVar 2) (gCons (gBin oIx (gVar 3) (gC (.int 0))) (gCons (gBin oIx (gVar 3) (gC (.int 1))) gNil)))))
    (gSeq (gIf (gTst (gBin oIs (gVar 4) (gC .non))) (gRet (gTup (gCons (gC (.str "lost")) gNil))) gNext)
    (gSet 3 (gTup (gCons (gVar 4) (gCons (gBin oIx (gVar 3) (gC (.int 1))) gNil)))))) gNext)
  (gRet (gBin oAdd (gBin oAdd (gTup (gCons (gVar 2) gNil)) (gCallB oTupC (gCons (gComp [("goes", 1)] (giSeq2 (gCall 1 F_parts_of (gCons (gVar 0) gNil))) (g_rebuilt_C1t p L F_rebuilt) (g_rebuilt_C1e p L F_rebuilt)) gNil))) (gVar 3))))))
noncomputable def c_rebuilt (p : Lm) (L : LF) (F_rebuilt : List Wv → Hs → Re Wv) : Ct where
  N := ["formula", "goes", "word", "tail", "spot"]
  names := (defScope s_rebuilt).names
  consts := []
  bl := ["tuple"]
  fns := [("tail_of", 1, F_tail_of), ("has_area", 1, F_has_area), ("rebuilt", 2, F_rebuilt), ("parts_of", 1, F_parts_of)]
  tb := tbl
  tt := tblT
  tc := tblC
  clss := []
  cln := []
  dcs := []
  dts := []
  dks := []
  lam := some (p, L)
theorem r_rebuilt (p : Lm) (L : LF) (F_rebuilt : List Wv → Hs → Re Wv) : compS 30 (c_rebuilt p L F_rebuilt) (defBody s_rebuilt) = g_rebuilt p L F_rebuilt := by kernel_rfl
theorem sc_rebuilt (p : Lm) (L : LF) (F_rebuilt : List Wv → Hs → Re Wv) : FnScope ["formula", "goes", "word", "tail", "spot"] ["formula", "goes"] (defScope s_rebuilt) := ⟨rfl, rfl, rfl, by decide +kernel, rfl, by decide +kernel, by decide +kernel⟩
noncomputable def RR_rebuilt (p : Lm) (L : LF) : Nat → (List Wv → Hs → Re Wv)
  | 0 => fBad
  | n + 1 => fnF 5 (g_rebuilt p L ((RR_rebuilt p L n)))
noncomputable def R_rebuilt (p : Lm) (L : LF) (n : Nat) : List Wv → Hs → Re Wv := (RR_rebuilt p L n)
theorem R_rebuilt_succ (p : Lm) (L : LF) (n : Nat) : R_rebuilt p L (n + 1) = fnF 5 (g_rebuilt p L (R_rebuilt p L n)) := rfl
noncomputable def F_rebuilt : FLt := fun p L => R_rebuilt p L 8
abbrev s_stepped : Stmt := top 20
noncomputable def g_stepped_C1t : GT := (fun _ st => .ok true st)
noncomputable def g_stepped_C1e : GE := (gIfE (gTst (gBin oEq (gVar 1) (gC (.int 1)))) (gVar 0) (gBin oAdd (gVar 0) (gVar 2)))
noncomputable def g_stepped : GS := (gRet (gCallB oTupC (gCons (gComp2 3 [] (giZip (gCons (gVar 0) (gCons (gVar 1) (gCons (gBin oAdd (gVar 2) (gVar 2)) gNil)))) g_stepped_C1t g_stepped_C1e) gNil)))
noncomputable def F_stepped : List Wv → Hs → Re Wv := fnF 3 g_stepped
noncomputable def c_stepped : Ct where
  N := ["spot", "pins", "steps"]
  names := (defScope s_stepped).names
  consts := []
  bl := ["tuple", "zip"]
  fns := []
  tb := tbl
  tt := tblT
  tc := tblC
  clss := []
  cln := []
  dcs := []
  dts := []
  dks := []
theorem r_stepped : compS 30 (c_stepped) (defBody s_stepped) = g_stepped := by kernel_rfl
theorem sc_stepped : FnScope (c_stepped).N ["spot", "pins", "steps"] (defScope s_stepped) := ⟨rfl, rfl, rfl, by decide +kernel, rfl, by decide +kernel, by decide +kernel⟩
abbrev s_form_of : Stmt := top 18
noncomputable def g_form_of_M1 : GE := (gCall 3 F_stepped (gCons (gVar 1) (gCons (gVar 2) (gCons (gVar 3) gNil))))
noncomputable def g_form_of : GS := (gSeq (gSet 2 (gTup (gCons (gUn opNeg (gBin oIx (gVar 1) (gC (.int 0)))) (gCons (gUn opNeg (gBin oIx (gVar 1) (gC (.int 1)))) gNil))))
  (gRet (gLam F_rebuilt 2 (gVar 0) g_form_of_M1)))
noncomputable def F_form_of : List Wv → Hs → Re Wv := fnF 3 g_form_of
noncomputable def c_form_of : Ct where
  N := ["formula", "place", "back"]
  names := (defScope s_form_of).names
  consts := []
  bl := []
  fns := [("stepped", 3, F_stepped)]
  tb := tbl
  tt := tblT
  tc := tblC
  clss := []
  cln := []
  dcs := []
  dts := []
  dks := []
  fnL := [("rebuilt", F_rebuilt)]
  lfn := ["stepped"]
  lj := 4
  self := "form_of"
theorem r_form_of : compS 30 (c_form_of) (defBody s_form_of) = g_form_of := by kernel_rfl
theorem sc_form_of : FnScope (c_form_of).N ["formula", "place"] (defScope s_form_of) := ⟨rfl, rfl, rfl, by decide +kernel, rfl, by decide +kernel, by decide +kernel⟩
abbrev s__law_led : Stmt := top 35
noncomputable def g__law_led_L1 : GS := (gExpr (gMeth mApp (gVar 4) (gBin oAdd (gBin oIx (gVar 0) (gVar 5)) (gBin oMulL (gBin oSub (gC (.int 1)) (gBin oIx (gVar 1) (gVar 5))) (gBin oSub (gBin oIx (gVar 3) (gBin oMod (gVar 5) (gC (.int 2)))) (gBin oIx (gVar 2) (gBin oMod (gVar 5) (gC (.int 2)))))))))
noncomputable def g__law_led : GS := (gSeq (gSet 4 (gLst gNil))
  (gSeq (gForR1 5 (gCons (gCallB oLen (gCons (gVar 0) gNil)) gNil) g__law_led_L1)
  (gRet (gCallB oTupC (gCons (gVar 4) gNil)))))
noncomputable def F__law_led : List Wv → Hs → Re Wv := fnF 6 g__law_led
noncomputable def c__law_led : Ct where
  N := ["lines", "pins", "here", "there", "found", "k"]
  names := (defScope s__law_led).names
  consts := []
  bl := ["range", "tuple", "len"]
  fns := []
  tb := tbl
  tt := tblT
  tc := tblC
  clss := []
  cln := []
  dcs := []
  dts := []
  dks := []
theorem r__law_led : compS 30 (c__law_led) (defBody s__law_led) = g__law_led := by kernel_rfl
theorem sc__law_led : FnScope (c__law_led).N ["lines", "pins", "here", "there"] (defScope s__law_led) := ⟨rfl, rfl, rfl, by decide +kernel, rfl, by decide +kernel, by decide +kernel⟩
abbrev s__law_fits : Stmt := top 34
noncomputable def g__law_fits_L1 : GS := (gIf (gNot (gTst (gChain oLe oLe (gC (.int 0)) (gBin oIx (gVar 0) (gVar 1)) (gBin oIx (gLst (gCons (gC (.int 98)) (gCons (gC (.int 25)) gNil))) (gBin oMod (gVar 1) (gC (.int 2))))))) (gRet (gC (.bl false))) gNext)
noncomputable def g__law_fits : GS := (gSeq (gForR1 1 (gCons (gCallB oLen (gCons (gVar 0) gNil)) gNil) g__law_fits_L1)
  (gSeq (gIf (gTst (gBin oEq (gCallB oLen (gCons (gVar 0) gNil)) (gC (.int 2)))) (gRet (gC (.bl true))) gNext)
  (gSeq (gSet 2 (gBin oAdd (gBin oSub (gBin oIx (gVar 0) (gC (.int 2))) (gBin oIx (gVar 0) (gC (.int 0)))) (gC (.int 1))))
  (gRet (gAndV (gBin oLe (gBin oIx (gVar 0) (gC (.int 0))) (gBin oIx (gVar 0) (gC (.int 2)))) (gAndV (gBin oLe (gBin oIx (gVar 0) (gC (.int 1))) (gBin oIx (gVar 0) (gC (.int 3)))) (gBin oLe (gBin oMulL (gVar 2) (gBin oAdd (gBin oSub (gBin oIx (gVar 0) (gC (.int 3))) (gBin oIx (gVar 0) (gC (.int 1)))) (gC (.int 1)))) (gC (.int 300)))))))))
noncomputable def F__law_fits : List Wv → Hs → Re Wv := fnF 3 g__law_fits
noncomputable def c__law_fits : Ct where
  N := ["lines", "k", "high"]
  names := (defScope s__law_fits).names
  consts := []
  bl := ["range", "len"]
  fns := []
  tb := tbl
  tt := tblT
  tc := tblC
  clss := []
  cln := []
  dcs := []
  dts := []
  dks := []
theorem r__law_fits : compS 30 (c__law_fits) (defBody s__law_fits) = g__law_fits := by kernel_rfl
theorem sc__law_fits : FnScope (c__law_fits).N ["lines"] (defScope s__law_fits) := ⟨rfl, rfl, rfl, by decide +kernel, rfl, by decide +kernel, by decide +kernel⟩
abbrev s__law_copied : Stmt := top 36
noncomputable def g__law_copied_C1t (F__law_copied : List Wv → Hs → Re Wv) : GT := (fun _ st => .ok true st)
noncomputable def g__law_copied_C1e (F__law_copied : List Wv → Hs → Re Wv) : GE := (gCall 3 F__law_copied (gCons (gVar 0) (gCons (gVar 1) (gCons (gVar 2) gNil))))
noncomputable def g__law_copied_C2t (F__law_copied : List Wv → Hs → Re Wv) : GT := (fun _ st => .ok true st)
noncomputable def g__law_copied_C2e (F__law_copied : List Wv → Hs → Re Wv) : GE := (gCall 3 F__law_copied (gCons (gVar 0) (gCons (gVar 1) (gCons (gVar 2) gNil))))
noncomputable def g__law_copied (F__law_copied : List Wv → Hs → Re Wv) : GS := (gSeq (gSet 3 (gBin oIx (gVar 0) (gC (.int 0))))
  (gSeq (gIf (gTst (gBin oIn2 (gVar 3) (gTup (gCons (gC (.str "num")) (gCons (gC (.str "text")) (gCons (gC (.str "lost")) gNil)))))) (gRet (gVar 0)) gNext)
  (gSeq (gIf (gTst (gBin oIn2 (gVar 3) (gTup (gCons (gC (.str "at")) (gCons (gC (.str "sum")) (gCons (gC (.str "count")) (gCons (gC (.str "least")) (gCons (gC (.str "greatest")) (gCons (gC (.str "find")) gNil))))))))) (gSeq (gSet 4 (gCall 4 F__law_led (gCons (gBin oIx (gVar 0) (gUn opNeg (gC (.int 2)))) (gCons (gBin oIx (gVar 0) (gUn opNeg (gC (.int 1)))) (gCons (gVar 1) (gCons (gVar 2) gNil))))))
    (gSeq (gIf (gNot (gTru (gCall 1 F__law_fits (gCons (gVar 4) gNil)))) (gRet (gTup (gCons (gC (.str "lost")) gNil))) gNext)
    (gSeq (gSet 5 (gCallB oTupC (gCons (gComp [("here", 1), ("there", 2)] (giSeq2 (gSlice2 (gVar 0) (gPart (gC (.int 1))) (gPart (gUn opNeg (gC (.int 2)))))) (g__law_copied_C2t F__law_copied) (g__law_copied_C2e F__law_copied)) gNil)))
    (gRet (gBin oAdd (gBin oAdd (gTup (gCons (gVar 3) gNil)) (gVar 5)) (gTup (gCons (gVar 4) (gCons (gBin oIx (gVar 0) (gUn opNeg (gC (.int 1)))) gNil)))))))) gNext)
  (gRet (gBin oAdd (gTup (gCons (gVar 3) gNil)) (gCallB oTupC (gCons (gComp [("here", 1), ("there", 2)] (giSeq2 (gSlice2 (gVar 0) (gPart (gC (.int 1))) gNoPart)) (g__law_copied_C1t F__law_copied) (g__law_copied_C1e F__law_copied)) gNil)))))))
noncomputable def c__law_copied (F__law_copied : List Wv → Hs → Re Wv) : Ct where
  N := ["formula", "here", "there", "word", "lines", "inner"]
  names := (defScope s__law_copied).names
  consts := []
  bl := ["tuple"]
  fns := [("_law_led", 4, F__law_led), ("_law_fits", 1, F__law_fits), ("_law_copied", 3, F__law_copied)]
  tb := tbl
  tt := tblT
  tc := tblC
  clss := []
  cln := []
  dcs := []
  dts := []
  dks := []
theorem r__law_copied (F__law_copied : List Wv → Hs → Re Wv) : compS 30 (c__law_copied F__law_copied) (defBody s__law_copied) = g__law_copied F__law_copied := by kernel_rfl
theorem sc__law_copied (F__law_copied : List Wv → Hs → Re Wv) : FnScope ["formula", "here", "there", "word", "lines", "inner"] ["formula", "here", "there"] (defScope s__law_copied) := ⟨rfl, rfl, rfl, by decide +kernel, rfl, by decide +kernel, by decide +kernel⟩
noncomputable def RR__law_copied : Nat → (List Wv → Hs → Re Wv)
  | 0 => fBad
  | n + 1 => fnF 6 (g__law_copied ((RR__law_copied n)))
noncomputable def R__law_copied (n : Nat) : List Wv → Hs → Re Wv := (RR__law_copied n)
theorem R__law_copied_succ (n : Nat) : R__law_copied (n + 1) = fnF 6 (g__law_copied (R__law_copied n)) := rfl
noncomputable def F__law_copied : List Wv → Hs → Re Wv := R__law_copied 8
abbrev s_is_place : Stmt := top 3
noncomputable def g_is_place : GS := (gRet (gAndV (gChain oLe oLt (gC (.int 0)) (gBin oIx (gVar 0) (gC (.int 0))) (gC (.int 99))) (gChain oLe oLt (gC (.int 0)) (gBin oIx (gVar 0) (gC (.int 1))) (gC (.int 26)))))
noncomputable def F_is_place : List Wv → Hs → Re Wv := fnF 1 g_is_place
noncomputable def c_is_place : Ct where
  N := ["place"]
  names := (defScope s_is_place).names
  consts := [("ROWS", (.int 99)), ("COLUMNS", (.int 26))]
  bl := []
  fns := []
  tb := tbl
  tt := tblT
  tc := tblC
  clss := []
  cln := []
  dcs := []
  dts := []
  dks := []
theorem r_is_place : compS 30 (c_is_place) (defBody s_is_place) = g_is_place := by kernel_rfl
theorem sc_is_place : FnScope (c_is_place).N ["place"] (defScope s_is_place) := ⟨rfl, rfl, rfl, by decide +kernel, rfl, by decide +kernel, by decide +kernel⟩
abbrev s_has_corners : Stmt := top 7
noncomputable def g_has_corners : GS := (gSeq (gSet 1 (gAndV (gBin oLe (gBin oIx (gVar 0) (gC (.int 0))) (gBin oIx (gVar 0) (gC (.int 2)))) (gBin oLe (gBin oIx (gVar 0) (gC (.int 1))) (gBin oIx (gVar 0) (gC (.int 3))))))
  (gRet (gAndV (gVar 1) (gAndV (gCall 1 F_is_place (gCons (gSlice2 (gVar 0) gNoPart (gPart (gC (.int 2)))) gNil)) (gCall 1 F_is_place (gCons (gSlice2 (gVar 0) (gPart (gC (.int 2))) gNoPart) gNil))))))
noncomputable def F_has_corners : List Wv → Hs → Re Wv := fnF 2 g_has_corners
noncomputable def c_has_corners : Ct where
  N := ["area", "in_order"]
  names := (defScope s_has_corners).names
  consts := []
  bl := []
  fns := [("is_place", 1, F_is_place)]
  tb := tbl
  tt := tblT
  tc := tblC
  clss := []
  cln := []
  dcs := []
  dts := []
  dks := []
theorem r_has_corners : compS 30 (c_has_corners) (defBody s_has_corners) = g_has_corners := by kernel_rfl
theorem sc_has_corners : FnScope (c_has_corners).N ["area"] (defScope s_has_corners) := ⟨rfl, rfl, rfl, by decide +kernel, rfl, by decide +kernel, by decide +kernel⟩
abbrev s_area_many : Stmt := top 8
noncomputable def g_area_many : GS := (gRet (gBin oMulL (gBin oAdd (gBin oSub (gBin oIx (gVar 0) (gC (.int 2))) (gBin oIx (gVar 0) (gC (.int 0)))) (gC (.int 1))) (gBin oAdd (gBin oSub (gBin oIx (gVar 0) (gC (.int 3))) (gBin oIx (gVar 0) (gC (.int 1)))) (gC (.int 1)))))
noncomputable def F_area_many : List Wv → Hs → Re Wv := fnF 1 g_area_many
noncomputable def c_area_many : Ct where
  N := ["area"]
  names := (defScope s_area_many).names
  consts := []
  bl := []
  fns := []
  tb := tbl
  tt := tblT
  tc := tblC
  clss := []
  cln := []
  dcs := []
  dts := []
  dks := []
theorem r_area_many : compS 30 (c_area_many) (defBody s_area_many) = g_area_many := by kernel_rfl
theorem sc_area_many : FnScope (c_area_many).N ["area"] (defScope s_area_many) := ⟨rfl, rfl, rfl, by decide +kernel, rfl, by decide +kernel, by decide +kernel⟩
abbrev s_is_area : Stmt := top 6
noncomputable def g_is_area : GS := (gRet (gAndV (gCall 1 F_has_corners (gCons (gVar 0) gNil)) (gBin oLe (gCall 1 F_area_many (gCons (gVar 0) gNil)) (gC (.int 300)))))
noncomputable def F_is_area : List Wv → Hs → Re Wv := fnF 1 g_is_area
noncomputable def c_is_area : Ct where
  N := ["area"]
  names := (defScope s_is_area).names
  consts := [("MOST_PLACES", (.int 300))]
  bl := []
  fns := [("has_corners", 1, F_has_corners), ("area_many", 1, F_area_many)]
  tb := tbl
  tt := tblT
  tc := tblC
  clss := []
  cln := []
  dcs := []
  dts := []
  dks := []
theorem r_is_area : compS 30 (c_is_area) (defBody s_is_area) = g_is_area := by kernel_rfl
theorem sc_is_area : FnScope (c_is_area).N ["area"] (defScope s_is_area) := ⟨rfl, rfl, rfl, by decide +kernel, rfl, by decide +kernel, by decide +kernel⟩
abbrev s_spot_by : Stmt := top 21
noncomputable def g_spot_by : GS := (gSeq (gSet 1 (gIfE (gTst (gBin oEq (gCallB oLen (gCons (gVar 0) gNil)) (gC (.int 2)))) (gCall 1 F_is_place (gCons (gVar 0) gNil)) (gCall 1 F_is_area (gCons (gVar 0) gNil))))
  (gRet (gIfE (gTru (gVar 1)) (gVar 0) (gC .non))))
noncomputable def F_spot_by : List Wv → Hs → Re Wv := fnF 2 g_spot_by
noncomputable def c_spot_by : Ct where
  N := ["spot", "is_one"]
  names := (defScope s_spot_by).names
  consts := []
  bl := ["len"]
  fns := [("is_place", 1, F_is_place), ("is_area", 1, F_is_area)]
  tb := tbl
  tt := tblT
  tc := tblC
  clss := []
  cln := []
  dcs := []
  dts := []
  dks := []
theorem r_spot_by : compS 30 (c_spot_by) (defBody s_spot_by) = g_spot_by := by kernel_rfl
theorem sc_spot_by : FnScope (c_spot_by).N ["spot"] (defScope s_spot_by) := ⟨rfl, rfl, rfl, by decide +kernel, rfl, by decide +kernel, by decide +kernel⟩
abbrev s_formula_by : Stmt := top 19
noncomputable def g_formula_by_M1 : GE := (gCall 1 F_spot_by (gCons (gCall 3 F_stepped (gCons (gVar 1) (gCons (gVar 2) (gCons (gVar 3) gNil)))) gNil))
noncomputable def g_formula_by : GS := (gRet (gLam F_rebuilt 1 (gVar 0) g_formula_by_M1))
noncomputable def F_formula_by : List Wv → Hs → Re Wv := fnF 2 g_formula_by
noncomputable def c_formula_by : Ct where
  N := ["form", "place"]
  names := (defScope s_formula_by).names
  consts := []
  bl := []
  fns := [("spot_by", 1, F_spot_by), ("stepped", 3, F_stepped)]
  tb := tbl
  tt := tblT
  tc := tblC
  clss := []
  cln := []
  dcs := []
  dts := []
  dks := []
  fnL := [("rebuilt", F_rebuilt)]
  lfn := ["spot_by", "stepped"]
  lj := 4
  self := "formula_by"
theorem r_formula_by : compS 30 (c_formula_by) (defBody s_formula_by) = g_formula_by := by kernel_rfl
theorem sc_formula_by : FnScope (c_formula_by).N ["form", "place"] (defScope s_formula_by) := ⟨rfl, rfl, rfl, by decide +kernel, rfl, by decide +kernel, by decide +kernel⟩
abbrev s__law_other : Stmt := top 38
noncomputable def g__law_other (F__law_other : List Wv → Hs → Re Wv) : GS := (gSeq (gSet 2 (gBin oIx (gVar 0) (gC (.int 0))))
  (gSeq (gIf (gTst (gBin oEq (gVar 2) (gC (.str "num")))) (gRet (gTup (gCons (gC (.str "num")) (gCons (gBin oAdd (gBin oFdiv (gBin oIx (gVar 0) (gC (.int 1))) (gC (.int 2))) (gBin oMod (gVar 1) (gC (.int 2)))) gNil)))) gNext)
  (gSeq (gIf (gTst (gBin oIn2 (gVar 2) (gTup (gCons (gC (.str "text")) (gCons (gC (.str "lost")) gNil))))) (gRet (gVar 0)) gNext)
  (gSeq (gIf (gTst (gBin oIn2 (gVar 2) (gTup (gCons (gC (.str "at")) (gCons (gC (.str "sum")) (gCons (gC (.str "count")) (gCons (gC (.str "least")) (gCons (gC (.str "greatest")) (gCons (gC (.str "find")) gNil))))))))) (gSeq (gSet 3 (gBin oMod (gVar 1) (gCallB oLen (gCons (gBin oIx (gVar 0) (gUn opNeg (gC (.int 1)))) gNil))))
    (gSeq (gIf (gTst (gBin oEq (gBin oMod (gBin oFdiv (gVar 1) (gC (.int 4))) (gC (.int 2))) (gC (.int 0)))) (gSeq (gSet 4 (gBin oAdd (gBin oAdd (gSlice2 (gBin oIx (gVar 0) (gUn opNeg (gC (.int 1)))) gNoPart (gPart (gVar 3))) (gTup (gCons (gBin oSub (gC (.int 1)) (gBin oIx (gBin oIx (gVar 0) (gUn opNeg (gC (.int 1)))) (gVar 3))) gNil))) (gSlice2 (gBin oIx (gVar 0) (gUn opNeg (gC (.int 1)))) (gPart (gBin oAdd (gVar 3) (gC (.int 1)))) gNoPart)))
      (gRet (gBin oAdd (gSlice2 (gVar 0) gNoPart (gPart (gUn opNeg (gC (.int 1))))) (gTup (gCons (gVar 4) gNil))))) gNext)
    (gSeq (gSet 5 (gBin oAdd (gBin oAdd (gSlice2 (gBin oIx (gVar 0) (gUn opNeg (gC (.int 2)))) gNoPart (gPart (gVar 3))) (gTup (gCons (gBin oAdd (gBin oIx (gBin oIx (gVar 0) (gUn opNeg (gC (.int 2)))) (gVar 3)) (gC (.int 1))) gNil))) (gSlice2 (gBin oIx (gVar 0) (gUn opNeg (gC (.int 2)))) (gPart (gBin oAdd (gVar 3) (gC (.int 1)))) gNoPart)))
    (gRet (gBin oAdd (gSlice2 (gVar 0) gNoPart (gPart (gUn opNeg (gC (.int 2))))) (gTup (gCons (gBin oIx (gLst (gCons (gBin oIx (gVar 0) (gUn opNeg (gC (.int 2)))) (gCons (gVar 5) gNil))) (gCallB oInt2 (gCons (gCall 1 F__law_fits (gCons (gVar 5) gNil)) gNil))) (gCons (gBin oIx (gVar 0) (gUn opNeg (gC (.int 1)))) gNil)))))))) gNext)
  (gSeq (gSet 3 (gBin oAdd (gC (.int 1)) (gBin oMod (gBin oFdiv (gVar 1) (gC (.int 8))) (gBin oSub (gCallB oLen (gCons (gVar 0) gNil)) (gC (.int 1))))))
  (gRet (gBin oAdd (gBin oAdd (gSlice2 (gVar 0) gNoPart (gPart (gVar 3))) (gTup (gCons (gCall 2 F__law_other (gCons (gBin oIx (gVar 0) (gVar 3)) (gCons (gBin oFdiv (gVar 1) (gC (.int 3))) gNil))) gNil))) (gSlice2 (gVar 0) (gPart (gBin oAdd (gVar 3) (gC (.int 1)))) gNoPart))))))))
noncomputable def c__law_other (F__law_other : List Wv → Hs → Re Wv) : Ct where
  N := ["formula", "way", "word", "k", "pins", "lines"]
  names := (defScope s__law_other).names
  consts := []
  bl := ["len", "int"]
  fns := [("_law_other", 2, F__law_other), ("_law_fits", 1, F__law_fits)]
  tb := tbl
  tt := tblT
  tc := tblC
  clss := []
  cln := []
  dcs := []
  dts := []
  dks := []
theorem r__law_other (F__law_other : List Wv → Hs → Re Wv) : compS 30 (c__law_other F__law_other) (defBody s__law_other) = g__law_other F__law_other := by kernel_rfl
theorem sc__law_other (F__law_other : List Wv → Hs → Re Wv) : FnScope ["formula", "way", "word", "k", "pins", "lines"] ["formula", "way"] (defScope s__law_other) := ⟨rfl, rfl, rfl, by decide +kernel, rfl, by decide +kernel, by decide +kernel⟩
noncomputable def RR__law_other : Nat → (List Wv → Hs → Re Wv)
  | 0 => fBad
  | n + 1 => fnF 6 (g__law_other ((RR__law_other n)))
noncomputable def R__law_other (n : Nat) : List Wv → Hs → Re Wv := (RR__law_other n)
theorem R__law_other_succ (n : Nat) : R__law_other (n + 1) = fnF 6 (g__law_other (R__law_other n)) := rfl
noncomputable def F__law_other : List Wv → Hs → Re Wv := R__law_other 8
abbrev s__law_form : Stmt := top 37
noncomputable def g__law_form_C1t (F__law_form : List Wv → Hs → Re Wv) : GT := (fun _ st => .ok true st)
noncomputable def g__law_form_C1e (F__law_form : List Wv → Hs → Re Wv) : GE := (gCall 2 F__law_form (gCons (gVar 0) (gCons (gVar 1) gNil)))
noncomputable def g__law_form_C2t (F__law_form : List Wv → Hs → Re Wv) : GT := (fun _ st => .ok true st)
noncomputable def g__law_form_C2e (F__law_form : List Wv → Hs → Re Wv) : GE := (gCall 2 F__law_form (gCons (gVar 0) (gCons (gVar 1) gNil)))
noncomputable def g__law_form (F__law_form : List Wv → Hs → Re Wv) : GS := (gSeq (gSet 2 (gBin oIx (gVar 0) (gC (.int 0))))
  (gSeq (gIf (gTst (gBin oIn2 (gVar 2) (gTup (gCons (gC (.str "num")) (gCons (gC (.str "text")) (gCons (gC (.str "lost")) gNil)))))) (gRet (gVar 0)) gNext)
  (gSeq (gIf (gTst (gBin oIn2 (gVar 2) (gTup (gCons (gC (.str "at")) (gCons (gC (.str "sum")) (gCons (gC (.str "count")) (gCons (gC (.str "least")) (gCons (gC (.str "greatest")) (gCons (gC (.str "find")) gNil))))))))) (gSeq (gSet 3 (gCallB oTupC (gCons (gComp [("place", 1)] (giSeq2 (gSlice2 (gVar 0) (gPart (gC (.int 1))) (gPart (gUn opNeg (gC (.int 2)))))) (g__law_form_C2t F__law_form) (g__law_form_C2e F__law_form)) gNil)))
    (gRet (gBin oAdd (gBin oAdd (gTup (gCons (gVar 2) gNil)) (gVar 3)) (gTup (gCons (gCall 4 F__law_led (gCons (gBin oIx (gVar 0) (gUn opNeg (gC (.int 2)))) (gCons (gBin oIx (gVar 0) (gUn opNeg (gC (.int 1)))) (gCons (gVar 1) (gCons (gTup (gCons (gC (.int 0)) (gCons (gC (.int 0)) gNil))) gNil))))) (gCons (gBin oIx (gVar 0) (gUn opNeg (gC (.int 1)))) gNil)))))) gNext)
  (gRet (gBin oAdd (gTup (gCons (gVar 2) gNil)) (gCallB oTupC (gCons (gComp [("place", 1)] (giSeq2 (gSlice2 (gVar 0) (gPart (gC (.int 1))) gNoPart)) (g__law_form_C1t F__law_form) (g__law_form_C1e F__law_form)) gNil)))))))
noncomputable def c__law_form (F__law_form : List Wv → Hs → Re Wv) : Ct where
  N := ["formula", "place", "word", "inner"]
  names := (defScope s__law_form).names
  consts := []
  bl := ["tuple"]
  fns := [("_law_form", 2, F__law_form), ("_law_led", 4, F__law_led)]
  tb := tbl
  tt := tblT
  tc := tblC
  clss := []
  cln := []
  dcs := []
  dts := []
  dks := []
theorem r__law_form (F__law_form : List Wv → Hs → Re Wv) : compS 30 (c__law_form F__law_form) (defBody s__law_form) = g__law_form F__law_form := by kernel_rfl
theorem sc__law_form (F__law_form : List Wv → Hs → Re Wv) : FnScope ["formula", "place", "word", "inner"] ["formula", "place"] (defScope s__law_form) := ⟨rfl, rfl, rfl, by decide +kernel, rfl, by decide +kernel, by decide +kernel⟩
noncomputable def RR__law_form : Nat → (List Wv → Hs → Re Wv)
  | 0 => fBad
  | n + 1 => fnF 4 (g__law_form ((RR__law_form n)))
noncomputable def R__law_form (n : Nat) : List Wv → Hs → Re Wv := (RR__law_form n)
theorem R__law_form_succ (n : Nat) : R__law_form (n + 1) = fnF 4 (g__law_form (R__law_form n)) := rfl
noncomputable def F__law_form : List Wv → Hs → Re Wv := R__law_form 8
abbrev s_alike : Stmt := top 22
noncomputable def g_alike : GS := (gRet (gBin oEq (gCall 2 F_form_of (gCons (gVar 0) (gCons (gVar 1) gNil))) (gCall 2 F_form_of (gCons (gVar 2) (gCons (gVar 3) gNil)))))
noncomputable def F_alike : List Wv → Hs → Re Wv := fnF 4 g_alike
noncomputable def c_alike : Ct where
  N := ["one", "here", "other", "there"]
  names := (defScope s_alike).names
  consts := []
  bl := []
  fns := [("form_of", 2, F_form_of)]
  tb := tbl
  tt := tblT
  tc := tblC
  clss := []
  cln := []
  dcs := []
  dts := []
  dks := []
theorem r_alike : compS 30 (c_alike) (defBody s_alike) = g_alike := by kernel_rfl
theorem sc_alike : FnScope (c_alike).N ["one", "here", "other", "there"] (defScope s_alike) := ⟨rfl, rfl, rfl, by decide +kernel, rfl, by decide +kernel, by decide +kernel⟩
abbrev s__law_alike : Stmt := top 39
noncomputable def g__law_alike : GS := (gSeq (gSet 4 (gCall 4 F_alike (gCons (gVar 0) (gCons (gVar 1) (gCons (gVar 2) (gCons (gVar 3) gNil))))))
  (gRet (gAndV (gCallB (oIsA tbl tblT) (gCons (gVar 4) (gCons (gC (.ty "bool")) gNil))) (gBin oEq (gVar 4) (gBin oEq (gCall 2 F__law_form (gCons (gVar 0) (gCons (gVar 1) gNil))) (gCall 2 F__law_form (gCons (gVar 2) (gCons (gVar 3) gNil))))))))
noncomputable def F__law_alike : List Wv → Hs → Re Wv := fnF 5 g__law_alike
noncomputable def c__law_alike : Ct where
  N := ["one", "here", "other", "there", "found"]
  names := (defScope s__law_alike).names
  consts := []
  bl := ["isinstance", "bool"]
  fns := [("alike", 4, F_alike), ("_law_form", 2, F__law_form)]
  tb := tbl
  tt := tblT
  tc := tblC
  clss := []
  cln := []
  dcs := []
  dts := []
  dks := []
theorem r__law_alike : compS 30 (c__law_alike) (defBody s__law_alike) = g__law_alike := by kernel_rfl
theorem sc__law_alike : FnScope (c__law_alike).N ["one", "here", "other", "there"] (defScope s__law_alike) := ⟨rfl, rfl, rfl, by decide +kernel, rfl, by decide +kernel, by decide +kernel⟩
abbrev s_law : Stmt := top 40
noncomputable def g_law_L2 : GS := (gSeq (gIf (gOr (gNot (gTru (gCall 4 F__law_alike (gCons (gVar 5) (gCons (gVar 3) (gCons (gVar 9) (gCons (gVar 4) gNil))))))) (gNot (gTru (gCall 4 F__law_alike (gCons (gVar 9) (gCons (gVar 4) (gCons (gVar 5) (gCons (gVar 3) gNil)))))))) (gRet (gC (.bl false))) gNext)
  (gIf (gNot (gTru (gCall 4 F__law_alike (gCons (gVar 5) (gCons (gVar 3) (gCons (gVar 9) (gCons (gVar 3) gNil))))))) (gRet (gC (.bl false))) gNext))
noncomputable def g_law_L1 : GS := (gSeq (gSet 2 (gCall 2 F__law_stream (gCons (gVar 0) (gCons (gVar 1) gNil))))
  (gSeq (gSet 3 (gCall 1 F__law_spot_at (gCons (gVar 2) gNil)))
  (gSeq (gSet 4 (gCall 1 F__law_spot_at (gCons (gVar 2) gNil)))
  (gSeq (gSet 5 (gCall 2 F__law_any_formula (gCons (gVar 2) (gCons (gC (.int 3)) gNil))))
  (gSeq (gSet 6 (gCall 2 F_form_of (gCons (gVar 5) (gCons (gVar 3) gNil))))
  (gSeq (gIf (gOr (gNot (gTru (gCallB (oIsA tbl tblT) (gCons (gVar 6) (gCons (gC (.ty "tuple")) gNil))))) (gOr (gTst (gBin oNe (gVar 6) (gCall 2 F__law_form (gCons (gVar 5) (gCons (gVar 3) gNil))))) (gTst (gBin oNe (gCall 2 F_formula_by (gCons (gVar 6) (gCons (gVar 3) gNil))) (gVar 5))))) (gRet (gC (.bl false))) gNext)
  (gSeq (gSet 7 (gCall 3 F__law_copied (gCons (gVar 5) (gCons (gVar 3) (gCons (gVar 4) gNil)))))
  (gSeq (gIf (gTst (gBin oNe (gCall 2 F_formula_by (gCons (gVar 6) (gCons (gVar 4) gNil))) (gVar 7))) (gRet (gC (.bl false))) gNext)
  (gSeq (gSet 8 (gCall 2 F__law_mixed (gCons (gCallB oSum (gCons (gVar 0) gNil)) (gCons (gBin oAdd (gC (.int 700)) (gVar 1)) gNil))))
  (gFor 9 (gLst (gCons (gVar 5) (gCons (gVar 7) (gCons (gCall 2 F__law_other (gCons (gVar 5) (gCons (gVar 8) gNil))) (gCons (gCall 2 F__law_other (gCons (gVar 7) (gCons (gBin oFdiv (gVar 8) (gC (.int 64))) gNil))) (gCons (gTup (gCons (gC (.str "lost")) gNil)) gNil)))))) g_law_L2))))))))))
noncomputable def g_law : GS := (gSeq (gForR1 1 (gCons (gC (.int 3)) gNil) g_law_L1)
  (gRet (gC (.bl true))))
noncomputable def F_law : List Wv → Hs → Re Wv := fnF 10 g_law
noncomputable def c_law : Ct where
  N := ["script", "k", "row", "here", "there", "formula", "form", "moved", "way", "other"]
  names := (defScope s_law).names
  consts := []
  bl := ["range", "sum", "isinstance", "tuple"]
  fns := [("_law_stream", 2, F__law_stream), ("_law_spot_at", 1, F__law_spot_at), ("_law_any_formula", 2, F__law_any_formula), ("form_of", 2, F_form_of), ("_law_copied", 3, F__law_copied), ("_law_mixed", 2, F__law_mixed), ("formula_by", 2, F_formula_by), ("_law_other", 2, F__law_other), ("_law_form", 2, F__law_form), ("_law_alike", 4, F__law_alike)]
  tb := tbl
  tt := tblT
  tc := tblC
  clss := []
  cln := []
  dcs := []
  dts := []
  dks := []
theorem r_law : compS 30 (c_law) (defBody s_law) = g_law := by kernel_rfl
theorem sc_law : FnScope (c_law).N ["script"] (defScope s_law) := ⟨rfl, rfl, rfl, by decide +kernel, rfl, by decide +kernel, by decide +kernel⟩
end K58
namespace K58
open PySem J
abbrev S := PySem.Str
def Ro (r : Nat) (st : Hs) : Prop := ∃ v : Int, st[r]? = some (.lst [.int v])
def Dw (r : Nat) (st st' : Hs) : Prop := Keep r st st' ∧ Ro r st'
theorem Dw.trans {r : Nat} {a b c : Hs} (h : Dw r a b) (k : Dw r b c) : Dw r a c := ⟨h.1.trans k.1, k.2⟩
theorem Ro.push {r : Nat} {st : Hs} {o : Ob} (h : Ro r st) : Ro r (st ++ [o]) := let ⟨v, e⟩ := h; ⟨v, push_get e⟩
theorem Ro.gr {r : Nat} {st st' : Hs} (h : Ro r st) (g : Gr st st') : Ro r st' := let ⟨v, e⟩ := h; ⟨v, g.get e⟩
theorem Dw.of {r : Nat} {st : Hs} (h : Ro r st) : Dw r st st := ⟨Keep.refl, h⟩
theorem Dw.gr {r : Nat} {st st' : Hs} (h : Ro r st) (g : Gr st st') : Dw r st st' := ⟨g.keep, h.gr g⟩
theorem digit {st : Hs} {l : Nat} {n many : Int} (h : st[l]? = some (.lst [.int n])) (hm : many ≠ 0 ∧ many.natAbs.log2 < 9000) :
    F__law_digit [.ref l, .int many] st = .ok (.int (n.fmod many)) (st.set l (.lst [.int (n.fdiv many)])) := by
  have hl : lstOf st l = some [.int n] := by unfold lstOf; rw [h]
  have h0 : L2.atI [Wv.int n] 0 = some (.int n) := rfl
  unfold F__law_digit fnF g__law_digit
  simp [ix_l hl h0, mod_i hm.1, fdiv_i hm, gSetI, oSet, h, L2.ixN]
theorem dig {r : Nat} {st : Hs} {m : Int} (h : Ro r st) (h0 : 0 < m) (h1 : m < 1000000) : ∃ d st', F__law_digit [.ref r, .int m] st = .ok (.int d) st' ∧ 0 ≤ d ∧ d < m ∧ Dw r st st' := by
  obtain ⟨v, e⟩ := h
  have hl : m.natAbs.log2 < 9000 := Nat.lt_trans ((Nat.log2_lt (k := 20) (by omega)).mpr (by omega)) (by decide)
  exact ⟨_, _, digit e ⟨by omega, hl⟩, Int.fmod_nonneg_of_pos _ h0, Int.fmod_lt_of_pos _ h0, Keep.set, _, set_get e⟩
theorem line {r : Nat} {st : Hs} {last : Int} (h : Ro r st) (h0 : 3 ≤ last) (h1 : last < 1000) : ∃ d st', F__law_line [.ref r, .int last] st = .ok (.int d) st' ∧ 0 ≤ d ∧ d ≤ last ∧ Dw r st st' := by
  obtain ⟨w, s1, e1, w0, w1, d1⟩ := dig (m := 4) h (by decide) (by decide)
  unfold F__law_line fnF g__law_line
  by_cases c0 : w = 0
  · obtain ⟨d, s2, e2, a0, a1, d2⟩ := dig (m := 4) d1.2 (by decide) (by decide)
    subst c0
    exact ⟨d, s2, by simp [e1, e2], a0, by omega, d1.trans d2⟩
  have b0 : (w == 0) = false := beq_false_of_ne c0
  by_cases c1 : w = 1
  · obtain ⟨d, s2, e2, a0, a1, d2⟩ := dig (m := 4) d1.2 (by decide) (by decide)
    subst c1
    exact ⟨last - d, s2, by simp [e1, e2], by omega, by omega, d1.trans d2⟩
  have b1 : (w == 1) = false := beq_false_of_ne c1
  obtain ⟨d, s2, e2, a0, a1, d2⟩ := dig (m := last + 1) d1.2 (by omega) (by omega)
  exact ⟨d, s2, by simp [e1, e2, b0, b1], a0, by omega, d1.trans d2⟩
def tI (l : List Int) : Wv := .tup (l.map Wv.int)
theorem spot_at {r : Nat} {st : Hs} (h : Ro r st) : ∃ a b st', F__law_spot_at [.ref r] st = .ok (tI [a, b]) st' ∧ (0 ≤ a ∧ a ≤ 98 ∧ 0 ≤ b ∧ b ≤ 25) ∧ Dw r st st' := by
  obtain ⟨a, s1, e1, a0, a1, d1⟩ := line (last := 98) h (by decide) (by decide)
  obtain ⟨b, s2, e2, b0, b1, d2⟩ := line (last := 25) d1.2 (by decide) (by decide)
  unfold F__law_spot_at fnF g__law_spot_at
  exact ⟨a, b, s2, by simp [e1, e2, tI], ⟨a0, a1, b0, b1⟩, d1.trans d2⟩
def ArOk (a b c d : Int) : Prop := 0 ≤ a ∧ a ≤ c ∧ c ≤ 98 ∧ 0 ≤ b ∧ b ≤ d ∧ d ≤ 25 ∧ (c - a + 1) * (d - b + 1) ≤ 300
theorem mulle {x y p q : Int} (h0 : 0 ≤ x) (h1 : x ≤ p) (k0 : 0 ≤ y) (k1 : y ≤ q) : x * y ≤ p * q := Int.mul_le_mul h1 k1 k0 (by omega)
theorem any_area {r : Nat} {st : Hs} (h : Ro r st) : ∃ a b c d st', F__law_any_area [.ref r] st = .ok (tI [a, b, c, d]) st' ∧ ArOk a b c d ∧ Dw r st st' := by
  obtain ⟨t, s1, e1, t0, t1, d1⟩ := line (last := 98) h (by decide) (by decide)
  obtain ⟨l, s2, e2, l0, l1, d2⟩ := line (last := 25) d1.2 (by decide) (by decide)
  obtain ⟨w, s3, e3, w0, w1, d3⟩ := dig (m := 9) d2.2 (by decide) (by decide)
  unfold F__law_any_area fnF g__law_any_area
  by_cases c : w = 1
  · subst c
    obtain ⟨x, s4, e4, x0, x1, d4⟩ := dig (m := 3) d3.2 (by decide) (by decide)
    refine ⟨0, l, 98, if l + x < 25 then l + x else 25, s4, by simp [e1, e2, e3, e4, tI], ⟨by omega, by omega, by omega, l0, by split <;> omega, by split <;> omega, ?_⟩, ((d1.trans d2).trans d3).trans d4⟩
    refine Int.le_trans (mulle (p := 99) (q := 3) (by omega) (by omega) (by split <;> omega) (by split <;> omega)) (by decide)
  · have b : (w == 1) = false := beq_false_of_ne c
    obtain ⟨x, s4, e4, x0, x1, d4⟩ := dig (m := 5) d3.2 (by decide) (by decide)
    obtain ⟨y, s5, e5, y0, y1, d5⟩ := dig (m := 4) d4.2 (by decide) (by decide)
    refine ⟨t, l, if t + x < 98 then t + x else 98, if l + y < 25 then l + y else 25, s5, by simp [e1, e2, e3, e4, e5, b, tI], ⟨t0, by split <;> omega, by split <;> omega, l0, by split <;> omega, by split <;> omega, ?_⟩, (((d1.trans d2).trans d3).trans d4).trans d5⟩
    refine Int.le_trans (mulle (p := 5) (q := 4) (by split <;> omega) (by split <;> omega) (by split <;> omega) (by split <;> omega)) (by decide)
theorem some_pins {r : Nat} {st : Hs} (h : Ro r st) {n : Nat} (hn : n ≤ 4) : ∃ p st', F__law_some_pins [.ref r, .int n] st = .ok (tI p) st' ∧ p.length = n ∧ (∀ q ∈ p, q = 0 ∨ q = 1) ∧ Dw r st st' := by
  have hr : r < st.length := let ⟨v, e⟩ := h; get_lt e
  have cn : CRng (n : Int) := crng (by omega) (by omega)
  obtain ⟨st', acc, e, ⟨p1, p2⟩, hg, ha, hl⟩ := compG_inv (w := (none, rngW 0 n)) (gt := fun v => g__law_some_pins_C1t (some v :: capR [("row", 0)] [some (.ref r), some (.int (n : Int))])) (ge := fun v => g__law_some_pins_C1e (some v :: capR [("row", 0)] [some (.ref r), some (.int (n : Int))])) (rr := st.length)
    (fun s => Keep r st s ∧ Ro r s) (fun u => ∃ q : Int, u = .int q ∧ (q = 0 ∨ q = 1))
    (fun s acc ⟨k, v, e⟩ => ⟨⟨by simpa using k.1, fun j hj hne => by rw [List.getElem?_set_ne (by omega)]; exact k.2 j hj hne⟩, v, by rw [List.getElem?_set_ne (by omega)]; exact e⟩) (fun _ _ => trivial) (rngW 0 n)
    (fun v hv s acc ⟨k, ro⟩ hg => by
      obtain ⟨q, s2, e2, q0, q1, k2, ro2⟩ := dig (m := 2) ro (by decide) (by decide)
      refine ⟨s, rfl, ⟨k, ro⟩, hg, .int q, s2, ?_, ⟨q, rfl, by omega⟩, ⟨k.trans k2, ro2⟩, ?_⟩
      · unfold g__law_some_pins_C1e
        simp [capR, e2]
      · rw [k2.2 _ (get_lt hg) (by omega)]; exact hg)
    [] (st ++ [.lst []]) ⟨Keep.push, h.push⟩ new_get (by rw [rngW_len]; simp [lim]; omega) (by simp)
  obtain ⟨p, hp⟩ : ∃ p : List Int, acc = p.map Wv.int ∧ ∀ q ∈ p, q = 0 ∨ q = 1 := by
    clear e hg hl
    induction acc with
    | nil => exact ⟨[], rfl, by simp⟩
    | cons a t ih =>
      obtain ⟨p, e1, e2⟩ := ih fun u hu => ha u (List.mem_cons_of_mem _ hu)
      obtain ⟨q, e3, e4⟩ := ha a List.mem_cons_self
      exact ⟨q :: p, by rw [e1, e3]; rfl, by simpa using ⟨e4, e2⟩⟩
  obtain ⟨rfl, hp⟩ := hp
  refine ⟨p, st', ?_, by simpa [rngW_len] using hl, hp, p1, p2⟩
  have run : compRun [("row", 0)] g__law_some_pins_C1t g__law_some_pins_C1e [some (.ref r), some (.int (n : Int))] (none, rngW 0 n) st = .ok (.ref st.length) st' := by
    unfold compRun
    rw [e]
  have tc : oTupC [.ref st.length] st' = .ok (.tup (p.map Wv.int)) st' := by
    show (match lstOf st' st.length with | some ws => Re.ok (Wv.tup ws) st' | none => .bad) = _
    rw [lst_get hg]
  unfold F__law_some_pins fnF g__law_some_pins
  have r1 : rng1W [.int (n : Int)] st = .ok (none, rngW 0 n) st := by rw [rng1_i cn]; simp
  simp [r1, run, tc, tI]
theorem mixed {st : Hs} {c k : Int} (h0 : 0 ≤ k) (h1 : k < 1000000) : ∃ v : Int, 0 ≤ v ∧ F__law_mixed [.int c, .int k] st = .ok (.int v) st := by
  have z1 : oMulL (.int 7919) (.int k) st = .ok (.int (7919 * k)) st := mul_l (by decide) (by decide)
  have z2 : ∀ i : Int, oMulL (.int i) (.int 48271) st = .ok (.int (i * 48271)) st := fun i => mul_r (by decide) (by decide)
  have z3 : ∀ i : Int, oMulL (.int i) (.int 69621) st = .ok (.int (i * 69621)) st := fun i => mul_r (by decide) (by decide)
  generalize hs : ((c.fmod 1000000007 + 7919 * k + 1) * 48271).fmod 2147483647 = s
  have s0 : 0 ≤ s := by rw [← hs]; exact Int.fmod_nonneg_of_pos _ (by decide)
  have s1 : s < 2147483647 := by rw [← hs]; exact Int.fmod_lt_of_pos _ (by decide)
  have z4 : oMulL (.int s) (.int s) st = .ok (.int (s * s)) st := mul_l (by omega) (by omega)
  refine ⟨((s * s).fmod 2147483629 * 69621).fmod 2147483647, Int.fmod_nonneg_of_pos _ (by decide), ?_⟩
  unfold F__law_mixed fnF g__law_mixed
  simp [z1, z2, z3, z4, hs, mod_i]
theorem at_nat {ns : List Int} {k : Int} (h0 : 0 ≤ k) (c : k < ns.length) : L2.atI (ns.map Wv.int) k = some (.int (ns.getD k.toNat 0)) := by
  have hk : k.toNat < ns.length := by omega
  have ek : k = ((k.toNat : Nat) : Int) := by omega
  have q := L2.atI_nat (xs := ns.map Wv.int) (j := k.toNat) (v := .int (ns.getD k.toNat 0)) (by simp [hk])
  rw [← ek] at q
  exact q
theorem cell_at {st : Hs} {l : Nat} {ns : List Int} (h : lstOf st l = some (ns.map Wv.int)) {k : Int} (h0 : 0 ≤ k) : ∃ v : Int, F__law_cell_at [.ref l, .int k] st = .ok (.int v) st := by
  have ln := len_l h
  rw [List.length_map] at ln
  unfold F__law_cell_at fnF g__law_cell_at
  by_cases c : k < ns.length
  · exact ⟨_, by simp [ln, c, ix_l h (at_nat h0 c)]; rfl⟩
  · exact ⟨0, by simp [ln, c]⟩
theorem pow60 {st : Hs} : oPow (.int 10) (.int 60) st = .ok (.int (10 ^ 60)) st := pow_i (by decide)
theorem rngS_mem {lo c : Int} {n : Nat} {j : Nat} {w : Wv} (h : (rngS lo c n)[j]? = some w) : w = .int (lo + j * c) ∧ j < n := by
  have hj : j < n := by
    have := (List.getElem?_eq_some_iff.mp h).1
    rw [rngS_len] at this
    exact this
  rw [rngS_get? hj] at h
  exact ⟨(Option.some.inj h).symm, hj⟩
theorem big_ok {c : Int} {k : Nat} (h0 : 0 ≤ c) (h1 : c < (10 ^ 60) ^ k) (hk : k ≤ 5) : IntMulOk c (10 ^ 60) := by
  have b : c.natAbs < 2 ^ 1000 := by
    have e : (10 ^ 60 : Int) ^ k < 2 ^ 1000 := by
      have hk' : k = 0 ∨ k = 1 ∨ k = 2 ∨ k = 3 ∨ k = 4 ∨ k = 5 := by omega
      rcases hk' with rfl | rfl | rfl | rfl | rfl | rfl <;> decide +kernel
    have e2 : ((2 ^ 1000 : Nat) : Int) = 2 ^ 1000 := by norm_cast
    omega
  exact IntMulOk.of_bits (Nat.le_trans (PyProof.Rows.intBits_le b) (by decide)) (Nat.le_trans (PyProof.Rows.intBits_le (k := 200) (by decide +kernel)) (by decide))
theorem stream {st : Hs} {l : Nat} {ns : List Int} (h : lstOf st l = some (ns.map Wv.int)) (hn : ns.length ≤ 63) {k : Int} (h0 : 0 ≤ k) (h1 : k ≤ 3) : ∃ n : Int, F__law_stream [.ref l, .int k] st = .ok (.ref st.length) (st ++ [.lst [.int n]]) := by
  obtain ⟨v0, ev0⟩ := cell_at h (k := 0) (Int.le_refl _)
  have ln := len_l h
  rw [List.length_map] at ln
  have sm := sum_l h
  have cr : CRs (k + 1) ns.length 13 := ⟨by omega, by omega, by omega, by omega, by decide, by decide⟩
  have sn : stepN (k + 1) ns.length 13 ≤ 5 := by
    unfold stepN
    split <;> omega
  have l1 : ∃ (o3 : Option Wv) (c : Int), forT 3 g__law_stream_L2 (rngS (k + 1) 13 (stepN (k + 1) ns.length 13)) [some (.ref l), some (.int k), some (.int 0), none, none] st = .nx [some (.ref l), some (.int k), some (.int c), o3, none] st := by
    obtain ⟨ρ, st', e, o3, c, rfl, rfl, _, _⟩ := forT_ix (i := 3) (gb := g__law_stream_L2) (fun i ρ st' => ∃ (o3 : Option Wv) (c : Int), ρ = [some (.ref l), some (.int k), some (.int c), o3, none] ∧ st' = st ∧ 0 ≤ c ∧ c < (10 ^ 60) ^ i) (rngS (k + 1) 13 (stepN (k + 1) ns.length 13)) 0 [some (.ref l), some (.int k), some (.int 0), none, none] st ⟨none, 0, rfl, rfl, by decide, by decide⟩ (by
      rintro j w hw _ s ⟨o3, c, rfl, rfl, c0, c1⟩
      obtain ⟨rfl, hj⟩ := rngS_mem hw
      have hj5 : 0 + j ≤ 5 := by omega
      have jx : k + 1 + (j : Int) * 13 < ns.length := by
        unfold stepN at hj
        split at hj <;> omega
      have m1 : oMulL (.int c) (.int (10 ^ 60)) s = .ok (.int (c * 10 ^ 60)) s := mul_i (big_ok c0 c1 hj5)
      have m2 : oMod (.int (ns.getD (k + 1 + (j : Int) * 13).toNat 0)) (.int (10 ^ 60)) s = .ok (.int ((ns.getD (k + 1 + (j : Int) * 13).toNat 0).fmod (10 ^ 60))) s := mod_i (by decide)
      have x1 := ix_l h (at_nat (k := k + 1 + (j : Int) * 13) (by omega) jx)
      have q0 := Int.fmod_nonneg_of_pos (ns.getD (k + 1 + (j : Int) * 13).toNat 0) (b := 10 ^ 60) (by decide)
      have q1 := Int.fmod_lt_of_pos (ns.getD (k + 1 + (j : Int) * 13).toNat 0) (b := 10 ^ 60) (by decide)
      generalize (ns.getD (k + 1 + (j : Int) * 13).toNat 0).fmod (10 ^ 60) = q at m2 q0 q1
      refine ⟨_, _, ?_, ⟨some (.int (k + 1 + (j : Int) * 13)), c * 10 ^ 60 + q, rfl, rfl, ?_, ?_⟩⟩
      · unfold g__law_stream_L2
        simp only [e_set, e_bin, e_var, e_c, List.getElem?_cons_zero, List.getElem?_cons_succ, List.set_cons_zero, List.set_cons_succ, rdV_s, bind_ok, kB_d, pow60, nox_ok, m1, x1, m2, add_i, thn_ok]
      · have := Int.mul_nonneg c0 (show (0 : Int) ≤ 10 ^ 60 by decide)
        omega
      · have e : (10 ^ 60 : Int) ^ (0 + j + 1) = (10 ^ 60) ^ (0 + j) * 10 ^ 60 := Int.pow_succ ..
        rw [e]
        have : (c + 1) * 10 ^ 60 ≤ (10 ^ 60) ^ (0 + j) * 10 ^ 60 := Int.mul_le_mul_of_nonneg_right (by omega) (by decide)
        rw [Int.add_mul] at this
        omega)
    exact ⟨o3, c, e⟩
  obtain ⟨o3, c, e1⟩ := l1
  have l2 : ∃ (o3' : Option Wv) (g' : Int), forT 3 g__law_stream_L1 (rngW 0 8) [some (.ref l), some (.int k), some (.int c), o3, some (.int 0)] st = .nx [some (.ref l), some (.int k), some (.int c), o3', some (.int g')] st := by
    obtain ⟨ρ, st', e, o3', g', rfl, rfl⟩ := forT_inv (i := 3) (gb := g__law_stream_L1) (fun ρ st' => ∃ (o3 : Option Wv) (g : Int), ρ = [some (.ref l), some (.int k), some (.int c), o3, some (.int g)] ∧ st' = st) (rngW 0 8) [some (.ref l), some (.int k), some (.int c), o3, some (.int 0)] st ⟨o3, 0, rfl, rfl⟩ (by
      rintro w hw _ s ⟨o3, g, rfl, rfl⟩
      obtain ⟨j, rfl, j0, j1⟩ := rng_mem hw
      obtain ⟨u, _, eu⟩ := mixed (st := s) (c := c + ns.sum) (k := 8 * k + j) (by omega) (by omega)
      have z1 : oMulL (.int 8) (.int k) s = .ok (.int (8 * k)) s := mul_l (by decide) (by decide)
      have z3 : oMulL (.int g) (.int 2147483647) s = .ok (.int (g * 2147483647)) s := mul_r (by decide) (by decide)
      refine ⟨_, _, ?_, ⟨some (.int j), g * 2147483647 + u, rfl, rfl⟩⟩
      unfold g__law_stream_L1
      simp [sm, z1, z3, eu])
    exact ⟨o3', g', e⟩
  obtain ⟨o3', g', e2⟩ := l2
  have f8 : ∀ i : Int, oFdiv (.int i) (.int 8) st = .ok (.int (i.fdiv 8)) st := fun i => fdiv_i (by decide)
  have c8 : CRng 8 := crng (by decide) (by decide)
  have er3 : ∀ (ga : GA) (ρ : Rho) (s s1 : Hs) (a b c : Int), ga ρ s = .ok [.int a, .int b, .int c] s1 → CRs a b c → gForR3 3 ga g__law_stream_L2 ρ s = forT 3 g__law_stream_L2 (rngS a c (stepN a b c)) ρ s1 := fun ga ρ s s1 a b c h1 h2 => by
    unfold gForR3
    rw [h1]
    show (if CRs a b c then _ else _) = _
    rw [if_pos h2]
  have e3 := er3 (gCons (gBin oAdd (gVar 1) (gC (.int 1))) (gCons (gCallB oLen (gCons (gVar 0) gNil)) (gCons (gC (.int 13)) gNil))) [some (.ref l), some (.int k), some (.int 0), none, none] st st (k + 1) ns.length 13 (by simp [ln]) cr
  rw [e1] at e3
  unfold F__law_stream fnF g__law_stream
  by_cases b : v0.fmod 2 = 1
  · exact ⟨c, by simp [e3, ev0, mod_i, b]⟩
  · have b' : (v0.fmod 2 == 1) = false := beq_false_of_ne b
    exact ⟨g'.fdiv 8, by simp [e3, ev0, mod_i, b', c8, e2, f8]⟩
inductive Fm
  | lit (x : S) (ws : List Wv)
  | pt (x : S) (l p : List Int)
  | fd (a : Fm) (l p : List Int)
  | o1 (x : S) (a : Fm)
  | o2 (x : S) (a b : Fm)
  | o3 (a b c : Fm)
def Fm.v : Fm → S × List Wv
  | .lit x ws => (x, ws)
  | .pt x l p => (x, [tI l, tI p])
  | .fd a l p => ("find", [.tup (.str a.v.1 :: a.v.2), tI l, tI p])
  | .o1 x a => (x, [.tup (.str a.v.1 :: a.v.2)])
  | .o2 x a b => (x, [.tup (.str a.v.1 :: a.v.2), .tup (.str b.v.1 :: b.v.2)])
  | .o3 a b c => ("if", [.tup (.str a.v.1 :: a.v.2), .tup (.str b.v.1 :: b.v.2), .tup (.str c.v.1 :: c.v.2)])
def Fm.w (f : Fm) : Wv := .tup (.str f.v.1 :: f.v.2)
def Fm.dp : Fm → Nat
  | .lit _ _ => 1
  | .pt _ _ _ => 1
  | .fd a _ _ => a.dp + 1
  | .o1 _ a => a.dp + 1
  | .o2 _ a b => max a.dp b.dp + 1
  | .o3 a b c => max a.dp (max b.dp c.dp) + 1
def LitOk (x : S) (ws : List Wv) : Prop := (x = "num" ∧ ∃ i, ws = [.int i]) ∨ (x = "text" ∧ ∃ s, ws = [.str s]) ∨ (x = "lost" ∧ ws = [])
def P01 (q : Int) : Prop := q = 0 ∨ q = 1
def Sh2 (l p : List Int) : Prop := ∃ a b q r, l = [a, b] ∧ p = [q, r] ∧ P01 q ∧ P01 r
def Sh4 (l p : List Int) : Prop := ∃ a b c d q r s t, l = [a, b, c, d] ∧ p = [q, r, s, t] ∧ P01 q ∧ P01 r ∧ P01 s ∧ P01 t
def AW : List S := ["sum", "count", "least", "greatest"]
def W1 : List S := ["minus", "not"]
def W2 : List S := ["else", "rest", "+", "-", "*", "/", "&", "<", "="]
def Fm.sh : Fm → Prop
  | .lit x ws => LitOk x ws
  | .pt x l p => (x = "at" ∧ Sh2 l p) ∨ (x ∈ AW ∧ Sh4 l p)
  | .fd a l p => a.sh ∧ Sh4 l p
  | .o1 x a => x ∈ W1 ∧ a.sh
  | .o2 x a b => x ∈ W2 ∧ a.sh ∧ b.sh
  | .o3 a b c => a.sh ∧ b.sh ∧ c.sh
def PlOk (a b : Int) : Prop := 0 ≤ a ∧ a ≤ 98 ∧ 0 ≤ b ∧ b ≤ 25
def Fits : List Int → Prop
  | [a, b] => PlOk a b
  | [a, b, c, d] => ArOk a b c d
  | _ => False
def Fm.fit : Fm → Prop
  | .lit _ _ => True
  | .pt _ l _ => Fits l
  | .fd a l _ => a.fit ∧ Fits l
  | .o1 _ a => a.fit
  | .o2 _ a b => a.fit ∧ b.fit
  | .o3 a b c => a.fit ∧ b.fit ∧ c.fit
def P60 : Int := 10 ^ 60
theorem pow60p {st : Hs} : oPow (.int 10) (.int 60) st = .ok (.int P60) st := pow60
theorem pick {r : Nat} {st : Hs} {ws : List Wv} {m : Int} (h : Ro r st) (hw : (ws.length : Int) = m) (h0 : 0 < m) (h1 : m < 1000000) :
    ∃ d v st', F__law_digit [.ref r, .int m] (st ++ [.lst ws]) = .ok (.int d) st' ∧ oIx (.ref st.length) (.int d) st' = .ok v st' ∧ v ∈ ws ∧ Dw r st st' := by
  have hr : r < st.length := let ⟨v, e⟩ := h; get_lt e
  obtain ⟨d, s2, e2, d0, d1, k2, ro2⟩ := dig (m := m) (h.push (o := .lst ws)) h0 h1
  obtain ⟨v, e3, e4⟩ := atI_some (ws := ws) (d := d) d0 (by omega)
  exact ⟨d, v, s2, e2, ix_l (k2.lst lstOf_new (by omega)) e3, e4, Keep.push.trans k2, ro2⟩
theorem pins2 {r : Nat} {st : Hs} (h : Ro r st) : ∃ q s st', F__law_some_pins [.ref r, .int 2] st = .ok (tI [q, s]) st' ∧ P01 q ∧ P01 s ∧ Dw r st st' := by
  obtain ⟨p, st', e, hl, hp, d⟩ := some_pins h (n := 2) (by decide)
  match p, hl with
  | [q, s], _ => exact ⟨q, s, st', e, hp q (by simp), hp s (by simp), d⟩
theorem pins4 {r : Nat} {st : Hs} (h : Ro r st) : ∃ q s t u st', F__law_some_pins [.ref r, .int 4] st = .ok (tI [q, s, t, u]) st' ∧ P01 q ∧ P01 s ∧ P01 t ∧ P01 u ∧ Dw r st st' := by
  obtain ⟨p, st', e, hl, hp, d⟩ := some_pins h (n := 4) (by decide)
  match p, hl with
  | [q, s, t, u], _ => exact ⟨q, s, t, u, st', e, hp q (by simp), hp s (by simp), hp t (by simp), hp u (by simp), d⟩
theorem any_leaf {r : Nat} {st : Hs} (h : Ro r st) : ∃ f st', F__law_any_leaf [.ref r] st = .ok (Fm.w f) st' ∧ f.sh ∧ f.fit ∧ f.dp = 1 ∧ Dw r st st' := by
  obtain ⟨w, s1, e1, w0, w1, d1⟩ := dig (m := 7) h (by decide) (by decide)
  unfold F__law_any_leaf fnF g__law_any_leaf
  by_cases c0 : w = 0
  · subst c0
    obtain ⟨x, s2, e2, _, _, d2⟩ := dig (m := 10) d1.2 (by decide) (by decide)
    obtain ⟨y, s3, e3, _, _, d3⟩ := dig (m := 2) d2.2 (by decide) (by decide)
    obtain ⟨d, v, s4, e4, e5, hv, d4⟩ := pick (m := 2) (ws := [.int x, .int (P60 - y)]) d3.2 rfl (by decide) (by decide)
    obtain ⟨i, rfl⟩ : ∃ i : Int, v = .int i := by simp at hv; rcases hv with rfl | rfl <;> exact ⟨_, rfl⟩
    exact ⟨.lit "num" [.int i], s4, by simp [e1, e2, e3, pow60p, e4, e5, Fm.w, Fm.v], .inl ⟨rfl, i, rfl⟩, trivial, rfl, ((d1.trans d2).trans d3).trans d4⟩
  have b0 : (w == 0) = false := beq_false_of_ne c0
  by_cases c1 : w = 1
  · subst c1
    obtain ⟨d, v, s4, e4, e5, hv, d4⟩ := pick (m := 4) (ws := [.str "", .str "a1", .str "$b", .str "no"]) d1.2 rfl (by decide) (by decide)
    obtain ⟨i, rfl⟩ : ∃ i : S, v = .str i := by simp at hv; rcases hv with rfl | rfl | rfl | rfl <;> exact ⟨_, rfl⟩
    exact ⟨.lit "text" [.str i], s4, by simp [e1, e4, e5, Fm.w, Fm.v], .inr (.inl ⟨rfl, i, rfl⟩), trivial, rfl, d1.trans d4⟩
  have b1 : (w == 1) = false := beq_false_of_ne c1
  by_cases c2 : w = 2
  · subst c2
    exact ⟨.lit "lost" [], s1, by simp [e1, Fm.w, Fm.v], .inr (.inr ⟨rfl, rfl⟩), trivial, rfl, d1⟩
  have b2 : (w == 2) = false := beq_false_of_ne c2
  by_cases c3 : w < 5
  · obtain ⟨a, b, s2, e2, hab, d2⟩ := spot_at d1.2
    obtain ⟨q, s, s3, e3, q1, q2, d3⟩ := pins2 d2.2
    exact ⟨.pt "at" [a, b] [q, s], s3, by simp [e1, b0, b1, b2, c3, e2, e3, Fm.w, Fm.v], .inl ⟨rfl, a, b, q, s, rfl, rfl, q1, q2⟩, hab, rfl, (d1.trans d2).trans d3⟩
  · obtain ⟨d, v, s2, e2, e3, hv, d2⟩ := pick (m := 4) (ws := [.str "sum", .str "count", .str "least", .str "greatest"]) d1.2 rfl (by decide) (by decide)
    obtain ⟨x, rfl, hx⟩ : ∃ x : S, v = .str x ∧ x ∈ AW := by simp at hv; rcases hv with rfl | rfl | rfl | rfl <;> exact ⟨_, rfl, by decide +kernel⟩
    obtain ⟨a, b, c, d', s3, e4, har, d3⟩ := any_area d2.2
    obtain ⟨q, s, t, u, s4, e5, q1, q2, q3, q4, d4⟩ := pins4 d3.2
    exact ⟨.pt x [a, b, c, d'] [q, s, t, u], s4, by simp [e1, b0, b1, b2, c3, e2, e3, e4, e5, Fm.w, Fm.v], .inr ⟨hx, a, b, c, d', q, s, t, u, rfl, rfl, q1, q2, q3, q4⟩, har, rfl, ((d1.trans d2).trans d3).trans d4⟩
theorem any_formula {r : Nat} : ∀ (n : Nat) {st : Hs} {k : Nat}, Ro r st → k ≤ n → ∃ f st', R__law_any_formula (n + 1) [.ref r, .int k] st = .ok (Fm.w f) st' ∧ f.sh ∧ f.fit ∧ f.dp ≤ k + 1 ∧ Dw r st st'
  | n, st, k, h, hk => by
    obtain ⟨w, s1, e1, w0, w1, d1⟩ := dig (m := 14) h (by decide) (by decide)
    rw [R__law_any_formula_succ]
    unfold fnF g__law_any_formula
    by_cases c0 : k = 0 ∨ w < 3
    · obtain ⟨f, s2, e2, h1, h2, h3, d2⟩ := any_leaf d1.2
      refine ⟨f, s2, ?_, h1, h2, by omega, d1.trans d2⟩
      rcases c0 with c0 | c0
      · subst c0; simp [e1, e2]
      · by_cases ck : k = 0
        · subst ck; simp [e1, e2]
        · have bk : ((k : Int) == 0) = false := beq_false_of_ne (by omega)
          simp [e1, e2, bk, c0]
    · have bk : ((k : Int) == 0) = false := beq_false_of_ne (by omega)
      have bw : ¬ w < 3 := by omega
      obtain ⟨n', rfl⟩ : ∃ n', n = n' + 1 := ⟨n - 1, by omega⟩
      have ek : ((k : Int) - 1) = ((k - 1 : Nat) : Int) := by omega
      obtain ⟨a, s2, e2, a1, a2, a3, d2⟩ := any_formula n' (k := k - 1) d1.2 (by omega)
      by_cases c1 : w = 3
      · subst c1
        obtain ⟨d, v, s3, e3, e4, hv, d3⟩ := pick (m := 2) (ws := [.str "minus", .str "not"]) d2.2 rfl (by decide) (by decide)
        obtain ⟨x, rfl, hx⟩ : ∃ x : S, v = .str x ∧ x ∈ W1 := by simp at hv; rcases hv with rfl | rfl <;> exact ⟨_, rfl, by decide +kernel⟩
        refine ⟨.o1 x a, s3, ?_, ⟨hx, a1⟩, a2, by simp only [Fm.dp]; omega, (d1.trans d2).trans d3⟩
        simp [e1, bk, ek, e2, e3, e4]
        rfl
      have b1 : (w == 3) = false := beq_false_of_ne c1
      by_cases c2 : w < 6
      · obtain ⟨a', b', c', d', s3, e3, har, d3⟩ := any_area d2.2
        obtain ⟨q, s, t, u, s4, e4, q1, q2, q3, q4, d4⟩ := pins4 d3.2
        refine ⟨.fd a [a', b', c', d'] [q, s, t, u], s4, ?_, ⟨a1, a', b', c', d', q, s, t, u, rfl, rfl, q1, q2, q3, q4⟩, ⟨a2, har⟩, by simp only [Fm.dp]; omega, ((d1.trans d2).trans d3).trans d4⟩
        simp [e1, bk, bw, ek, e2, b1, c2, e3, e4]
        rfl
      obtain ⟨b, s3, e3, b1', b2', b3', d3⟩ := any_formula n' (k := k - 1) d2.2 (by omega)
      by_cases c3 : w < 8
      · obtain ⟨c, s4, e4, c1', c2', c3', d4⟩ := any_formula n' (k := k - 1) d3.2 (by omega)
        refine ⟨.o3 a b c, s4, ?_, ⟨a1, b1', c1'⟩, ⟨a2, b2', c2'⟩, by simp only [Fm.dp]; omega, ((d1.trans d2).trans d3).trans d4⟩
        simp [e1, bk, bw, ek, e2, b1, c2, e3, c3, e4]
        rfl
      · obtain ⟨d, v, s4, e4, e5, hv, d4⟩ := pick (m := 9) (ws := [.str "else", .str "rest", .str "+", .str "-", .str "*", .str "/", .str "&", .str "<", .str "="]) d3.2 rfl (by decide) (by decide)
        obtain ⟨x, rfl, hx⟩ : ∃ x : S, v = .str x ∧ x ∈ W2 := by simp at hv; rcases hv with rfl | rfl | rfl | rfl | rfl | rfl | rfl | rfl | rfl <;> exact ⟨_, rfl, by decide +kernel⟩
        refine ⟨.o2 x a b, s4, ?_, ⟨hx, a1, b1'⟩, ⟨a2, b2'⟩, by simp only [Fm.dp]; omega, ((d1.trans d2).trans d3).trans d4⟩
        have l9 : ∀ {x0 x1 x2 x3 x4 x5 x6 x7 x8 : Wv} {s : Hs}, kLst [x0, x1, x2, x3, x4, x5, x6, x7, x8] s = .ok (.ref s.length) (s ++ [.lst [x0, x1, x2, x3, x4, x5, x6, x7, x8]]) := kLst_d (by simp [lim])
        simp [e1, bk, bw, ek, e2, b1, c2, e3, c3, l9, e4, e5]
        rfl
theorem in_t {x : S} {ys : List S} {st : Hs} : oIn2 (.str x) (.tup (ys.map Wv.str)) st = .ok (.bl (decide (x ∈ ys))) st := by
  have e1 : (ys.map Wv.str).all flatW = true := by
    rw [List.all_eq_true]
    intro w hw
    obtain ⟨y, _, rfl⟩ := List.mem_map.mp hw
    rfl
  have e2 : ((ys.map Wv.str).any fun z => eqF z (.str x)) = decide (x ∈ ys) := by
    rw [List.any_map]
    induction ys with
    | nil => rfl
    | cons y r ih =>
      rw [List.any_cons, ih (by rw [List.all_eq_true]; intro w hw; obtain ⟨y, _, rfl⟩ := List.mem_map.mp hw; rfl)]
      show ((y == x) || decide (x ∈ r)) = _
      by_cases c : y = x
      · subst c; simp
      · have : (y == x) = false := beq_false_of_ne c
        rw [this]
        simp [Ne.symm c]
  show (if flatW (.str x) = true ∧ (ys.map Wv.str).all flatW = true then Re.ok (Wv.bl ((ys.map Wv.str).any fun z => eqF z (.str x))) st else .bad) = _
  rw [if_pos ⟨rfl, e1⟩, e2]
def AF : List S := ["sum", "count", "least", "greatest", "find"]
theorem has_area {x : S} {st : Hs} : F_has_area [.str x] st = .ok (.bl (decide (x ∈ AF))) st := by
  have e : oIn2 (.str x) (.ktp [.str "sum", .str "count", .str "least", .str "greatest", .str "find"]) st = .ok (.bl (decide (x ∈ AF))) st := in_t (ys := AF)
  unfold F_has_area fnF g_has_area
  simp [e]
theorem ix0 {x : Wv} {ws : List Wv} {st : Hs} : oIx (.tup (x :: ws)) (.int 0) st = .ok x st := ix_t (L2.atI_nat (j := 0) rfl)
theorem ix1 {x y : Wv} {ws : List Wv} {st : Hs} : oIx (.tup (x :: y :: ws)) (.int 1) st = .ok y st := ix_t (L2.atI_nat (j := 1) rfl)
theorem sl_t {ws us : List Wv} {lo hi : Option Int} {st : Hs} (h : ¬ isWh ws.length lo hi) (h2 : cutW ws lo hi = us) : oSl2 (.tup ws) lo hi st = .ok (.tup us) st := by
  show (if isWh ws.length lo hi then Re.ok (Wv.tup ws) st else oSl (.tup ws) lo hi st) = _
  rw [if_neg h]
  show (if isWh ws.length lo hi then Re.bad else Re.ok (Wv.tup (cutW ws lo hi)) st) = _
  rw [if_neg h, h2]
theorem part_many {x : S} {k : Int} {st : Hs} (h : d_PART_COUNTS.lookup x = some (.int k)) : F_part_many [.str x] st = .ok (.int k) st := by
  unfold F_part_many fnF g_part_many
  simp [kDcIx_s h]
theorem parts_of {x : S} {k : Int} {ws us : List Wv} (h : d_PART_COUNTS.lookup x = some (.int k)) (n1 : ¬ isWh (ws.length + 1) (some 1) (some (1 + k))) (hc : cutW (.str x :: ws) (some 1) (some (1 + k)) = us) (st : Hs) : F_parts_of [.tup (.str x :: ws)] st = .ok (.tup us) st := by
  unfold F_parts_of fnF g_parts_of
  have s := sl_t (ws := .str x :: ws) (us := us) (lo := some 1) (hi := some (1 + k)) (st := st) n1 hc
  simp [ix0, part_many h, s]
theorem tail_of {x : S} {k : Int} {ws us : List Wv} (h : d_PART_COUNTS.lookup x = some (.int k)) (n1 : ¬ isWh (ws.length + 1) (some (1 + k)) none) (hc : cutW (.str x :: ws) (some (1 + k)) none = us) (st : Hs) : F_tail_of [.tup (.str x :: ws)] st = .ok (.tup us) st := by
  unfold F_tail_of fnF g_tail_of
  have s := sl_t (ws := .str x :: ws) (us := us) (lo := some (1 + k)) (hi := none) (st := st) n1 hc
  simp [ix0, part_many h, s]
def Fm.kids : Fm → List Fm
  | .lit _ _ => []
  | .pt _ _ _ => []
  | .fd a _ _ => [a]
  | .o1 _ a => [a]
  | .o2 _ a b => [a, b]
  | .o3 a b c => [a, b, c]
def Fm.tl : Fm → List Wv
  | .lit _ ws => ws
  | .pt _ l p => [tI l, tI p]
  | .fd _ l p => [tI l, tI p]
  | _ => []
theorem lk1 {x : S} (h : x ∈ W1) : d_PART_COUNTS.lookup x = some (.int 1) := by
  simp only [W1, List.mem_cons, List.not_mem_nil, or_false] at h
  rcases h with rfl | rfl <;> rfl
theorem lk2 {x : S} (h : x ∈ W2) : d_PART_COUNTS.lookup x = some (.int 2) := by
  simp only [W2, List.mem_cons, List.not_mem_nil, or_false] at h
  rcases h with rfl | rfl | rfl | rfl | rfl | rfl | rfl | rfl | rfl <;> rfl
theorem lk0 {x : S} (h : x ∈ AW) : d_PART_COUNTS.lookup x = some (.int 0) := by
  simp only [AW, List.mem_cons, List.not_mem_nil, or_false] at h
  rcases h with rfl | rfl | rfl | rfl <;> rfl
theorem node {f : Fm} (h : f.sh) : (∀ st, F_parts_of [f.w] st = .ok (.tup (f.kids.map Fm.w)) st) ∧ ∀ st, F_tail_of [f.w] st = .ok (.tup f.tl) st := by
  cases f with
  | lit x ws =>
    rcases h with ⟨rfl, i, rfl⟩ | ⟨rfl, s, rfl⟩ | ⟨rfl, rfl⟩
    · exact ⟨parts_of (k := 0) rfl (by show ¬ isWh 2 (some 1) (some (1 + 0)); decide +kernel) rfl, tail_of (k := 0) rfl (by show ¬ isWh 2 (some (1 + 0)) none; decide +kernel) rfl⟩
    · exact ⟨parts_of (k := 0) rfl (by show ¬ isWh 2 (some 1) (some (1 + 0)); decide +kernel) rfl, tail_of (k := 0) rfl (by show ¬ isWh 2 (some (1 + 0)) none; decide +kernel) rfl⟩
    · exact ⟨parts_of (k := 0) rfl (by show ¬ isWh 1 (some 1) (some (1 + 0)); decide +kernel) rfl, tail_of (k := 0) rfl (by show ¬ isWh 1 (some (1 + 0)) none; decide +kernel) rfl⟩
  | pt x l p =>
    have lk : d_PART_COUNTS.lookup x = some (.int 0) := by
      rcases h with ⟨rfl, _⟩ | ⟨hx, _⟩
      · rfl
      · exact lk0 hx
    exact ⟨parts_of (k := 0) lk (by show ¬ isWh 3 (some 1) (some (1 + 0)); decide +kernel) rfl, tail_of (k := 0) lk (by show ¬ isWh 3 (some (1 + 0)) none; decide +kernel) rfl⟩
  | fd a l p => exact ⟨parts_of (k := 1) rfl (by show ¬ isWh 4 (some 1) (some (1 + 1)); decide +kernel) rfl, tail_of (k := 1) rfl (by show ¬ isWh 4 (some (1 + 1)) none; decide +kernel) rfl⟩
  | o1 x a => exact ⟨parts_of (k := 1) (lk1 h.1) (by show ¬ isWh 2 (some 1) (some (1 + 1)); decide +kernel) rfl, tail_of (k := 1) (lk1 h.1) (by show ¬ isWh 2 (some (1 + 1)) none; decide +kernel) rfl⟩
  | o2 x a b => exact ⟨parts_of (k := 2) (lk2 h.1) (by show ¬ isWh 3 (some 1) (some (1 + 2)); decide +kernel) rfl, tail_of (k := 2) (lk2 h.1) (by show ¬ isWh 3 (some (1 + 2)) none; decide +kernel) rfl⟩
  | o3 a b c => exact ⟨parts_of (k := 3) rfl (by show ¬ isWh 4 (some 1) (some (1 + 3)); decide +kernel) rfl, tail_of (k := 3) rfl (by show ¬ isWh 4 (some (1 + 3)) none; decide +kernel) rfl⟩
theorem Gr.setNew {base st : Hs} {rr : Nat} {o : Ob} (h : base.length ≤ rr) (g : Gr base st) : Gr base (st.set rr o) := ⟨by simpa using g.1, fun j hj => by rw [List.getElem?_set_ne (by omega)]; exact g.2 j hj⟩
theorem compG_all {α ι : Type} {ck : Hs → Prop} {gt : ι → Wv → Hs → Re Bool} {ge : ι → Wv → Hs → Re Wv} {rr : Nat} (f g : α → Wv) (hck : ∀ st, ck st) (ht : ∀ i v st, gt i v st = .ok true st) :
    ∀ (ws : List α), (∀ a ∈ ws, ∀ st, ∃ st', Gr st st' ∧ ∀ i, ge i (f a) st = .ok (g a) st') → ∀ (acc : List Wv) (st : Hs), st[rr]? = some (.lst acc) → acc.length + ws.length < lim →
      ∃ st', st'[rr]? = some (.lst (acc ++ ws.map g)) ∧ (∀ base : Hs, base.length ≤ rr → Gr base st → Gr base st') ∧ ∀ i, compG ck (gt i) (ge i) rr (ws.map f) st = some st'
  | [], _, acc, st, hg, _ => ⟨st, by simpa using hg, fun _ _ h => h, fun _ => rfl⟩
  | a :: r, h, acc, st, hg, hl => by
    have hl' : acc.length + (r.length + 1) < lim := hl
    obtain ⟨s1, g1, e1⟩ := h a List.mem_cons_self st
    have hg1 := g1.get hg
    obtain ⟨s2, g2, k2, e2⟩ := compG_all (ck := ck) (gt := gt) (ge := ge) f g hck ht r (fun b hb => h b (List.mem_cons_of_mem _ hb)) (acc ++ [g a]) (s1.set rr (.lst (acc ++ [g a]))) (set_get hg1) (by simp; omega)
    refine ⟨s2, by simpa using g2, fun base hb k => k2 base hb (Gr.setNew hb (k.trans g1)), fun i => ?_⟩
    rw [List.map_cons]
    unfold compG
    rw [ht]
    dsimp only
    rw [e1 i]
    dsimp only
    rw [app_l hg1 (by omega)]
    dsimp only
    rw [if_pos (hck _)]
    exact e2 i
theorem tupC {l : Nat} {st : Hs} {ws : List Wv} (h : st[l]? = some (.lst ws)) : oTupC [.ref l] st = .ok (.tup ws) st := by
  show (match lstOf st l with | some ws => Re.ok (Wv.tup ws) st | none => .bad) = _
  rw [lst_get h]
theorem cat {x : Wv} {xs ys : List Wv} {st : Hs} (h : xs.length + ys.length ≤ 100) : oAdd (.tup (x :: xs)) (.tup ys) st = .ok (.tup (x :: (xs ++ ys))) st := by
  show (if (x :: xs).length + ys.length ≤ lim then Re.ok (Wv.tup (x :: xs ++ ys)) st else .bad) = _
  rw [if_pos (by simp [lim]; omega)]
  rfl
section
variable {L : LF} {wy : Wv}
def Rb (L : LF) (wy : Wv) (n : Nat) (f f' : Fm) : Prop := ∀ st : Hs, ∃ st', Gr st st' ∧ ∀ p : Lm, R_rebuilt p L n [f.w, .fn p [wy]] st = .ok f'.w st'
theorem kidsR {n : Nat} {ks : List (Fm × Fm)} (h : ∀ q ∈ ks, Rb L wy n q.1 q.2) (hl : ks.length ≤ 3) (st : Hs) : ∃ st', Gr st st' ∧ st'[st.length]? = some (.lst (ks.map fun q => q.2.w)) ∧
    ∀ (p : Lm) (ρ : Rho), ρ[1]? = some (some (.fn p [wy])) → compRun [("goes", 1)] (g_rebuilt_C1t p L (R_rebuilt p L n)) (g_rebuilt_C1e p L (R_rebuilt p L n)) ρ (none, ks.map fun q => q.1.w) st = .ok (.ref st.length) st' := by
  obtain ⟨st', g1, g2, e⟩ := compG_all (ι := Lm) (ck := ckOf (none, ks.map fun q => q.1.w)) (gt := fun p v => g_rebuilt_C1t p L (R_rebuilt p L n) (some v :: [some (.fn p [wy])])) (ge := fun p v => g_rebuilt_C1e p L (R_rebuilt p L n) (some v :: [some (.fn p [wy])])) (rr := st.length) (fun q : Fm × Fm => q.1.w) (fun q => q.2.w) (fun _ => trivial) (fun _ _ _ => rfl) ks
    (fun q hq s => by
      obtain ⟨s', k, e⟩ := h q hq s
      refine ⟨s', k, fun p => ?_⟩
      unfold g_rebuilt_C1e
      simp [e p]) [] (st ++ [.lst []]) new_get (by simp [lim]; omega)
  refine ⟨st', g2 st (Nat.le_refl _) Gr.push, by simpa using g1, fun p ρ hρ => ?_⟩
  have ec : capR [("goes", 1)] ρ = [some (.fn p [wy])] := by
    unfold capR
    simp [hρ]
  unfold compRun
  rw [ec]
  have := e p
  simp only [this]
theorem nodeN {n : Nat} {x : S} {ks : List (Fm × Fm)} {ws tl : List Wv} (hp : ∀ st, F_parts_of [.tup (.str x :: ws)] st = .ok (.tup (ks.map fun q => q.1.w)) st) (ht : ∀ st, F_tail_of [.tup (.str x :: ws)] st = .ok (.tup tl) st) (hx : x ≠ "at") (ha : x ∉ AF)
    (h : ∀ q ∈ ks, Rb L wy n q.1 q.2) (hl : ks.length ≤ 3) (hl2 : tl.length ≤ 3) (st : Hs) : ∃ st', Gr st st' ∧ ∀ p : Lm, R_rebuilt p L (n + 1) [.tup (.str x :: ws), .fn p [wy]] st = .ok (.tup (.str x :: ((ks.map fun q => q.2.w) ++ tl))) st' := by
  obtain ⟨s1, g1, l1, e1⟩ := kidsR h hl st
  refine ⟨s1, g1, fun p => ?_⟩
  have bx : (x == ("at" : S)) = false := beq_false_of_ne hx
  have c1 := cat (x := .str x) (xs := []) (ys := ks.map fun q => q.2.w) (st := s1) (by simp; omega)
  have c2 := cat (x := .str x) (xs := ks.map fun q => q.2.w) (ys := tl) (st := s1) (by simp; omega)
  have e2 := e1 p [some (.tup (.str x :: ws)), some (.fn p [wy]), some (.str x), some (.tup tl), none] rfl
  rw [R_rebuilt_succ]
  unfold fnF g_rebuilt
  simp [ix0, ht, bx, has_area, ha, hp, e2, tupC l1, c1, c2]
def oW : Option (List Int) → Wv
  | none => .non
  | some l => tI l
theorem callF {p : Lm} {n i : Nat} {g : GA} {ρ : Rho} {st st1 : Hs} {caps ws : List Wv} (h : ρ[i]? = some (some (.fn p caps))) (h1 : g ρ st = .ok ws st1) (hn : ws.length = n) : gCallF p n L i g ρ st = L caps ws st1 := by
  unfold gCallF
  rw [h]
  dsimp only
  rw [if_pos rfl, h1]
  show (if ws.length = n then L caps ws st1 else .bad) = _
  rw [if_pos hn]
def resR (x : S) (us : List Wv) (p' : List Int) : Option (List Int) → Wv
  | none => .tup [.str "lost"]
  | some l' => .tup (.str x :: (us ++ [tI l', tI p']))
theorem nodeR {n : Nat} {x : S} {ks : List (Fm × Fm)} {ws : List Wv} {l p' : List Int} {o : Option (List Int)} (hp : ∀ st, F_parts_of [.tup (.str x :: ws)] st = .ok (.tup (ks.map fun q => q.1.w)) st) (ht : ∀ st, F_tail_of [.tup (.str x :: ws)] st = .ok (.tup [tI l, tI p']) st) (hx : x = "at" ∨ x ∈ AF)
    (hL : ∀ st, ∃ st', Gr st st' ∧ L [wy] [.str x, tI l, tI p'] st = .ok (oW o) st') (h : ∀ q ∈ ks, Rb L wy n q.1 q.2) (hl : ks.length ≤ 3) (st : Hs) :
    ∃ st', Gr st st' ∧ ∀ p : Lm, R_rebuilt p L (n + 1) [.tup (.str x :: ws), .fn p [wy]] st = .ok (resR x (ks.map fun q => q.2.w) p' o) st' := by
  obtain ⟨s0, g0, e0⟩ := hL st
  have cond : ∀ (p : Lm) (st : Hs), gOr (gTst (gBin oEq (gVar 2) (gC (Wv.str "at")))) (gTru (gCall 1 F_has_area (gCons (gVar 2) gNil))) [some (.tup (.str x :: ws)), some (.fn p [wy]), some (.str x), some (.tup [tI l, tI p']), none] st = .ok true st := fun p st => by
    by_cases c : x = "at"
    · subst c; simp
    · have b : (x == ("at" : S)) = false := beq_false_of_ne c
      have ha : x ∈ AF := hx.resolve_left c
      simp [b, has_area, ha]
  have cf : ∀ p : Lm, gCallF p 3 L 1 (gCons (gVar 2) (gCons (gBin oIx (gVar 3) (gC (.int 0))) (gCons (gBin oIx (gVar 3) (gC (.int 1))) gNil))) [some (.tup (.str x :: ws)), some (.fn p [wy]), some (.str x), some (.tup [tI l, tI p']), none] st = .ok (oW o) s0 := fun p => by
    rw [callF (n := 3) (caps := [wy]) (ws := [.str x, tI l, tI p']) (st1 := st) rfl (by simp [ix0, ix1]) rfl]
    exact e0
  cases o with
  | none =>
    refine ⟨s0, g0, fun p => ?_⟩
    have cf' := cf p
    have is : oIs (oW none) .non s0 = .ok (.bl true) s0 := rfl
    rw [R_rebuilt_succ]
    unfold fnF g_rebuilt
    simp [ix0, ht, -e_or, cond, cf', is, resR]
  | some l' =>
    obtain ⟨s1, g1, l1, e1⟩ := kidsR h hl s0
    refine ⟨s1, g0.trans g1, fun p => ?_⟩
    have cf' := cf p
    have is : oIs (oW (some l')) .non s0 = .ok (.bl false) s0 := rfl
    have c1 := cat (x := .str x) (xs := []) (ys := ks.map fun q => q.2.w) (st := s1) (by simp; omega)
    have c2 := cat (x := .str x) (xs := ks.map fun q => q.2.w) (ys := [tI l', tI p']) (st := s1) (by simp; omega)
    have e2 := e1 p [some (.tup (.str x :: ws)), some (.fn p [wy]), some (.str x), some (.tup [tI l', tI p']), some (tI l')] rfl
    have oWs : oW (some l') = tI l' := rfl
    rw [oWs] at cf' is
    rw [R_rebuilt_succ]
    unfold fnF g_rebuilt
    simp [ix0, ix1, ht, -e_or, cond, cf', is, hp, e2, tupC l1, c1, c2, resR]
def Fm.reb (g : S → List Int → List Int → Option (List Int)) : Fm → Fm
  | .lit x ws => .lit x ws
  | .pt x l p => match g x l p with | none => .lit "lost" [] | some l' => .pt x l' p
  | .fd a l p => match g "find" l p with | none => .lit "lost" [] | some l' => .fd (a.reb g) l' p
  | .o1 x a => .o1 x (a.reb g)
  | .o2 x a b => .o2 x (a.reb g) (b.reb g)
  | .o3 a b c => .o3 (a.reb g) (b.reb g) (c.reb g)
theorem w1_no {x : S} (h : x ∈ W1) : x ≠ "at" ∧ x ∉ AF := by
  have : ∀ x ∈ W1, x ≠ "at" ∧ x ∉ AF := by decide +kernel
  exact this x h
theorem w2_no {x : S} (h : x ∈ W2) : x ≠ "at" ∧ x ∉ AF := by
  have : ∀ x ∈ W2, x ≠ "at" ∧ x ∉ AF := by decide +kernel
  exact this x h
theorem aw_af {x : S} (h : x ∈ AW) : x ∈ AF := by
  have : ∀ x ∈ AW, x ∈ AF := by decide +kernel
  exact this x h
theorem rebuilt {g : S → List Int → List Int → Option (List Int)} (hL : ∀ x l p, (Sh2 l p ∨ Sh4 l p) → ∀ st, ∃ st', Gr st st' ∧ L [wy] [.str x, tI l, tI p] st = .ok (oW (g x l p)) st') :
    ∀ (f : Fm) (n : Nat), f.sh → f.dp ≤ n → Rb L wy n f (f.reb g)
  | f, 0, _, hd => by cases f <;> simp [Fm.dp] at hd
  | .lit x ws, n + 1, h, _ => fun st => by
    obtain ⟨n1, n2⟩ := node (f := .lit x ws) h
    have hx : x ≠ "at" ∧ x ∉ AF := by
      rcases h with ⟨rfl, _⟩ | ⟨rfl, _⟩ | ⟨rfl, _⟩ <;> decide +kernel
    have hl : ws.length ≤ 3 := by
      rcases h with ⟨_, i, rfl⟩ | ⟨_, i, rfl⟩ | ⟨_, rfl⟩ <;> simp
    exact nodeN (ks := []) n1 n2 hx.1 hx.2 (fun _ z => by cases z) (Nat.zero_le _) hl st
  | .pt x l p, n + 1, h, _ => fun st => by
    obtain ⟨n1, n2⟩ := node (f := .pt x l p) h
    have hx : x = "at" ∨ x ∈ AF := h.imp (fun z => z.1) fun z => aw_af z.1
    have hs : Sh2 l p ∨ Sh4 l p := h.imp (fun z => z.2) fun z => z.2
    obtain ⟨s1, g1, e1⟩ := nodeR (n := n) (x := x) (ws := [tI l, tI p]) (ks := []) (o := g x l p) n1 n2 hx (hL x l p hs) (fun _ z => by cases z) (Nat.zero_le _) st
    refine ⟨s1, g1, fun q => ?_⟩
    show R_rebuilt q L (n + 1) [.tup (.str x :: [tI l, tI p]), .fn q [wy]] st = _
    rw [e1 q]
    simp only [Fm.reb]
    cases g x l p <;> rfl
  | .fd a l p, n + 1, h, hd => fun st => by
    obtain ⟨n1, n2⟩ := node (f := .fd a l p) h
    have ih := rebuilt hL a n h.1 (by simp [Fm.dp] at hd; omega)
    obtain ⟨s1, g1, e1⟩ := nodeR (n := n) (x := "find") (ws := [a.w, tI l, tI p]) (ks := [(a, a.reb g)]) (o := g "find" l p) n1 n2 (.inr (by decide +kernel)) (hL "find" l p (.inr h.2)) (fun q z => by rw [List.mem_singleton.mp z]; exact ih) (by simp) st
    refine ⟨s1, g1, fun q => ?_⟩
    show R_rebuilt q L (n + 1) [.tup (.str "find" :: [a.w, tI l, tI p]), .fn q [wy]] st = _
    rw [e1 q]
    simp only [Fm.reb]
    cases g "find" l p <;> rfl
  | .o1 x a, n + 1, h, hd => fun st => by
    obtain ⟨n1, n2⟩ := node (f := .o1 x a) h
    have ih := rebuilt hL a n h.2 (by simp [Fm.dp] at hd; omega)
    exact nodeN (ks := [(a, a.reb g)]) n1 n2 (w1_no h.1).1 (w1_no h.1).2 (fun q z => by rw [List.mem_singleton.mp z]; exact ih) (by simp) (by simp [Fm.tl]) st
  | .o2 x a b, n + 1, h, hd => fun st => by
    obtain ⟨n1, n2⟩ := node (f := .o2 x a b) h
    have i1 := rebuilt hL a n h.2.1 (by simp [Fm.dp] at hd; omega)
    have i2 := rebuilt hL b n h.2.2 (by simp [Fm.dp] at hd; omega)
    exact nodeN (ks := [(a, a.reb g), (b, b.reb g)]) n1 n2 (w2_no h.1).1 (w2_no h.1).2 (List.forall_mem_cons.mpr ⟨i1, List.forall_mem_cons.mpr ⟨i2, fun _ z => by cases z⟩⟩) (by simp) (by simp [Fm.tl]) st
  | .o3 a b c, n + 1, h, hd => fun st => by
    obtain ⟨n1, n2⟩ := node (f := .o3 a b c) h
    have i1 := rebuilt hL a n h.1 (by simp [Fm.dp] at hd; omega)
    have i2 := rebuilt hL b n h.2.1 (by simp [Fm.dp] at hd; omega)
    have i3 := rebuilt hL c n h.2.2 (by simp [Fm.dp] at hd; omega)
    exact nodeN (x := "if") (ks := [(a, a.reb g), (b, b.reb g), (c, c.reb g)]) n1 n2 (by decide +kernel) (by decide +kernel) (List.forall_mem_cons.mpr ⟨i1, List.forall_mem_cons.mpr ⟨i2, List.forall_mem_cons.mpr ⟨i3, fun _ z => by cases z⟩⟩⟩) (by simp) (by simp [Fm.tl]) st
end
def nx (n q s : Int) : Int := if q = 1 then n else n + s
def trip (t : Int × Int × Int) : Wv := .tup [.int t.1, .int t.2.1, .int t.2.2]
theorem stepE {n q s : Int} {st : Hs} : g_stepped_C1e [some (.int n), some (.int q), some (.int s)] st = .ok (.int (nx n q s)) st := by
  unfold g_stepped_C1e nx
  by_cases c : q = 1
  · subst c; simp
  · have b : (q == 1) = false := beq_false_of_ne c
    simp [b, c]
theorem stepG : ∀ (ts : List (Int × Int × Int)) (acc : List Wv) (st : Hs), acc.length + ts.length < lim → compG2 (ck2 none) 3 (fun v => g_stepped_C1t (v.map some ++ [])) (fun v => g_stepped_C1e (v.map some ++ [])) st.length (ts.map trip) (st ++ [.lst acc]) = some (st ++ [.lst (acc ++ ts.map fun t => .int (nx t.1 t.2.1 t.2.2))])
  | [], acc, st, _ => by simp [compG2]
  | t :: r, acc, st, hl => by
    have hl' : acc.length + (r.length + 1) < lim := hl
    rw [List.map_cons]
    unfold compG2
    have e1 : partW 3 (trip t) = some [.int t.1, .int t.2.1, .int t.2.2] := rfl
    rw [e1]
    dsimp only
    have e2 : g_stepped_C1t (List.map some [Wv.int t.1, .int t.2.1, .int t.2.2] ++ []) (st ++ [.lst acc]) = .ok true (st ++ [.lst acc]) := rfl
    rw [e2]
    dsimp only
    have e3 : g_stepped_C1e (List.map some [Wv.int t.1, .int t.2.1, .int t.2.2] ++ []) (st ++ [.lst acc]) = .ok (.int (nx t.1 t.2.1 t.2.2)) (st ++ [.lst acc]) := stepE
    rw [e3]
    dsimp only
    rw [app_new (by omega)]
    dsimp only
    rw [if_pos (show ck2 none _ from trivial), stepG r (acc ++ [Wv.int (nx t.1 t.2.1 t.2.2)]) st (by simp; omega)]
    simp
theorem stepped {l p s : List Int} {ts : List (Int × Int × Int)} {a b : Int} (h1 : l.length ≤ p.length ∧ l.length ≤ 4) (hz : zipL (l.map Wv.int) (p.map Wv.int) ([a, b, a, b].map Wv.int) = ts.map trip) (hl : ts.length ≤ 4) (st : Hs) :
    F_stepped [tI l, tI p, tI [a, b]] st = .ok (tI (ts.map fun t => nx t.1 t.2.1 t.2.2)) (st ++ [.lst (ts.map fun t => .int (nx t.1 t.2.1 t.2.2))]) := by
  have c1 : oAdd (tI [a, b]) (tI [a, b]) st = .ok (.tup [.int a, .int b, .int a, .int b]) st := cat (x := .int a) (xs := [.int b]) (ys := [.int a, .int b]) (by simp)
  have z : zipW [tI l, tI p, .tup [.int a, .int b, .int a, .int b]] st = .ok (none, ts.map trip) st := by
    show (if (l.map Wv.int).length ≤ (p.map Wv.int).length ∧ (l.map Wv.int).length ≤ ([a, b, a, b].map Wv.int).length then Re.ok (none, zipL (l.map Wv.int) (p.map Wv.int) ([a, b, a, b].map Wv.int)) st else .bad) = _
    rw [if_pos (by simpa using h1), hz]
  have r : compRun2 3 [] g_stepped_C1t g_stepped_C1e [some (tI l), some (tI p), some (tI [a, b])] (none, ts.map trip) st = .ok (.ref st.length) (st ++ [.lst (ts.map fun t => .int (nx t.1 t.2.1 t.2.2))]) := by
    unfold compRun2
    have := stepG ts [] st (by simp [lim]; omega)
    show (match compG2 (ck2 none) 3 (fun v => g_stepped_C1t (v.map some ++ [])) (fun v => g_stepped_C1e (v.map some ++ [])) st.length (ts.map trip) (st ++ [.lst []]) with | some stF => Re.ok (Wv.ref st.length) stF | none => .bad) = _
    rw [this]
    simp
  have gz : giZip (gCons (gVar 0) (gCons (gVar 1) (gCons (gBin oAdd (gVar 2) (gVar 2)) gNil))) [some (tI l), some (tI p), some (tI [a, b])] st = .ok (none, ts.map trip) st := by
    unfold giZip
    simp [c1, z]
  have gc : gComp2 3 [] (giZip (gCons (gVar 0) (gCons (gVar 1) (gCons (gBin oAdd (gVar 2) (gVar 2)) gNil)))) g_stepped_C1t g_stepped_C1e [some (tI l), some (tI p), some (tI [a, b])] st = .ok (.ref st.length) (st ++ [.lst (ts.map fun t => .int (nx t.1 t.2.1 t.2.2))]) := by
    unfold gComp2
    rw [gz]
    exact r
  have tc : oTupC [.ref st.length] (st ++ [.lst (ts.map fun t => .int (nx t.1 t.2.1 t.2.2))]) = .ok (tI (ts.map fun t => nx t.1 t.2.1 t.2.2)) (st ++ [.lst (ts.map fun t => .int (nx t.1 t.2.1 t.2.2))]) := by
    rw [tupC new_get]
    unfold tI
    simp
  unfold F_stepped fnF g_stepped
  simp [gc, tc]
def stp : List Int → List Int → Int → Int → List Int
  | x :: l, q :: p, a, b => nx x q a :: stp l p b a
  | _, _, _, _ => []
theorem stepped_sh {l p : List Int} {a b : Int} (h : Sh2 l p ∨ Sh4 l p) (st : Hs) : ∃ st', Gr st st' ∧ F_stepped [tI l, tI p, tI [a, b]] st = .ok (tI (stp l p a b)) st' := by
  rcases h with ⟨x, y, q, r, rfl, rfl, _⟩ | ⟨x, y, z, w, q, r, s, t, rfl, rfl, _⟩
  · exact ⟨_, Gr.push, stepped (s := []) (ts := [(x, q, a), (y, r, b)]) ⟨by simp, by simp⟩ rfl (by simp) st⟩
  · exact ⟨_, Gr.push, stepped (s := []) (ts := [(x, q, a), (y, r, b), (z, s, a), (w, t, b)]) ⟨by simp, by simp⟩ rfl (by simp) st⟩
theorem stp_sh {l p : List Int} {a b : Int} (h : Sh2 l p) : Sh2 (stp l p a b) p := by
  obtain ⟨x, y, q, r, rfl, rfl, h⟩ := h
  exact ⟨_, _, q, r, rfl, rfl, h⟩
theorem stp_sh4 {l p : List Int} {a b : Int} (h : Sh4 l p) : Sh4 (stp l p a b) p := by
  obtain ⟨x, y, z, w, q, r, s, t, rfl, rfl, h⟩ := h
  exact ⟨_, _, _, _, q, r, s, t, rfl, rfl, h⟩
instance {a b : Int} : Decidable (PlOk a b) := by unfold PlOk; infer_instance
instance {a b c d : Int} : Decidable (ArOk a b c d) := by unfold ArOk; infer_instance
instance : ∀ l : List Int, Decidable (Fits l)
  | [] => isFalse (fun h => h)
  | [_] => isFalse (fun h => h)
  | [a, b] => inferInstanceAs (Decidable (PlOk a b))
  | [_, _, _] => isFalse (fun h => h)
  | [a, b, c, d] => inferInstanceAs (Decidable (ArOk a b c d))
  | _ :: _ :: _ :: _ :: _ :: _ => isFalse (fun h => h)
theorem is_place {a b : Int} {ws : List Wv} {st : Hs} : F_is_place [.tup (.int a :: .int b :: ws)] st = .ok (.bl (decide (PlOk a b))) st := by
  unfold F_is_place fnF g_is_place
  by_cases c1 : 0 ≤ a
  · by_cases c2 : a < 99
    · by_cases c3 : 0 ≤ b
      · by_cases c4 : b < 26
        · have e : decide (PlOk a b) = true := decide_eq_true ⟨c1, by omega, c3, by omega⟩
          simp [ix0, ix1, c1, c2, c3, c4, e]
        · have e : decide (PlOk a b) = false := decide_eq_false fun h => c4 (by have := h.2.2.2; omega)
          simp [ix0, ix1, c1, c2, c3, c4, e]
      · have e : decide (PlOk a b) = false := decide_eq_false fun h => c3 h.2.2.1
        simp [ix0, ix1, c1, c2, c3, e]
    · have e : decide (PlOk a b) = false := decide_eq_false fun h => c2 (by have := h.2.1; omega)
      simp [ix0, ix1, c1, c2, e]
  · have e : decide (PlOk a b) = false := decide_eq_false fun h => c1 h.1
    simp [ix0, ix1, c1, e]
theorem mulA {i j : Int} {st : Hs} (h : (-1000000 ≤ i ∧ i ≤ 1000000) ∨ (-1000000 ≤ j ∧ j ≤ 1000000)) : oMulL (.int i) (.int j) st = .ok (.int (i * j)) st := by
  rcases h with h | h
  · exact mul_l (by omega) (by omega)
  · exact mul_r (by omega) (by omega)
theorem sl_lo {a b c d : Wv} {st : Hs} : oSl2 (.tup [a, b, c, d]) none (some 2) st = .ok (.tup [a, b]) st := sl_t (by show ¬ isWh 4 none (some 2); decide +kernel) rfl
theorem sl_hi {a b c d : Wv} {st : Hs} : oSl2 (.tup [a, b, c, d]) (some 2) none st = .ok (.tup [c, d]) st := sl_t (by show ¬ isWh 4 (some 2) none; decide +kernel) rfl
def Co (a b c d : Int) : Prop := (a ≤ c ∧ b ≤ d) ∧ PlOk a b ∧ PlOk c d
instance {a b c d : Int} : Decidable (Co a b c d) := by unfold Co; infer_instance
theorem ix4 {a b c d : Wv} {st : Hs} : oIx (.tup [a, b, c, d]) (.int 0) st = .ok a st ∧ oIx (.tup [a, b, c, d]) (.int 1) st = .ok b st ∧ oIx (.tup [a, b, c, d]) (.int 2) st = .ok c st ∧ oIx (.tup [a, b, c, d]) (.int 3) st = .ok d st :=
  ⟨ix_t (L2.atI_nat (j := 0) rfl), ix_t (L2.atI_nat (j := 1) rfl), ix_t (L2.atI_nat (j := 2) rfl), ix_t (L2.atI_nat (j := 3) rfl)⟩
theorem has_corners {a b c d : Int} {st : Hs} : F_has_corners [tI [a, b, c, d]] st = .ok (.bl (decide (Co a b c d))) st := by
  obtain ⟨i0, i1, i2, i3⟩ := ix4 (a := .int a) (b := .int b) (c := .int c) (d := .int d) (st := st)
  unfold F_has_corners fnF g_has_corners tI
  simp only [List.map_cons, List.map_nil]
  by_cases c1 : a ≤ c
  · by_cases c2 : b ≤ d
    · by_cases c3 : PlOk a b
      · have e : decide (Co a b c d) = decide (PlOk c d) := by unfold Co; simp [c1, c2, c3]
        simp [i0, i1, i2, i3, c1, c2, sl_lo, sl_hi, is_place, c3, e]
      · have e : decide (Co a b c d) = false := decide_eq_false fun h => c3 h.2.1
        simp [i0, i1, i2, i3, c1, c2, sl_lo, sl_hi, is_place, c3, e]
    · have e : decide (Co a b c d) = false := decide_eq_false fun h => c2 h.1.2
      simp [i0, i1, i2, i3, c1, c2, e]
  · have e : decide (Co a b c d) = false := decide_eq_false fun h => c1 h.1.1
    simp [i0, i1, i2, i3, c1, e]
theorem is_area {a b c d : Int} {st : Hs} : F_is_area [tI [a, b, c, d]] st = .ok (.bl (decide (ArOk a b c d))) st := by
  obtain ⟨i0, i1, i2, i3⟩ := ix4 (a := .int a) (b := .int b) (c := .int c) (d := .int d) (st := st)
  unfold F_is_area fnF g_is_area
  by_cases h : Co a b c d
  · have hm : oMulL (.int (c - a + 1)) (.int (d - b + 1)) st = .ok (.int ((c - a + 1) * (d - b + 1))) st := by
      obtain ⟨⟨h1, h2⟩, h3, h4⟩ := h
      exact mulA (.inl ⟨by omega, by have := h3.1; have := h4.2.1; omega⟩)
    have am : F_area_many [tI [a, b, c, d]] st = .ok (.int ((c - a + 1) * (d - b + 1))) st := by
      unfold F_area_many fnF g_area_many tI
      simp only [List.map_cons, List.map_nil]
      simp [i0, i1, i2, i3, hm]
    have e : decide (ArOk a b c d) = decide ((c - a + 1) * (d - b + 1) ≤ 300) := by
      obtain ⟨⟨h1, h2⟩, h3, h4⟩ := h
      unfold PlOk at h3 h4
      unfold ArOk
      congr 1
      apply propext
      constructor
      · exact fun z => z.2.2.2.2.2.2
      · exact fun z => ⟨h3.1, h1, h4.2.1, h3.2.2.1, h2, h4.2.2.2, z⟩
    have hc := has_corners (a := a) (b := b) (c := c) (d := d) (st := st)
    rw [decide_eq_true h] at hc
    simp [hc, am, e]
  · have hc := has_corners (a := a) (b := b) (c := c) (d := d) (st := st)
    rw [decide_eq_false h] at hc
    have e : decide (ArOk a b c d) = false := decide_eq_false fun z => h (by
      obtain ⟨z1, z2, z3, z4, z5, z6, _⟩ := z
      exact ⟨⟨z2, z5⟩, ⟨z1, by omega, z4, by omega⟩, ⟨by omega, z3, by omega, z6⟩⟩)
    simp [hc, e]
def fitO (l : List Int) : Option (List Int) := if Fits l then some l else none
theorem spot_by {l p : List Int} (h : Sh2 l p ∨ Sh4 l p) (st : Hs) : F_spot_by [tI l] st = .ok (oW (fitO l)) st := by
  unfold F_spot_by fnF g_spot_by fitO
  rcases h with ⟨x, y, q, r, rfl, rfl, _⟩ | ⟨x, y, z, w, q, r, s, t, rfl, rfl, _⟩
  · have ln : oLen [tI [x, y]] st = .ok (.int 2) st := rfl
    have ip : F_is_place [tI [x, y]] st = .ok (.bl (decide (PlOk x y))) st := is_place (ws := [])
    by_cases c : PlOk x y
    · rw [decide_eq_true c] at ip
      rw [if_pos (show Fits [x, y] from c)]
      simp [ln, ip, oW]
    · rw [decide_eq_false c] at ip
      rw [if_neg (show ¬ Fits [x, y] from c)]
      simp [ln, ip, oW]
  · have ln : oLen [tI [x, y, z, w]] st = .ok (.int 4) st := rfl
    have ip := is_area (a := x) (b := y) (c := z) (d := w) (st := st)
    by_cases c : ArOk x y z w
    · rw [decide_eq_true c] at ip
      rw [if_pos (show Fits [x, y, z, w] from c)]
      simp [ln, ip, oW]
    · rw [decide_eq_false c] at ip
      rw [if_neg (show ¬ Fits [x, y, z, w] from c)]
      simp [ln, ip, oW]
def g1 (a b : Int) : S → List Int → List Int → Option (List Int) := fun _ l p => some (stp l p (-a) (-b))
def g2 (a b : Int) : S → List Int → List Int → Option (List Int) := fun _ l p => fitO (stp l p a b)
theorem reb_dp (g : S → List Int → List Int → Option (List Int)) : ∀ f : Fm, (f.reb g).dp ≤ f.dp
  | .lit _ _ => Nat.le_refl _
  | .pt x l p => by simp only [Fm.reb]; cases g x l p <;> simp [Fm.dp]
  | .fd a l p => by
    have := reb_dp g a
    simp only [Fm.reb]
    cases g "find" l p <;> simp only [Fm.dp] <;> omega
  | .o1 x a => by have := reb_dp g a; simp only [Fm.reb, Fm.dp]; omega
  | .o2 x a b => by have := reb_dp g a; have := reb_dp g b; simp only [Fm.reb, Fm.dp]; omega
  | .o3 a b c => by have := reb_dp g a; have := reb_dp g b; have := reb_dp g c; simp only [Fm.reb, Fm.dp]; omega
theorem reb_sh (a b : Int) : ∀ f : Fm, f.sh → (f.reb (g1 a b)).sh
  | .lit _ _, h => h
  | .pt x l p, h => h.imp (fun z => ⟨z.1, stp_sh z.2⟩) fun z => ⟨z.1, stp_sh4 z.2⟩
  | .fd f l p, h => ⟨reb_sh a b f h.1, stp_sh4 h.2⟩
  | .o1 x f, h => ⟨h.1, reb_sh a b f h.2⟩
  | .o2 x f g, h => ⟨h.1, reb_sh a b f h.2.1, reb_sh a b g h.2.2⟩
  | .o3 f g k, h => ⟨reb_sh a b f h.1, reb_sh a b g h.2.1, reb_sh a b k h.2.2⟩
theorem glam {FL : FLt} {i : Nat} {g gb : GE} {ρ : Rho} {st st1 : Hs} {w wy : Wv} {r : Re Wv} (h1 : g ρ st = .ok w st1) (h2 : ρ[i]? = some (some wy)) (h3 : ∀ p, FL p (lamF gb) [w, .fn p [wy]] st1 = r) : gLam FL i g gb ρ st = r := by
  unfold gLam
  rw [h1]
  show (match ρ[i]? with | some (some wy) => anyLm fun p => FL p (lamF gb) [w, .fn p [wy]] st1 | _ => .bad) = r
  rw [h2]
  exact anyLm_eq h3
theorem form_of {f : Fm} {a b : Int} (h : f.sh) (hd : f.dp ≤ 8) (st : Hs) : ∃ st', Gr st st' ∧ F_form_of [f.w, tI [a, b]] st = .ok (f.reb (g1 a b)).w st' := by
  have hL : ∀ x l p, (Sh2 l p ∨ Sh4 l p) → ∀ st, ∃ st', Gr st st' ∧ lamF g_form_of_M1 [tI [-a, -b]] [.str x, tI l, tI p] st = .ok (oW (g1 a b x l p)) st' := fun x l p hs st => by
    obtain ⟨s1, k1, e1⟩ := stepped_sh (a := -a) (b := -b) hs st
    refine ⟨s1, k1, ?_⟩
    unfold lamF g_form_of_M1
    simp [e1, g1, oW]
  obtain ⟨s1, k1, e1⟩ := rebuilt hL f 8 h hd st
  refine ⟨s1, k1, ?_⟩
  have gl := glam (FL := F_rebuilt) (i := 2) (g := gVar 0) (gb := g_form_of_M1) (ρ := [some f.w, some (tI [a, b]), some (tI [-a, -b])]) (st := st) rfl rfl e1
  have i0 : oIx (tI [a, b]) (.int 0) st = .ok (.int a) st := ix0
  have i1 : oIx (tI [a, b]) (.int 1) st = .ok (.int b) st := ix1
  have t2 : kTup [.int (-a), .int (-b)] st = .ok (tI [-a, -b]) st := kTup_2
  unfold F_form_of fnF g_form_of
  simp [i0, i1, -kTup_2, t2, gl]
theorem formula_by {f : Fm} {a b : Int} (h : f.sh) (hd : f.dp ≤ 8) (st : Hs) : ∃ st', Gr st st' ∧ F_formula_by [f.w, tI [a, b]] st = .ok (f.reb (g2 a b)).w st' := by
  have hL : ∀ x l p, (Sh2 l p ∨ Sh4 l p) → ∀ st, ∃ st', Gr st st' ∧ lamF g_formula_by_M1 [tI [a, b]] [.str x, tI l, tI p] st = .ok (oW (g2 a b x l p)) st' := fun x l p hs st => by
    obtain ⟨s1, k1, e1⟩ := stepped_sh (a := a) (b := b) hs st
    have e2 := spot_by (l := stp l p a b) (p := p) (hs.imp stp_sh stp_sh4) s1
    refine ⟨s1, k1, ?_⟩
    unfold lamF g_formula_by_M1
    simp [e1, e2, g2]
  obtain ⟨s1, k1, e1⟩ := rebuilt hL f 8 h hd st
  refine ⟨s1, k1, ?_⟩
  have gl := glam (FL := F_rebuilt) (i := 1) (g := gVar 0) (gb := g_formula_by_M1) (ρ := [some f.w, some (tI [a, b])]) (st := st) rfl rfl e1
  unfold F_formula_by fnF g_formula_by
  simp [gl]
theorem forT_nx {i : Nat} {gb : GS} {w : Wv} {r : List Wv} {ρ ρ' : Rho} {st st' : Hs} (h : gb (ρ.set i (some w)) st = .nx ρ' st') : forT i gb (w :: r) ρ st = forT i gb r ρ' st' := by
  rw [forT, h]
theorem forT_rt {i : Nat} {gb : GS} {w v : Wv} {r : List Wv} {ρ : Rho} {st st' : Hs} (h : gb (ρ.set i (some w)) st = .rt v st') : forT i gb (w :: r) ρ st = .rt v st' := by
  rw [forT, h]
def lx (n q u v : Int) : Int := n + (1 - q) * (v - u)
theorem ledS {l p h t : List Int} {k : Int} {x q u v : Int} (hx : L2.atI (l.map Wv.int) k = some (.int x)) (hq : L2.atI (p.map Wv.int) k = some (.int q)) (hu : L2.atI (h.map Wv.int) (k.fmod 2) = some (.int u)) (hv : L2.atI (t.map Wv.int) (k.fmod 2) = some (.int v)) (q01 : P01 q) {acc : List Wv} (ha : acc.length ≤ 10) {st : Hs} {o : Option Wv} :
    g__law_led_L1 ([some (tI l), some (tI p), some (tI h), some (tI t), some (.ref st.length), o].set 5 (some (.int k))) (st ++ [.lst acc]) = .nx [some (tI l), some (tI p), some (tI h), some (tI t), some (.ref st.length), some (.int k)] (st ++ [.lst (acc ++ [.int (lx x q u v)])]) := by
  have x1 : ∀ s : Hs, oIx (tI l) (.int k) s = .ok (.int x) s := fun s => ix_t hx
  have x2 : ∀ s : Hs, oIx (tI p) (.int k) s = .ok (.int q) s := fun s => ix_t hq
  have x3 : ∀ s : Hs, oIx (tI h) (.int (k.fmod 2)) s = .ok (.int u) s := fun s => ix_t hu
  have x4 : ∀ s : Hs, oIx (tI t) (.int (k.fmod 2)) s = .ok (.int v) s := fun s => ix_t hv
  have m1 : ∀ s : Hs, oMulL (.int (1 - q)) (.int (v - u)) s = .ok (.int ((1 - q) * (v - u))) s := fun s => mulA (.inl (by rcases q01 with rfl | rfl <;> decide))
  have ap := app_new (st := st) (acc := acc) (v := .int (x + (1 - q) * (v - u))) (by unfold lim; omega)
  unfold g__law_led_L1 lx
  simp [kMeth_l (mt := mApp) lstOf_new, x1, x2, x3, x4, m1, mod_i, ap]
def ldl : List Int → List Int → Int → Int → Int → Int → List Int
  | x :: l, q :: p, a, b, c, d => lx x q a c :: ldl l p b a d c
  | _, _, _, _, _, _ => []
theorem led {l p : List Int} {a b c d : Int} (h : Sh2 l p ∨ Sh4 l p) (st : Hs) : ∃ st', Gr st st' ∧ F__law_led [tI l, tI p, tI [a, b], tI [c, d]] st = .ok (tI (ldl l p a b c d)) st' := by
  rcases h with ⟨x, y, q, r, rfl, rfl, h1, h2⟩ | ⟨x, y, z, w, q, r, s, t, rfl, rfl, h1, h2, h3, h4⟩
  · refine ⟨st ++ [.lst ([lx x q a c, lx y r b d].map Wv.int)], Gr.push, ?_⟩
    have ln : oLen [tI [x, y]] (st ++ [.lst []]) = .ok (.int 2) (st ++ [.lst []]) := rfl
    have rw2 : rngW 0 2 = [.int 0, .int 1] := rfl
    have loop : forT 5 g__law_led_L1 [.int 0, .int 1] [some (tI [x, y]), some (tI [q, r]), some (tI [a, b]), some (tI [c, d]), some (.ref st.length), none] (st ++ [.lst []]) = .nx [some (tI [x, y]), some (tI [q, r]), some (tI [a, b]), some (tI [c, d]), some (.ref st.length), some (.int 1)] (st ++ [.lst ([lx x q a c, lx y r b d].map Wv.int)]) := by
      rw [forT_nx (ledS (l := [x, y]) (p := [q, r]) (h := [a, b]) (t := [c, d]) (k := 0) rfl rfl rfl rfl h1 (by simp)), forT_nx (ledS (l := [x, y]) (p := [q, r]) (h := [a, b]) (t := [c, d]) (k := 1) rfl rfl rfl rfl h2 (by simp))]
      rfl
    have c2 : CRng 2 := crng (by decide) (by decide)
    unfold F__law_led fnF g__law_led
    have tc : oTupC [.ref st.length] (st ++ [.lst ([lx x q a c, lx y r b d].map Wv.int)]) = .ok (tI (ldl [x, y] [q, r] a b c d)) (st ++ [.lst ([lx x q a c, lx y r b d].map Wv.int)]) := tupC new_get
    simp only [List.map_cons, List.map_nil] at loop tc
    simp [ln, c2, rw2, loop, tc]
  · refine ⟨st ++ [.lst ([lx x q a c, lx y r b d, lx z s a c, lx w t b d].map Wv.int)], Gr.push, ?_⟩
    have ln : oLen [tI [x, y, z, w]] (st ++ [.lst []]) = .ok (.int 4) (st ++ [.lst []]) := rfl
    have rw4 : rngW 0 4 = [.int 0, .int 1, .int 2, .int 3] := rfl
    have loop : forT 5 g__law_led_L1 [.int 0, .int 1, .int 2, .int 3] [some (tI [x, y, z, w]), some (tI [q, r, s, t]), some (tI [a, b]), some (tI [c, d]), some (.ref st.length), none] (st ++ [.lst []]) = .nx [some (tI [x, y, z, w]), some (tI [q, r, s, t]), some (tI [a, b]), some (tI [c, d]), some (.ref st.length), some (.int 3)] (st ++ [.lst ([lx x q a c, lx y r b d, lx z s a c, lx w t b d].map Wv.int)]) := by
      rw [forT_nx (ledS (l := [x, y, z, w]) (p := [q, r, s, t]) (h := [a, b]) (t := [c, d]) (k := 0) rfl rfl rfl rfl h1 (by simp)), forT_nx (ledS (l := [x, y, z, w]) (p := [q, r, s, t]) (h := [a, b]) (t := [c, d]) (k := 1) rfl rfl rfl rfl h2 (by simp)),
        forT_nx (ledS (l := [x, y, z, w]) (p := [q, r, s, t]) (h := [a, b]) (t := [c, d]) (k := 2) rfl rfl rfl rfl h3 (by simp)), forT_nx (ledS (l := [x, y, z, w]) (p := [q, r, s, t]) (h := [a, b]) (t := [c, d]) (k := 3) rfl rfl rfl rfl h4 (by simp))]
      rfl
    have c4 : CRng 4 := crng (by decide) (by decide)
    unfold F__law_led fnF g__law_led
    have tc : oTupC [.ref st.length] (st ++ [.lst ([lx x q a c, lx y r b d, lx z s a c, lx w t b d].map Wv.int)]) = .ok (tI (ldl [x, y, z, w] [q, r, s, t] a b c d)) (st ++ [.lst ([lx x q a c, lx y r b d, lx z s a c, lx w t b d].map Wv.int)]) := tupC new_get
    simp only [List.map_cons, List.map_nil] at loop tc
    simp [ln, c4, rw4, loop, tc]
theorem ldl_sh {l p : List Int} {a b c d : Int} (h : Sh2 l p ∨ Sh4 l p) : Sh2 (ldl l p a b c d) p ∨ Sh4 (ldl l p a b c d) p := by
  rcases h with ⟨x, y, q, r, rfl, rfl, h⟩ | ⟨x, y, z, w, q, r, s, t, rfl, rfl, h⟩
  · exact .inl ⟨_, _, q, r, rfl, rfl, h⟩
  · exact .inr ⟨_, _, _, _, q, r, s, t, rfl, rfl, h⟩
theorem fitS {l : List Int} {k x m : Int} (hx : L2.atI (l.map Wv.int) k = some (.int x)) (hm : L2.atI ([98, 25].map Wv.int) (k.fmod 2) = some (.int m)) {o : Option Wv} (st : Hs) :
    ∃ st', Gr st st' ∧ g__law_fits_L1 ([some (tI l), o, none].set 1 (some (.int k))) st = if 0 ≤ x ∧ x ≤ m then .nx [some (tI l), some (.int k), none] st' else .rt (.bl false) st' := by
  have x1 : oIx (tI l) (.int k) st = .ok (.int x) st := ix_t hx
  have x2 : oIx (.ref st.length) (.int (k.fmod 2)) (st ++ [.lst [.int 98, .int 25]]) = .ok (.int m) (st ++ [.lst [.int 98, .int 25]]) := ix_l lstOf_new hm
  unfold g__law_fits_L1
  by_cases c1 : 0 ≤ x
  · by_cases c2 : x ≤ m
    · exact ⟨_, Gr.push, by simp [x1, x2, c1, c2, mod_i]; rfl⟩
    · exact ⟨_, Gr.push, by simp [x1, x2, c1, c2, mod_i]; rfl⟩
  · exact ⟨st, Gr.refl, by simp [x1, c1]⟩
theorem law_fits {l p : List Int} (h : Sh2 l p ∨ Sh4 l p) (st : Hs) : ∃ st', Gr st st' ∧ F__law_fits [tI l] st = .ok (.bl (decide (Fits l))) st' := by
  rcases h with ⟨x, y, q, r, rfl, rfl, _⟩ | ⟨x, y, z, w, q, r, s, t, rfl, rfl, _⟩
  · have ln : ∀ s : Hs, oLen [tI [x, y]] s = .ok (.int 2) s := fun _ => rfl
    have rw2 : rngW 0 2 = [.int 0, .int 1] := rfl
    have c2 : CRng 2 := crng (by decide) (by decide)
    obtain ⟨s1, k1, e1⟩ := fitS (l := [x, y]) (k := 0) (x := x) (m := 98) rfl rfl (o := none) st
    obtain ⟨s2, k2, e2⟩ := fitS (l := [x, y]) (k := 1) (x := y) (m := 25) rfl rfl (o := some (.int 0)) s1
    by_cases a1 : 0 ≤ x ∧ x ≤ 98
    · rw [if_pos a1] at e1
      by_cases a2 : 0 ≤ y ∧ y ≤ 25
      · rw [if_pos a2] at e2
        have f : decide (Fits [x, y]) = true := decide_eq_true (show PlOk x y from ⟨a1.1, a1.2, a2.1, a2.2⟩)
        have loop : forT 1 g__law_fits_L1 [.int 0, .int 1] [some (tI [x, y]), none, none] st = .nx [some (tI [x, y]), some (.int 1), none] s2 := by rw [forT_nx e1, forT_nx e2]; rfl
        refine ⟨s2, k1.trans k2, ?_⟩
        unfold F__law_fits fnF g__law_fits
        simp [ln, c2, rw2, loop, f]
      · rw [if_neg a2] at e2
        have f : decide (Fits [x, y]) = false := decide_eq_false fun (z : PlOk x y) => a2 ⟨z.2.2.1, z.2.2.2⟩
        have loop : forT 1 g__law_fits_L1 [.int 0, .int 1] [some (tI [x, y]), none, none] st = .rt (.bl false) s2 := by rw [forT_nx e1, forT_rt e2]
        refine ⟨s2, k1.trans k2, ?_⟩
        unfold F__law_fits fnF g__law_fits
        simp [ln, c2, rw2, loop, f]
    · rw [if_neg a1] at e1
      have f : decide (Fits [x, y]) = false := decide_eq_false fun (z : PlOk x y) => a1 ⟨z.1, z.2.1⟩
      have loop : forT 1 g__law_fits_L1 [.int 0, .int 1] [some (tI [x, y]), none, none] st = .rt (.bl false) s1 := by rw [forT_rt e1]
      refine ⟨s1, k1, ?_⟩
      unfold F__law_fits fnF g__law_fits
      simp [ln, c2, rw2, loop, f]
  · have ln : ∀ s : Hs, oLen [tI [x, y, z, w]] s = .ok (.int 4) s := fun _ => rfl
    have rw4 : rngW 0 4 = [.int 0, .int 1, .int 2, .int 3] := rfl
    have c4 : CRng 4 := crng (by decide) (by decide)
    obtain ⟨s1, k1, e1⟩ := fitS (l := [x, y, z, w]) (k := 0) (x := x) (m := 98) rfl rfl (o := none) st
    obtain ⟨s2, k2, e2⟩ := fitS (l := [x, y, z, w]) (k := 1) (x := y) (m := 25) rfl rfl (o := some (.int 0)) s1
    obtain ⟨s3, k3, e3⟩ := fitS (l := [x, y, z, w]) (k := 2) (x := z) (m := 98) rfl rfl (o := some (.int 1)) s2
    obtain ⟨s4, k4, e4⟩ := fitS (l := [x, y, z, w]) (k := 3) (x := w) (m := 25) rfl rfl (o := some (.int 2)) s3
    have fin : ∀ s' : Hs, forT 1 g__law_fits_L1 [.int 0, .int 1, .int 2, .int 3] [some (tI [x, y, z, w]), none, none] st = .rt (.bl false) s' → ¬ Fits [x, y, z, w] → F__law_fits [tI [x, y, z, w]] st = .ok (.bl (decide (Fits [x, y, z, w]))) s' := fun s' loop f => by
      rw [decide_eq_false f]
      unfold F__law_fits fnF g__law_fits
      simp [ln, c4, rw4, loop]
    by_cases a1 : 0 ≤ x ∧ x ≤ 98
    · rw [if_pos a1] at e1
      by_cases a2 : 0 ≤ y ∧ y ≤ 25
      · rw [if_pos a2] at e2
        by_cases a3 : 0 ≤ z ∧ z ≤ 98
        · rw [if_pos a3] at e3
          by_cases a4 : 0 ≤ w ∧ w ≤ 25
          · rw [if_pos a4] at e4
            have loop : forT 1 g__law_fits_L1 [.int 0, .int 1, .int 2, .int 3] [some (tI [x, y, z, w]), none, none] st = .nx [some (tI [x, y, z, w]), some (.int 3), none] s4 := by rw [forT_nx e1, forT_nx e2, forT_nx e3, forT_nx e4]; rfl
            refine ⟨s4, ((k1.trans k2).trans k3).trans k4, ?_⟩
            obtain ⟨i0, i1, i2, i3⟩ := ix4 (a := .int x) (b := .int y) (c := .int z) (d := .int w) (st := s4)
            have m1 : oMulL (.int (z - x + 1)) (.int (w - y + 1)) s4 = .ok (.int ((z - x + 1) * (w - y + 1))) s4 := mulA (.inl ⟨by omega, by omega⟩)
            have i0' : oIx (tI [x, y, z, w]) (.int 0) s4 = .ok (.int x) s4 := i0
            have i1' : oIx (tI [x, y, z, w]) (.int 1) s4 = .ok (.int y) s4 := i1
            have i2' : oIx (tI [x, y, z, w]) (.int 2) s4 = .ok (.int z) s4 := i2
            have i3' : oIx (tI [x, y, z, w]) (.int 3) s4 = .ok (.int w) s4 := i3
            unfold F__law_fits fnF g__law_fits
            by_cases b1 : x ≤ z
            · by_cases b2 : y ≤ w
              · have f : decide (Fits [x, y, z, w]) = decide ((z - x + 1) * (w - y + 1) ≤ 300) := by
                  congr 1
                  apply propext
                  exact ⟨fun (q : ArOk x y z w) => q.2.2.2.2.2.2, fun q => (show ArOk x y z w from ⟨a1.1, b1, a3.2, a2.1, b2, a4.2, q⟩)⟩
                simp [ln, c4, rw4, loop, i0', i1', i2', i3', b1, b2, m1, f]
              · have f : decide (Fits [x, y, z, w]) = false := decide_eq_false fun (q : ArOk x y z w) => b2 q.2.2.2.2.1
                simp [ln, c4, rw4, loop, i0', i1', i2', i3', b1, b2, f]
            · have f : decide (Fits [x, y, z, w]) = false := decide_eq_false fun (q : ArOk x y z w) => b1 q.2.1
              simp [ln, c4, rw4, loop, i0', i1', i2', i3', b1, f]
          · rw [if_neg a4] at e4
            exact ⟨s4, ((k1.trans k2).trans k3).trans k4, fin s4 (by rw [forT_nx e1, forT_nx e2, forT_nx e3, forT_rt e4]) fun (q : ArOk x y z w) => a4 ⟨Int.le_trans q.2.2.2.1 q.2.2.2.2.1, q.2.2.2.2.2.1⟩⟩
        · rw [if_neg a3] at e3
          exact ⟨s3, (k1.trans k2).trans k3, fin s3 (by rw [forT_nx e1, forT_nx e2, forT_rt e3]) fun (q : ArOk x y z w) => a3 ⟨Int.le_trans q.1 q.2.1, q.2.2.1⟩⟩
      · rw [if_neg a2] at e2
        exact ⟨s2, k1.trans k2, fin s2 (by rw [forT_nx e1, forT_rt e2]) fun (q : ArOk x y z w) => a2 ⟨q.2.2.2.1, Int.le_trans q.2.2.2.2.1 q.2.2.2.2.2.1⟩⟩
    · rw [if_neg a1] at e1
      exact ⟨s1, k1, fin s1 (by rw [forT_rt e1]) fun (q : ArOk x y z w) => a1 ⟨q.1, Int.le_trans q.2.1 q.2.2.1⟩⟩
def LW : List S := ["num", "text", "lost"]
def RW : List S := ["at", "sum", "count", "least", "greatest", "find"]
def Cp (n : Nat) (a b c d : Int) (f f' : Fm) : Prop := ∀ st : Hs, ∃ st', Gr st st' ∧ R__law_copied n [f.w, tI [a, b], tI [c, d]] st = .ok f'.w st'
theorem kidsC {n : Nat} {a b c d : Int} {gt ge : GE → GE} {ks : List (Fm × Fm)} (h : ∀ q ∈ ks, Cp n a b c d q.1 q.2) (hl : ks.length ≤ 3) (st : Hs) {ct : GT} {ce : GE} (ht : ∀ ρ s, ct ρ s = .ok true s) (he : ce = gCall 3 (R__law_copied n) (gCons (gVar 0) (gCons (gVar 1) (gCons (gVar 2) gNil)))) {ρ : Rho} (h1 : ρ[1]? = some (some (tI [a, b]))) (h2 : ρ[2]? = some (some (tI [c, d]))) :
    ∃ st', Gr st st' ∧ st'[st.length]? = some (.lst (ks.map fun q => q.2.w)) ∧ compRun [("here", 1), ("there", 2)] ct ce ρ (none, ks.map fun q => q.1.w) st = .ok (.ref st.length) st' := by
  subst he
  have ec : capR [("here", 1), ("there", 2)] ρ = [some (tI [a, b]), some (tI [c, d])] := by
    unfold capR
    simp [h1, h2]
  obtain ⟨st', g1, g2, e⟩ := compG_all (ι := Unit) (ck := ckOf (none, ks.map fun q => q.1.w)) (gt := fun _ v => ct (some v :: [some (tI [a, b]), some (tI [c, d])])) (ge := fun _ v => gCall 3 (R__law_copied n) (gCons (gVar 0) (gCons (gVar 1) (gCons (gVar 2) gNil))) (some v :: [some (tI [a, b]), some (tI [c, d])])) (rr := st.length) (fun q : Fm × Fm => q.1.w) (fun q => q.2.w) (fun _ => trivial) (fun _ _ _ => ht _ _) ks
    (fun q hq s => by
      obtain ⟨s', k, e⟩ := h q hq s
      refine ⟨s', k, fun _ => ?_⟩
      simp [e]) [] (st ++ [.lst []]) new_get (by simp [lim]; omega)
  refine ⟨st', g2 st (Nat.le_refl _) Gr.push, by simpa using g1, ?_⟩
  unfold compRun
  rw [ec]
  have := e ()
  simp only [this]
section
variable {n : Nat} {a b c d : Int}
theorem inL {x : S} {st : Hs} : oIn2 (.str x) (.tup [.str "num", .str "text", .str "lost"]) st = .ok (.bl (decide (x ∈ LW))) st := in_t (ys := LW)
theorem inR {x : S} {st : Hs} : oIn2 (.str x) (.tup [.str "at", .str "sum", .str "count", .str "least", .str "greatest", .str "find"]) st = .ok (.bl (decide (x ∈ RW))) st := in_t (ys := RW)
theorem kT6 {x0 x1 x2 x3 x4 x5 : Wv} {st : Hs} : kTup [x0, x1, x2, x3, x4, x5] st = .ok (.tup [x0, x1, x2, x3, x4, x5]) st := kTup_d (by simp [lim])
theorem cpL {x : S} {ws : List Wv} (hx : x ∈ LW) (st : Hs) : R__law_copied (n + 1) [.tup (.str x :: ws), tI [a, b], tI [c, d]] st = .ok (.tup (.str x :: ws)) st := by
  rw [R__law_copied_succ]
  unfold fnF g__law_copied
  simp [ix0, inL, hx]
theorem cpN {x : S} {ks : List (Fm × Fm)} (hx : x ∉ LW) (hr : x ∉ RW) (h : ∀ q ∈ ks, Cp n a b c d q.1 q.2) (hl : ks.length ≤ 3) (hs : ∀ st, oSl2 (.tup (.str x :: ks.map fun q => q.1.w)) (some 1) none st = .ok (.tup (ks.map fun q => q.1.w)) st) (st : Hs) :
    ∃ st', Gr st st' ∧ R__law_copied (n + 1) [.tup (.str x :: ks.map fun q => q.1.w), tI [a, b], tI [c, d]] st = .ok (.tup (.str x :: ks.map fun q => q.2.w)) st' := by
  obtain ⟨s1, k1, l1, e1⟩ := kidsC (gt := id) (ge := id) h hl st (ct := g__law_copied_C1t (R__law_copied n)) (ce := g__law_copied_C1e (R__law_copied n)) (fun _ _ => rfl) rfl (ρ := [some (.tup (.str x :: ks.map fun q => q.1.w)), some (tI [a, b]), some (tI [c, d]), some (.str x), none, none]) rfl rfl
  have c1 := cat (x := .str x) (xs := []) (ys := ks.map fun q => q.2.w) (st := s1) (by simp; omega)
  refine ⟨s1, k1, ?_⟩
  rw [R__law_copied_succ]
  unfold fnF g__law_copied
  simp [ix0, inL, inR, kT6, hx, hr, hs, e1, tupC l1, c1]
theorem cpR {x : S} {ks : List (Fm × Fm)} {l p : List Int} (hx : x ∉ LW) (hr : x ∈ RW) (hsh : Sh2 l p ∨ Sh4 l p) (h : ∀ q ∈ ks, Cp n a b c d q.1 q.2) (hl : ks.length ≤ 3)
    (i2 : ∀ st, oIx (.tup (.str x :: ((ks.map fun q => q.1.w) ++ [tI l, tI p]))) (.int (-2)) st = .ok (tI l) st) (i1 : ∀ st, oIx (.tup (.str x :: ((ks.map fun q => q.1.w) ++ [tI l, tI p]))) (.int (-1)) st = .ok (tI p) st)
    (hs : ∀ st, oSl2 (.tup (.str x :: ((ks.map fun q => q.1.w) ++ [tI l, tI p]))) (some 1) (some (-2)) st = .ok (.tup (ks.map fun q => q.1.w)) st) (st : Hs) :
    ∃ st', Gr st st' ∧ R__law_copied (n + 1) [.tup (.str x :: ((ks.map fun q => q.1.w) ++ [tI l, tI p])), tI [a, b], tI [c, d]] st = .ok (resR x (ks.map fun q => q.2.w) p (fitO (ldl l p a b c d))) st' := by
  obtain ⟨s1, k1, e1⟩ := led (a := a) (b := b) (c := c) (d := d) hsh st
  obtain ⟨s2, k2, e2⟩ := law_fits (ldl_sh (a := a) (b := b) (c := c) (d := d) hsh) s1
  generalize ldl l p a b c d = l' at e1 e2
  generalize hf : (.tup (.str x :: ((ks.map fun q => q.1.w) ++ [tI l, tI p])) : Wv) = fw at i2 i1 hs
  have i0 : ∀ st, oIx fw (.int 0) st = .ok (.str x) st := fun st => by rw [← hf]; exact ix0
  by_cases cf : Fits l'
  · rw [decide_eq_true cf] at e2
    obtain ⟨s3, k3, l3, e3⟩ := kidsC (gt := id) (ge := id) h hl s2 (ct := g__law_copied_C2t (R__law_copied n)) (ce := g__law_copied_C2e (R__law_copied n)) (fun _ _ => rfl) rfl (ρ := [some fw, some (tI [a, b]), some (tI [c, d]), some (.str x), some (tI l'), none]) rfl rfl
    have c1 := cat (x := .str x) (xs := []) (ys := ks.map fun q => q.2.w) (st := s3) (by simp; omega)
    have c2 := cat (x := .str x) (xs := ks.map fun q => q.2.w) (ys := [tI l', tI p]) (st := s3) (by simp; omega)
    refine ⟨s3, (k1.trans k2).trans k3, ?_⟩
    have fo : fitO l' = some l' := by unfold fitO; rw [if_pos cf]
    rw [fo, R__law_copied_succ]
    unfold fnF g__law_copied
    simp [i0, inL, inR, kT6, hx, hr, i1, i2, e1, e2, hs, e3, tupC l3, c1, c2, resR]
  · rw [decide_eq_false cf] at e2
    refine ⟨s2, k1.trans k2, ?_⟩
    have fo : fitO l' = none := by unfold fitO; rw [if_neg cf]
    rw [fo, R__law_copied_succ]
    unfold fnF g__law_copied
    simp [i0, inL, inR, kT6, hx, hr, i1, i2, e1, e2, resR]
def g3 (a b c d : Int) : S → List Int → List Int → Option (List Int) := fun _ l p => fitO (ldl l p a b c d)
theorem w1_no' {x : S} (h : x ∈ W1) : x ∉ LW ∧ x ∉ RW := by
  have : ∀ x ∈ W1, x ∉ LW ∧ x ∉ RW := by decide +kernel
  exact this x h
theorem w2_no' {x : S} (h : x ∈ W2) : x ∉ LW ∧ x ∉ RW := by
  have : ∀ x ∈ W2, x ∉ LW ∧ x ∉ RW := by decide +kernel
  exact this x h
theorem aw_rw {x : S} (h : x ∈ AW) : x ∉ LW ∧ x ∈ RW := by
  have : ∀ x ∈ AW, x ∉ LW ∧ x ∈ RW := by decide +kernel
  exact this x h
theorem law_copied : ∀ (f : Fm) (n : Nat), f.sh → f.dp ≤ n → Cp n a b c d f (f.reb (g3 a b c d))
  | f, 0, _, hd => by cases f <;> simp [Fm.dp] at hd
  | .lit x ws, n + 1, h, _ => fun st => by
    have hx : x ∈ LW := by rcases h with ⟨rfl, _⟩ | ⟨rfl, _⟩ | ⟨rfl, _⟩ <;> decide +kernel
    exact ⟨st, Gr.refl, cpL hx st⟩
  | .pt x l p, n + 1, h, _ => fun st => by
    have hx : x ∉ LW ∧ x ∈ RW := by
      rcases h with ⟨rfl, _⟩ | ⟨hx, _⟩
      · decide +kernel
      · exact aw_rw hx
    have hs : Sh2 l p ∨ Sh4 l p := h.imp (fun z => z.2) fun z => z.2
    obtain ⟨s1, g1, e1⟩ := cpR (n := n) (a := a) (b := b) (c := c) (d := d) (x := x) (ks := []) (l := l) (p := p) hx.1 hx.2 hs (fun _ z => by cases z) (Nat.zero_le _) (fun _ => ix_t rfl) (fun _ => ix_t rfl) (fun _ => sl_t (by show ¬ isWh 3 (some 1) (some (-2)); decide +kernel) rfl) st
    refine ⟨s1, g1, ?_⟩
    show R__law_copied (n + 1) [.tup (.str x :: [tI l, tI p]), tI [a, b], tI [c, d]] st = _
    refine e1.trans ?_
    simp only [Fm.reb, g3]
    cases fitO (ldl l p a b c d) <;> rfl
  | .fd f l p, n + 1, h, hd => fun st => by
    have ih := law_copied f n h.1 (by simp [Fm.dp] at hd; omega)
    obtain ⟨s1, g1, e1⟩ := cpR (n := n) (a := a) (b := b) (c := c) (d := d) (x := "find") (ks := [(f, f.reb (g3 a b c d))]) (l := l) (p := p) (by decide +kernel) (by decide +kernel) (.inr h.2) (fun q z => by rw [List.mem_singleton.mp z]; exact ih) (by simp) (fun _ => ix_t rfl) (fun _ => ix_t rfl) (fun _ => sl_t (by show ¬ isWh 4 (some 1) (some (-2)); decide +kernel) rfl) st
    refine ⟨s1, g1, ?_⟩
    show R__law_copied (n + 1) [.tup (.str "find" :: [f.w, tI l, tI p]), tI [a, b], tI [c, d]] st = _
    refine e1.trans ?_
    simp only [Fm.reb, g3]
    cases fitO (ldl l p a b c d) <;> rfl
  | .o1 x f, n + 1, h, hd => fun st => by
    have i1 := law_copied f n h.2 (by simp [Fm.dp] at hd; omega)
    exact cpN (ks := [(f, f.reb (g3 a b c d))]) (w1_no' h.1).1 (w1_no' h.1).2 (fun q z => by rw [List.mem_singleton.mp z]; exact i1) (by simp) (fun _ => sl_t (by show ¬ isWh 2 (some 1) none; decide +kernel) rfl) st
  | .o2 x f g, n + 1, h, hd => fun st => by
    have i1 := law_copied f n h.2.1 (by simp [Fm.dp] at hd; omega)
    have i2 := law_copied g n h.2.2 (by simp [Fm.dp] at hd; omega)
    exact cpN (ks := [(f, f.reb (g3 a b c d)), (g, g.reb (g3 a b c d))]) (w2_no' h.1).1 (w2_no' h.1).2 (List.forall_mem_cons.mpr ⟨i1, List.forall_mem_cons.mpr ⟨i2, fun _ z => by cases z⟩⟩) (by simp) (fun _ => sl_t (by show ¬ isWh 3 (some 1) none; decide +kernel) rfl) st
  | .o3 f g k, n + 1, h, hd => fun st => by
    have i1 := law_copied f n h.1 (by simp [Fm.dp] at hd; omega)
    have i2 := law_copied g n h.2.1 (by simp [Fm.dp] at hd; omega)
    have i3 := law_copied k n h.2.2 (by simp [Fm.dp] at hd; omega)
    exact cpN (x := "if") (ks := [(f, f.reb (g3 a b c d)), (g, g.reb (g3 a b c d)), (k, k.reb (g3 a b c d))]) (by decide +kernel) (by decide +kernel) (List.forall_mem_cons.mpr ⟨i1, List.forall_mem_cons.mpr ⟨i2, List.forall_mem_cons.mpr ⟨i3, fun _ z => by cases z⟩⟩⟩) (by simp) (fun _ => sl_t (by show ¬ isWh 4 (some 1) none; decide +kernel) rfl) st
end
theorem nx_lx {n q u v : Int} (h : P01 q) : nx (nx n q (-u)) q v = lx n q u v := by
  rcases h with rfl | rfl
  · simp [nx, lx]; omega
  · simp [nx, lx]
theorem stp_ldl {l p : List Int} {a b c d : Int} (h : Sh2 l p ∨ Sh4 l p) : stp (stp l p (-a) (-b)) p c d = ldl l p a b c d := by
  rcases h with ⟨x, y, q, r, rfl, rfl, h1, h2⟩ | ⟨x, y, z, w, q, r, s, t, rfl, rfl, h1, h2, h3, h4⟩
  · simp [stp, ldl, nx_lx h1, nx_lx h2]
  · simp [stp, ldl, nx_lx h1, nx_lx h2, nx_lx h3, nx_lx h4]
theorem two_one {a b c d : Int} : ∀ f : Fm, f.sh → (f.reb (g1 a b)).reb (g2 c d) = f.reb (g3 a b c d)
  | .lit _ _, _ => rfl
  | .pt x l p, h => by
    have hs : Sh2 l p ∨ Sh4 l p := h.imp (fun z => z.2) fun z => z.2
    simp only [Fm.reb, g1, g2, g3, stp_ldl hs]
  | .fd f l p, h => by
    have hs : Sh2 l p ∨ Sh4 l p := .inr h.2
    simp only [Fm.reb, g1, g2, g3, stp_ldl hs]
    rw [two_one f h.1]
  | .o1 x f, h => by simp only [Fm.reb, two_one f h.2]
  | .o2 x f g, h => by simp only [Fm.reb, two_one f h.2.1, two_one g h.2.2]
  | .o3 f g k, h => by simp only [Fm.reb, two_one f h.1, two_one g h.2.1, two_one k h.2.2]
theorem lx_same {n q u : Int} : lx n q u u = n := by unfold lx; simp
theorem ldl_same {l p : List Int} {a b : Int} (h : Sh2 l p ∨ Sh4 l p) : ldl l p a b a b = l := by
  rcases h with ⟨x, y, q, r, rfl, rfl, _⟩ | ⟨x, y, z, w, q, r, s, t, rfl, rfl, _⟩ <;> simp [ldl, lx_same]
theorem same {a b : Int} : ∀ f : Fm, f.sh → f.fit → f.reb (g3 a b a b) = f
  | .lit _ _, _, _ => rfl
  | .pt x l p, h, hf => by
    have hs : Sh2 l p ∨ Sh4 l p := h.imp (fun z => z.2) fun z => z.2
    have : fitO l = some l := by unfold fitO; rw [if_pos (show Fits l from hf)]
    simp only [Fm.reb, g3, ldl_same hs, this]
  | .fd f l p, h, hf => by
    have hs : Sh2 l p ∨ Sh4 l p := .inr h.2
    have e : fitO l = some l := by unfold fitO; rw [if_pos (show Fits l from hf.2)]
    have ih := same (a := a) (b := b) f h.1 hf.1
    unfold Fm.reb
    have : g3 a b a b "find" l p = some l := by unfold g3; rw [ldl_same hs, e]
    rw [this]
    simp only [ih]
  | .o1 x f, h, hf => by simp only [Fm.reb, same f h.2 hf]
  | .o2 x f g, h, hf => by simp only [Fm.reb, same f h.2.1 hf.1, same g h.2.2 hf.2]
  | .o3 f g k, h, hf => by simp only [Fm.reb, same f h.1 hf.1, same g h.2.1 hf.2.1, same k h.2.2 hf.2.2]
def Pw : Nat → Wv → Prop
  | 0, w => (match w with | .int _ => True | .str _ => True | _ => False)
  | n + 1, w => (match w with | .int _ => True | .str _ => True | .tup ws => ∀ v ∈ ws, Pw n v | _ => False)
theorem eqPs {n : Nat} (ih : ∀ v w, Pw n v → Pw n w → ∃ d e, (∀ st : Hs, datum st n v = some d) ∧ (∀ st : Hs, datum st n w = some e) ∧ (PyData.eqv d e = true ↔ v = w)) (i1 : ∀ v, Pw n v → ∃ d, ∀ st : Hs, datum st n v = some d) :
    ∀ (vs ws : List Wv), (∀ v ∈ vs, Pw n v) → (∀ w ∈ ws, Pw n w) → ∃ ds es, (∀ st : Hs, mapO (datum st n) vs = some ds) ∧ (∀ st : Hs, mapO (datum st n) ws = some es) ∧ (PyData.eqvAll ds es = true ↔ vs = ws)
  | [], [], _, _ => ⟨[], [], fun _ => rfl, fun _ => rfl, by simp [PyData.eqvAll]⟩
  | [], w :: ws, _, h => by
    obtain ⟨ds, es, e1, e2, e3⟩ := eqPs ih i1 [] ws (fun _ z => by cases z) fun v hv => h v (List.mem_cons_of_mem _ hv)
    obtain ⟨d, d1⟩ := i1 w (h w List.mem_cons_self)
    exact ⟨[], d :: es, fun _ => rfl, fun st => by unfold mapO; rw [d1, e2], by simp [PyData.eqvAll]⟩
  | v :: vs, [], h, _ => by
    obtain ⟨ds, es, e1, e2, e3⟩ := eqPs ih i1 vs [] (fun v hv => h v (List.mem_cons_of_mem _ hv)) (fun _ z => by cases z)
    obtain ⟨d, d1⟩ := i1 v (h v List.mem_cons_self)
    exact ⟨d :: ds, [], fun st => by unfold mapO; rw [d1, e1], fun _ => rfl, by simp [PyData.eqvAll]⟩
  | v :: vs, w :: ws, h, k => by
    obtain ⟨ds, es, e1, e2, e3⟩ := eqPs ih i1 vs ws (fun v hv => h v (List.mem_cons_of_mem _ hv)) fun v hv => k v (List.mem_cons_of_mem _ hv)
    obtain ⟨d, e, d1, d2, d3⟩ := ih v w (h v List.mem_cons_self) (k w List.mem_cons_self)
    exact ⟨d :: ds, e :: es, fun st => by unfold mapO; rw [d1, e1], fun st => by unfold mapO; rw [d2, e2], by simp [PyData.eqvAll, d3, e3]⟩
theorem datI {i : Int} {n : Nat} {st : Hs} : datum st n (.int i) = some (.int i) := by cases n <;> rfl
theorem datS {i : S} {n : Nat} {st : Hs} : datum st n (.str i) = some (.str i) := by cases n <;> rfl
theorem eqP : ∀ n : Nat, (∀ v w, Pw n v → Pw n w → ∃ d e, (∀ st : Hs, datum st n v = some d) ∧ (∀ st : Hs, datum st n w = some e) ∧ (PyData.eqv d e = true ↔ v = w)) ∧ ∀ v, Pw n v → ∃ d, ∀ st : Hs, datum st n v = some d
  | 0 => by
    have b : ∀ v, Pw 0 v → (∃ i, v = .int i) ∨ ∃ x, v = .str x := fun v h => by
      cases v with
      | int i => exact .inl ⟨i, rfl⟩
      | str x => exact .inr ⟨x, rfl⟩
      | _ => exact False.elim h
    refine ⟨fun v w h k => ?_, fun v h => ?_⟩
    · rcases b v h with ⟨i, rfl⟩ | ⟨x, rfl⟩ <;> rcases b w k with ⟨j, rfl⟩ | ⟨y, rfl⟩
      · exact ⟨_, _, fun _ => datI, fun _ => datI, by simp [PyData.eqv]⟩
      · exact ⟨_, _, fun _ => datI, fun _ => datS, by simp [PyData.eqv]⟩
      · exact ⟨_, _, fun _ => datS, fun _ => datI, by simp [PyData.eqv]⟩
      · exact ⟨_, _, fun _ => datS, fun _ => datS, by simp [PyData.eqv]⟩
    · rcases b v h with ⟨i, rfl⟩ | ⟨x, rfl⟩
      · exact ⟨_, fun _ => datI⟩
      · exact ⟨_, fun _ => datS⟩
  | n + 1 => by
    obtain ⟨ih, i1⟩ := eqP n
    have b : ∀ v, Pw (n + 1) v → (∃ i, v = .int i) ∨ (∃ x, v = .str x) ∨ ∃ ws, v = .tup ws ∧ ∀ u ∈ ws, Pw n u := fun v h => by
      cases v with
      | int i => exact .inl ⟨i, rfl⟩
      | str x => exact .inr (.inl ⟨x, rfl⟩)
      | tup ws => exact .inr (.inr ⟨ws, rfl, h⟩)
      | _ => exact False.elim h
    have dt : ∀ (ws : List Wv) (ds : List PyData), (∀ st : Hs, mapO (datum st n) ws = some ds) → ∀ st : Hs, datum st (n + 1) (.tup ws) = some (.tuple ds) := fun ws ds h st => by
      show (mapO (datum st n) ws).map PyData.tuple = _
      rw [h]
      rfl
    refine ⟨fun v w h k => ?_, fun v h => ?_⟩
    · rcases b v h with ⟨i, rfl⟩ | ⟨x, rfl⟩ | ⟨vs, rfl, hv⟩ <;> rcases b w k with ⟨j, rfl⟩ | ⟨y, rfl⟩ | ⟨ws, rfl, hw⟩
      · exact ⟨_, _, fun _ => datI, fun _ => datI, by simp [PyData.eqv]⟩
      · exact ⟨_, _, fun _ => datI, fun _ => datS, by simp [PyData.eqv]⟩
      · obtain ⟨ds, es, e1, e2, e3⟩ := eqPs ih i1 ws ws hw hw
        exact ⟨_, _, fun _ => datI, dt ws ds e1, by simp [PyData.eqv]⟩
      · exact ⟨_, _, fun _ => datS, fun _ => datI, by simp [PyData.eqv]⟩
      · exact ⟨_, _, fun _ => datS, fun _ => datS, by simp [PyData.eqv]⟩
      · obtain ⟨ds, es, e1, e2, e3⟩ := eqPs ih i1 ws ws hw hw
        exact ⟨_, _, fun _ => datS, dt ws ds e1, by simp [PyData.eqv]⟩
      · obtain ⟨ds, es, e1, e2, e3⟩ := eqPs ih i1 vs vs hv hv
        exact ⟨_, _, dt vs ds e1, fun _ => datI, by simp [PyData.eqv]⟩
      · obtain ⟨ds, es, e1, e2, e3⟩ := eqPs ih i1 vs vs hv hv
        exact ⟨_, _, dt vs ds e1, fun _ => datS, by simp [PyData.eqv]⟩
      · obtain ⟨ds, es, e1, e2, e3⟩ := eqPs ih i1 vs ws hv hw
        exact ⟨_, _, dt vs ds e1, dt ws es e2, by simp [PyData.eqv, e3]⟩
    · rcases b v h with ⟨i, rfl⟩ | ⟨x, rfl⟩ | ⟨vs, rfl, hv⟩
      · exact ⟨_, fun _ => datI⟩
      · exact ⟨_, fun _ => datS⟩
      · obtain ⟨ds, es, e1, e2, e3⟩ := eqPs ih i1 vs vs hv hv
        exact ⟨_, dt vs ds e1⟩
theorem pw_ti (l : List Int) (n : Nat) : Pw (n + 1) (tI l) := fun v hv => by
  obtain ⟨i, _, rfl⟩ := List.mem_map.mp hv
  cases n <;> trivial
theorem pw_s {x : S} : ∀ {n : Nat}, Pw n (.str x)
  | 0 => trivial
  | _ + 1 => trivial
theorem pw_i {x : Int} : ∀ {n : Nat}, Pw n (.int x)
  | 0 => trivial
  | _ + 1 => trivial
theorem pw_c {n : Nat} {a : Wv} {r : List Wv} (h : Pw n a) (k : ∀ v ∈ r, Pw n v) : ∀ v ∈ a :: r, Pw n v := List.forall_mem_cons.mpr ⟨h, k⟩
theorem pw_n {n : Nat} : ∀ v ∈ ([] : List Wv), Pw n v := fun _ z => by cases z
theorem pw_f : ∀ (f : Fm) (n : Nat), f.sh → f.dp ≤ n → Pw (n + 1) f.w
  | f, 0, _, hd => by cases f <;> simp [Fm.dp] at hd
  | .lit x ws, n + 1, h, _ => by
    refine pw_c pw_s fun v hv => ?_
    rcases h with ⟨_, i, rfl⟩ | ⟨_, s, rfl⟩ | ⟨_, rfl⟩
    · rw [List.mem_singleton.mp hv]; exact pw_i
    · rw [List.mem_singleton.mp hv]; exact pw_s
    · cases hv
  | .pt x l p, n + 1, _, _ => pw_c pw_s (pw_c (pw_ti l n) (pw_c (pw_ti p n) pw_n))
  | .fd f l p, n + 1, h, hd => pw_c pw_s (pw_c (pw_f f n h.1 (by simp [Fm.dp] at hd; omega)) (pw_c (pw_ti l n) (pw_c (pw_ti p n) pw_n)))
  | .o1 x f, n + 1, h, hd => pw_c pw_s (pw_c (pw_f f n h.2 (by simp [Fm.dp] at hd; omega)) pw_n)
  | .o2 x f g, n + 1, h, hd => pw_c pw_s (pw_c (pw_f f n h.2.1 (by simp [Fm.dp] at hd; omega)) (pw_c (pw_f g n h.2.2 (by simp [Fm.dp] at hd; omega)) pw_n))
  | .o3 f g k, n + 1, h, hd => pw_c pw_s (pw_c (pw_f f n h.1 (by simp [Fm.dp] at hd; omega)) (pw_c (pw_f g n h.2.1 (by simp [Fm.dp] at hd; omega)) (pw_c (pw_f k n h.2.2 (by simp [Fm.dp] at hd; omega)) pw_n)))
theorem eq_fg {f g : Fm} (h : f.sh) (k : g.sh) (hd : f.dp ≤ 8) (kd : g.dp ≤ 8) : ∃ b, (∀ st : Hs, oEq f.w g.w st = .ok (.bl b) st) ∧ (b = true ↔ f.w = g.w) := by
  obtain ⟨d, e, d1, d2, d3⟩ := (eqP 20).1 f.w g.w (pw_f f 19 h (by omega)) (pw_f g 19 k (by omega))
  refine ⟨PyData.eqv d e, fun st => ?_, d3⟩
  unfold oEq
  rw [d1, d2]
theorem ne_f {f : Fm} (h : f.sh) (hd : f.dp ≤ 8) (st : Hs) : oNe f.w f.w st = .ok (.bl false) st := by
  obtain ⟨d, e, d1, d2, d3⟩ := (eqP 20).1 f.w f.w (pw_f f 19 h (by omega)) (pw_f f 19 h (by omega))
  have de : e = d := Option.some.inj ((d2 st).symm.trans (d1 st))
  subst de
  exact ne_dat (d1 st) (d1 st) (d3.mpr rfl)
theorem reb3_sh (a b c d : Int) : ∀ f : Fm, f.sh → (f.reb (g3 a b c d)).sh
  | .lit _ _, h => h
  | .pt x l p, h => by
    have hs : Sh2 l p ∨ Sh4 l p := h.imp (fun z => z.2) fun z => z.2
    simp only [Fm.reb, g3, fitO]
    by_cases cf : Fits (ldl l p a b c d)
    · rw [if_pos cf]
      rcases h with ⟨hx, x1, y1, q, r, rfl, rfl, h1⟩ | ⟨hx, x1, y1, z1, w1, q, r, s, t, rfl, rfl, h1⟩
      · exact .inl ⟨hx, _, _, q, r, rfl, rfl, h1⟩
      · exact .inr ⟨hx, _, _, _, _, q, r, s, t, rfl, rfl, h1⟩
    · rw [if_neg cf]; exact .inr (.inr ⟨rfl, rfl⟩)
  | .fd f l p, h => by
    have ih := reb3_sh a b c d f h.1
    simp only [Fm.reb]
    have e : g3 a b c d "find" l p = fitO (ldl l p a b c d) := rfl
    rw [e]
    unfold fitO
    by_cases cf : Fits (ldl l p a b c d)
    · rw [if_pos cf]
      obtain ⟨_, x1, y1, z1, w1, q, r, s, t, rfl, rfl, h1⟩ := h
      exact ⟨ih, _, _, _, _, q, r, s, t, rfl, rfl, h1⟩
    · rw [if_neg cf]; exact .inr (.inr ⟨rfl, rfl⟩)
  | .o1 x f, h => ⟨h.1, reb3_sh a b c d f h.2⟩
  | .o2 x f g, h => ⟨h.1, reb3_sh a b c d f h.2.1, reb3_sh a b c d g h.2.2⟩
  | .o3 f g k, h => ⟨reb3_sh a b c d f h.1, reb3_sh a b c d g h.2.1, reb3_sh a b c d k h.2.2⟩
theorem cop_law {f : Fm} {a b c d : Int} (h : f.sh) (hd : f.dp ≤ 8) (st : Hs) : ∃ st', Gr st st' ∧ F__law_copied [f.w, tI [a, b], tI [c, d]] st = .ok (f.reb (g3 a b c d)).w st' := law_copied f 8 h hd st
def Fo (n : Nat) (a b : Int) (f f' : Fm) : Prop := ∀ st : Hs, ∃ st', Gr st st' ∧ R__law_form n [f.w, tI [a, b]] st = .ok f'.w st'
theorem kidsF {n : Nat} {a b : Int} {ks : List (Fm × Fm)} (h : ∀ q ∈ ks, Fo n a b q.1 q.2) (hl : ks.length ≤ 3) (st : Hs) {ct : GT} {ce : GE} (ht : ∀ ρ s, ct ρ s = .ok true s) (he : ce = gCall 2 (R__law_form n) (gCons (gVar 0) (gCons (gVar 1) gNil))) {ρ : Rho} (h1 : ρ[1]? = some (some (tI [a, b]))) :
    ∃ st', Gr st st' ∧ st'[st.length]? = some (.lst (ks.map fun q => q.2.w)) ∧ compRun [("place", 1)] ct ce ρ (none, ks.map fun q => q.1.w) st = .ok (.ref st.length) st' := by
  subst he
  have ec : capR [("place", 1)] ρ = [some (tI [a, b])] := by
    unfold capR
    simp [h1]
  obtain ⟨st', g1, g2, e⟩ := compG_all (ι := Unit) (ck := ckOf (none, ks.map fun q => q.1.w)) (gt := fun _ v => ct (some v :: [some (tI [a, b])])) (ge := fun _ v => gCall 2 (R__law_form n) (gCons (gVar 0) (gCons (gVar 1) gNil)) (some v :: [some (tI [a, b])])) (rr := st.length) (fun q : Fm × Fm => q.1.w) (fun q => q.2.w) (fun _ => trivial) (fun _ _ _ => ht _ _) ks
    (fun q hq s => by
      obtain ⟨s', k, e⟩ := h q hq s
      refine ⟨s', k, fun _ => ?_⟩
      simp [e]) [] (st ++ [.lst []]) new_get (by simp [lim]; omega)
  refine ⟨st', g2 st (Nat.le_refl _) Gr.push, by simpa using g1, ?_⟩
  unfold compRun
  rw [ec]
  have := e ()
  simp only [this]
section
variable {n : Nat} {a b : Int}
theorem foL {x : S} {ws : List Wv} (hx : x ∈ LW) (st : Hs) : R__law_form (n + 1) [.tup (.str x :: ws), tI [a, b]] st = .ok (.tup (.str x :: ws)) st := by
  rw [R__law_form_succ]
  unfold fnF g__law_form
  simp [ix0, inL, hx]
theorem foN {x : S} {ks : List (Fm × Fm)} (hx : x ∉ LW) (hr : x ∉ RW) (h : ∀ q ∈ ks, Fo n a b q.1 q.2) (hl : ks.length ≤ 3) (hs : ∀ st, oSl2 (.tup (.str x :: ks.map fun q => q.1.w)) (some 1) none st = .ok (.tup (ks.map fun q => q.1.w)) st) (st : Hs) :
    ∃ st', Gr st st' ∧ R__law_form (n + 1) [.tup (.str x :: ks.map fun q => q.1.w), tI [a, b]] st = .ok (.tup (.str x :: ks.map fun q => q.2.w)) st' := by
  obtain ⟨s1, k1, l1, e1⟩ := kidsF h hl st (ct := g__law_form_C1t (R__law_form n)) (ce := g__law_form_C1e (R__law_form n)) (fun _ _ => rfl) rfl (ρ := [some (.tup (.str x :: ks.map fun q => q.1.w)), some (tI [a, b]), some (.str x), none]) rfl
  have c1 := cat (x := .str x) (xs := []) (ys := ks.map fun q => q.2.w) (st := s1) (by simp; omega)
  refine ⟨s1, k1, ?_⟩
  rw [R__law_form_succ]
  unfold fnF g__law_form
  simp [ix0, inL, inR, kT6, hx, hr, hs, e1, tupC l1, c1]
theorem foR {x : S} {ks : List (Fm × Fm)} {l p : List Int} (hx : x ∉ LW) (hr : x ∈ RW) (hsh : Sh2 l p ∨ Sh4 l p) (h : ∀ q ∈ ks, Fo n a b q.1 q.2) (hl : ks.length ≤ 3)
    (i2 : ∀ st, oIx (.tup (.str x :: ((ks.map fun q => q.1.w) ++ [tI l, tI p]))) (.int (-2)) st = .ok (tI l) st) (i1 : ∀ st, oIx (.tup (.str x :: ((ks.map fun q => q.1.w) ++ [tI l, tI p]))) (.int (-1)) st = .ok (tI p) st)
    (hs : ∀ st, oSl2 (.tup (.str x :: ((ks.map fun q => q.1.w) ++ [tI l, tI p]))) (some 1) (some (-2)) st = .ok (.tup (ks.map fun q => q.1.w)) st) (st : Hs) :
    ∃ st', Gr st st' ∧ R__law_form (n + 1) [.tup (.str x :: ((ks.map fun q => q.1.w) ++ [tI l, tI p])), tI [a, b]] st = .ok (.tup (.str x :: ((ks.map fun q => q.2.w) ++ [tI (ldl l p a b 0 0), tI p]))) st' := by
  generalize hf : (.tup (.str x :: ((ks.map fun q => q.1.w) ++ [tI l, tI p])) : Wv) = fw at i2 i1 hs
  have i0 : ∀ st, oIx fw (.int 0) st = .ok (.str x) st := fun st => by rw [← hf]; exact ix0
  obtain ⟨s1, k1, l1, e1⟩ := kidsF h hl st (ct := g__law_form_C2t (R__law_form n)) (ce := g__law_form_C2e (R__law_form n)) (fun _ _ => rfl) rfl (ρ := [some fw, some (tI [a, b]), some (.str x), none]) rfl
  obtain ⟨s2, k2, e2⟩ := led (a := a) (b := b) (c := 0) (d := 0) hsh s1
  generalize ldl l p a b 0 0 = l' at e2
  have c1 := cat (x := .str x) (xs := []) (ys := ks.map fun q => q.2.w) (st := s1) (by simp; omega)
  have c2 := cat (x := .str x) (xs := ks.map fun q => q.2.w) (ys := [tI l', tI p]) (st := s2) (by simp; omega)
  have t0 : ∀ s : Hs, kTup [.int 0, .int 0] s = .ok (tI [0, 0]) s := fun _ => kTup_2
  have t2 : ∀ s : Hs, kTup [tI l', tI p] s = .ok (.tup [tI l', tI p]) s := fun _ => kTup_2
  refine ⟨s2, k1.trans k2, ?_⟩
  rw [R__law_form_succ]
  unfold fnF g__law_form
  simp [i0, inL, inR, kT6, hx, hr, i1, i2, hs, e1, tupC l1, c1, -kTup_2, t0, e2, t2, c2]
theorem lx_nx {m q u : Int} (h : P01 q) : lx m q u 0 = nx m q (-u) := by
  rcases h with rfl | rfl
  · simp [nx, lx]
  · simp [nx, lx]
theorem ldl_stp {l p : List Int} (h : Sh2 l p ∨ Sh4 l p) : ldl l p a b 0 0 = stp l p (-a) (-b) := by
  rcases h with ⟨x, y, q, r, rfl, rfl, h1, h2⟩ | ⟨x, y, z, w, q, r, s, t, rfl, rfl, h1, h2, h3, h4⟩
  · simp [stp, ldl, lx_nx h1, lx_nx h2]
  · simp [stp, ldl, lx_nx h1, lx_nx h2, lx_nx h3, lx_nx h4]
theorem law_form : ∀ (f : Fm) (n : Nat), f.sh → f.dp ≤ n → Fo n a b f (f.reb (g1 a b))
  | f, 0, _, hd => by cases f <;> simp [Fm.dp] at hd
  | .lit x ws, n + 1, h, _ => fun st => by
    have hx : x ∈ LW := by rcases h with ⟨rfl, _⟩ | ⟨rfl, _⟩ | ⟨rfl, _⟩ <;> decide +kernel
    exact ⟨st, Gr.refl, foL hx st⟩
  | .pt x l p, n + 1, h, _ => fun st => by
    have hx : x ∉ LW ∧ x ∈ RW := by
      rcases h with ⟨rfl, _⟩ | ⟨hx, _⟩
      · decide +kernel
      · exact aw_rw hx
    have hs : Sh2 l p ∨ Sh4 l p := h.imp (fun z => z.2) fun z => z.2
    have r := foR (n := n) (a := a) (b := b) (x := x) (ks := []) (l := l) (p := p) hx.1 hx.2 hs (fun _ z => by cases z) (Nat.zero_le _) (fun _ => ix_t rfl) (fun _ => ix_t rfl) (fun _ => sl_t (by show ¬ isWh 3 (some 1) (some (-2)); decide +kernel) rfl) st
    rw [ldl_stp hs] at r
    exact r
  | .fd f l p, n + 1, h, hd => fun st => by
    have ih := law_form f n h.1 (by simp [Fm.dp] at hd; omega)
    have r := foR (n := n) (a := a) (b := b) (x := "find") (ks := [(f, f.reb (g1 a b))]) (l := l) (p := p) (by decide +kernel) (by decide +kernel) (.inr h.2) (fun q z => by rw [List.mem_singleton.mp z]; exact ih) (by simp) (fun _ => ix_t rfl) (fun _ => ix_t rfl) (fun _ => sl_t (by show ¬ isWh 4 (some 1) (some (-2)); decide +kernel) rfl) st
    rw [ldl_stp (.inr h.2)] at r
    exact r
  | .o1 x f, n + 1, h, hd => fun st => by
    have i1 := law_form f n h.2 (by simp [Fm.dp] at hd; omega)
    exact foN (ks := [(f, f.reb (g1 a b))]) (w1_no' h.1).1 (w1_no' h.1).2 (fun q z => by rw [List.mem_singleton.mp z]; exact i1) (by simp) (fun _ => sl_t (by show ¬ isWh 2 (some 1) none; decide +kernel) rfl) st
  | .o2 x f g, n + 1, h, hd => fun st => by
    have i1 := law_form f n h.2.1 (by simp [Fm.dp] at hd; omega)
    have i2 := law_form g n h.2.2 (by simp [Fm.dp] at hd; omega)
    exact foN (ks := [(f, f.reb (g1 a b)), (g, g.reb (g1 a b))]) (w2_no' h.1).1 (w2_no' h.1).2 (List.forall_mem_cons.mpr ⟨i1, List.forall_mem_cons.mpr ⟨i2, fun _ z => by cases z⟩⟩) (by simp) (fun _ => sl_t (by show ¬ isWh 3 (some 1) none; decide +kernel) rfl) st
  | .o3 f g k, n + 1, h, hd => fun st => by
    have i1 := law_form f n h.1 (by simp [Fm.dp] at hd; omega)
    have i2 := law_form g n h.2.1 (by simp [Fm.dp] at hd; omega)
    have i3 := law_form k n h.2.2 (by simp [Fm.dp] at hd; omega)
    exact foN (x := "if") (ks := [(f, f.reb (g1 a b)), (g, g.reb (g1 a b)), (k, k.reb (g1 a b))]) (by decide +kernel) (by decide +kernel) (List.forall_mem_cons.mpr ⟨i1, List.forall_mem_cons.mpr ⟨i2, List.forall_mem_cons.mpr ⟨i3, fun _ z => by cases z⟩⟩⟩) (by simp) (fun _ => sl_t (by show ¬ isWh 4 (some 1) none; decide +kernel) rfl) st
end
theorem cat' {xs ys : List Wv} {st : Hs} (h : xs.length + ys.length ≤ 100) : oAdd (.tup xs) (.tup ys) st = .ok (.tup (xs ++ ys)) st := by
  show (if xs.length + ys.length ≤ lim then Re.ok (Wv.tup (xs ++ ys)) st else .bad) = _
  rw [if_pos (by simp [lim]; omega)]
theorem sl_take {ws : List Wv} {k : Nat} (hk : k < ws.length) (st : Hs) : oSl2 (.tup ws) none (some (k : Int)) st = .ok (.tup (ws.take k)) st := by
  have e1 : HT.sIx ws.length ws.length (some (k : Int)) = k := by rw [HT.sIx_nat]; omega
  have e2 : HT.sIx ws.length 0 none = 0 := rfl
  refine sl_t (fun h => ?_) ?_
  · have := h.2
    rw [e1] at this
    omega
  · unfold cutW
    rw [e1, e2]
    simp
theorem sl_drop {ws : List Wv} {k : Nat} (hk : k < ws.length) (st : Hs) : oSl2 (.tup ws) (some ((k : Int) + 1)) none st = .ok (.tup (ws.drop (k + 1))) st := by
  have e1 : HT.sIx ws.length 0 (some ((k : Int) + 1)) = k + 1 := by
    have := HT.sIx_nat ws.length 0 (k + 1)
    rw [Int.natCast_add] at this
    rw [show ((k : Int) + 1) = (k : Int) + ((1 : Nat) : Int) from rfl, this]
    omega
  have e2 : HT.sIx ws.length ws.length none = ws.length := rfl
  refine sl_t (fun h => ?_) ?_
  · have := h.1
    rw [e1] at this
    omega
  · unfold cutW
    rw [e1, e2]
    exact List.take_of_length_le (by simp)
def put {α : Type} (l : List α) (k : Nat) (y : α) : List α := l.take k ++ y :: l.drop (k + 1)
theorem p01 {q : Int} (h : P01 q) : P01 (1 - q) := by
  rcases h with rfl | rfl
  · exact .inr rfl
  · exact .inl rfl
theorem put_sh {l p : List Int} (h : Sh2 l p ∨ Sh4 l p) {k : Nat} (hk : k < p.length) : ∃ v q, l[k]? = some v ∧ p[k]? = some q ∧ l.length = p.length ∧ p.length ≤ 4 ∧
    (Sh2 l p → Sh2 l (put p k (1 - q)) ∧ Sh2 (put l k (v + 1)) p) ∧ (Sh4 l p → Sh4 l (put p k (1 - q)) ∧ Sh4 (put l k (v + 1)) p) := by
  rcases h with ⟨x, y, q, r, rfl, rfl, h1, h2⟩ | ⟨x, y, z, w, q, r, s, t, rfl, rfl, h1, h2, h3, h4⟩
  · have no : ∀ {l' p' : List Int}, p'.length = 2 → ¬ Sh4 l' p' := fun hl ⟨_, _, _, _, _, _, _, _, _, e, _⟩ => by rw [e] at hl; cases hl
    match k, hk with
    | 0, _ => exact ⟨x, q, rfl, rfl, rfl, by simp, fun _ => ⟨⟨x, y, 1 - q, r, rfl, rfl, p01 h1, h2⟩, ⟨x + 1, y, q, r, rfl, rfl, h1, h2⟩⟩, fun z => absurd z (no rfl)⟩
    | 1, _ => exact ⟨y, r, rfl, rfl, rfl, by simp, fun _ => ⟨⟨x, y, q, 1 - r, rfl, rfl, h1, p01 h2⟩, ⟨x, y + 1, q, r, rfl, rfl, h1, h2⟩⟩, fun z => absurd z (no rfl)⟩
  · have no : ∀ {l' p' : List Int}, p'.length = 4 → ¬ Sh2 l' p' := fun hl ⟨_, _, _, _, _, e, _⟩ => by rw [e] at hl; cases hl
    match k, hk with
    | 0, _ => exact ⟨x, q, rfl, rfl, rfl, by simp, fun z => absurd z (no rfl), fun _ => ⟨⟨x, y, z, w, 1 - q, r, s, t, rfl, rfl, p01 h1, h2, h3, h4⟩, ⟨x + 1, y, z, w, q, r, s, t, rfl, rfl, h1, h2, h3, h4⟩⟩⟩
    | 1, _ => exact ⟨y, r, rfl, rfl, rfl, by simp, fun z => absurd z (no rfl), fun _ => ⟨⟨x, y, z, w, q, 1 - r, s, t, rfl, rfl, h1, p01 h2, h3, h4⟩, ⟨x, y + 1, z, w, q, r, s, t, rfl, rfl, h1, h2, h3, h4⟩⟩⟩
    | 2, _ => exact ⟨z, s, rfl, rfl, rfl, by simp, fun z => absurd z (no rfl), fun _ => ⟨⟨x, y, z, w, q, r, 1 - s, t, rfl, rfl, h1, h2, p01 h3, h4⟩, ⟨x, y, z + 1, w, q, r, s, t, rfl, rfl, h1, h2, h3, h4⟩⟩⟩
    | 3, _ => exact ⟨w, t, rfl, rfl, rfl, by simp, fun z => absurd z (no rfl), fun _ => ⟨⟨x, y, z, w, q, r, s, 1 - t, rfl, rfl, h1, h2, h3, p01 h4⟩, ⟨x, y, z, w + 1, q, r, s, t, rfl, rfl, h1, h2, h3, h4⟩⟩⟩
theorem put_i {l : List Int} {k : Nat} {y : Int} (hk : k < l.length) (hl : l.length ≤ 4) (st : Hs) : oSl2 (tI l) none (some (k : Int)) st = .ok (tI (l.take k)) st ∧ oSl2 (tI l) (some ((k : Int) + 1)) none st = .ok (tI (l.drop (k + 1))) st ∧
    oAdd (tI (l.take k)) (.tup [.int y]) st = .ok (tI (l.take k ++ [y])) st ∧ oAdd (tI (l.take k ++ [y])) (tI (l.drop (k + 1))) st = .ok (tI (put l k y)) st := by
  have h1 := sl_take (ws := l.map Wv.int) (k := k) (by simpa using hk) st
  have h2 := sl_drop (ws := l.map Wv.int) (k := k) (by simpa using hk) st
  rw [← List.map_take] at h1
  rw [← List.map_drop] at h2
  refine ⟨h1, h2, ?_, ?_⟩
  · have := cat' (xs := (l.take k).map Wv.int) (ys := [.int y]) (st := st) (by simp; omega)
    unfold tI
    rw [List.map_append]
    exact this
  · have := cat' (xs := (l.take k ++ [y]).map Wv.int) (ys := (l.drop (k + 1)).map Wv.int) (st := st) (by simp; omega)
    have e : (put l k y).map Wv.int = (l.take k ++ [y]).map Wv.int ++ (l.drop (k + 1)).map Wv.int := by unfold put; simp
    show oAdd (.tup ((l.take k ++ [y]).map Wv.int)) (.tup ((l.drop (k + 1)).map Wv.int)) st = .ok (.tup ((put l k y).map Wv.int)) st
    rw [e]
    exact this
theorem at_get {ws : List Wv} {k : Nat} {v : Wv} (h : ws[k]? = some v) (st : Hs) : oIx (.tup ws) (.int (k : Int)) st = .ok v st := ix_t (L2.atI_nat h)
def TL : List S := ["text", "lost"]
theorem inT {x : S} {st : Hs} : oIn2 (.str x) (.tup [.str "text", .str "lost"]) st = .ok (.bl (decide (x ∈ TL))) st := in_t (ys := TL)
theorem fmod_lt {w : Int} {m : Nat} (h : 0 < m) : ∃ k : Nat, w.fmod (m : Int) = (k : Int) ∧ k < m := by
  have a := Int.fmod_nonneg_of_pos (a := w) (b := (m : Int)) (by omega)
  have b := Int.fmod_lt_of_pos w (b := (m : Int)) (by omega)
  exact ⟨(w.fmod m).toNat, by omega, by omega⟩
section
variable {n : Nat}
def Ot (n : Nat) (f : Fm) : Prop := ∀ (w : Int) (st : Hs), ∃ (g : Fm) (st' : Hs), Gr st st' ∧ g.sh ∧ g.dp ≤ f.dp ∧ R__law_other n [f.w, .int w] st = .ok g.w st'
theorem otR {x : S} {us : List Wv} {l p : List Int} (hn : x ≠ "num") (ht : x ∉ TL) (hr : x ∈ RW) (hsh : Sh2 l p ∨ Sh4 l p) (hl : us.length ≤ 3)
    (i2 : ∀ st, oIx (.tup (.str x :: (us ++ [tI l, tI p]))) (.int (-2)) st = .ok (tI l) st) (i1 : ∀ st, oIx (.tup (.str x :: (us ++ [tI l, tI p]))) (.int (-1)) st = .ok (tI p) st)
    (sA : ∀ st, oSl2 (.tup (.str x :: (us ++ [tI l, tI p]))) none (some (-1)) st = .ok (.tup (.str x :: (us ++ [tI l]))) st) (sB : ∀ st, oSl2 (.tup (.str x :: (us ++ [tI l, tI p]))) none (some (-2)) st = .ok (.tup (.str x :: us)) st) (w : Int) (st : Hs) :
    ∃ l' p' st', Gr st st' ∧ (Sh2 l p → Sh2 l' p') ∧ (Sh4 l p → Sh4 l' p') ∧ R__law_other (n + 1) [.tup (.str x :: (us ++ [tI l, tI p])), .int w] st = .ok (.tup (.str x :: (us ++ [tI l', tI p']))) st' := by
  generalize hf : (.tup (.str x :: (us ++ [tI l, tI p])) : Wv) = fw at i2 i1 sA sB
  have i0 : ∀ st, oIx fw (.int 0) st = .ok (.str x) st := fun st => by rw [← hf]; exact ix0
  have pl : 0 < p.length := by rcases hsh with ⟨_, _, _, _, _, rfl, _⟩ | ⟨_, _, _, _, _, _, _, _, _, rfl, _⟩ <;> simp
  obtain ⟨k, ek, hk⟩ := fmod_lt (w := w) pl
  obtain ⟨v, q, hv, hq, ll, p4, sh2, sh4⟩ := put_sh hsh hk
  have ln : oLen [tI p] st = .ok (.int (p.length : Int)) st := by
    show Re.ok (Wv.int ((p.map Wv.int).length : Int)) st = _
    rw [List.length_map]
  have m1 : oMod (.int w) (.int (p.length : Int)) st = .ok (.int (k : Int)) st := by rw [mod_i (by omega), ek]
  have d4 : oFdiv (.int w) (.int 4) st = .ok (.int (w.fdiv 4)) st := fdiv_i (by decide)
  have m2 : oMod (.int (w.fdiv 4)) (.int 2) st = .ok (.int ((w.fdiv 4).fmod 2)) st := mod_i (by decide)
  have bn : (x == ("num" : S)) = false := beq_false_of_ne hn
  have aq : oIx (tI p) (.int (k : Int)) st = .ok (.int q) st := at_get (by rw [List.getElem?_map, hq]; rfl) st
  have av : oIx (tI l) (.int (k : Int)) st = .ok (.int v) st := at_get (by rw [List.getElem?_map, hv]; rfl) st
  by_cases c : (w.fdiv 4).fmod 2 = 0
  · obtain ⟨a1, a2, a3, a4⟩ := put_i (l := p) (k := k) (y := 1 - q) hk p4 st
    have c1 := cat (x := .str x) (xs := us ++ [tI l]) (ys := [tI (put p k (1 - q))]) (st := st) (by simp; omega)
    refine ⟨l, put p k (1 - q), st, Gr.refl, fun z => (sh2 z).1, fun z => (sh4 z).1, ?_⟩
    rw [R__law_other_succ]
    unfold fnF g__law_other
    simp [i0, bn, inT, ht, inR, kT6, hr, i1, ln, m1, d4, m2, c, a1, aq, a3, a2, a4, sA, c1]
  · have l4 : l.length ≤ 4 := by omega
    obtain ⟨a1, a2, a3, a4⟩ := put_i (l := l) (k := k) (y := v + 1) (by omega) l4 st
    have hs' : Sh2 (put l k (v + 1)) p ∨ Sh4 (put l k (v + 1)) p := hsh.imp (fun z => (sh2 z).2) fun z => (sh4 z).2
    obtain ⟨s1, k1, e1⟩ := law_fits hs' (st ++ [.lst [tI l, tI (put l k (v + 1))]])
    have l1 : lstOf s1 st.length = some [tI l, tI (put l k (v + 1))] := k1.lst lstOf_new
    have bc : ((w.fdiv 4).fmod 2 == 0) = false := beq_false_of_ne c
    by_cases cf : Fits (put l k (v + 1))
    · rw [decide_eq_true cf] at e1
      have x1 : oIx (.ref st.length) (.int 1) s1 = .ok (tI (put l k (v + 1))) s1 := ix_l l1 rfl
      have io : oInt2 [.bl true] s1 = .ok (.int 1) s1 := rfl
      have t2 : kTup [tI (put l k (v + 1)), tI p] s1 = .ok (.tup [tI (put l k (v + 1)), tI p]) s1 := kTup_2
      have c1 := cat (x := .str x) (xs := us) (ys := [tI (put l k (v + 1)), tI p]) (st := s1) (by simp; omega)
      refine ⟨put l k (v + 1), p, s1, Gr.push.trans k1, fun z => (sh2 z).2, fun z => (sh4 z).2, ?_⟩
      rw [R__law_other_succ]
      unfold fnF g__law_other
      simp [i0, bn, inT, ht, inR, kT6, hr, i1, i2, ln, m1, d4, m2, c, bc, a1, av, a3, a2, a4, sB, e1, io, x1, t2, c1]
    · rw [decide_eq_false cf] at e1
      have x1 : oIx (.ref st.length) (.int 0) s1 = .ok (tI l) s1 := ix_l l1 rfl
      have io : oInt2 [.bl false] s1 = .ok (.int 0) s1 := rfl
      have t2 : kTup [tI l, tI p] s1 = .ok (.tup [tI l, tI p]) s1 := kTup_2
      have c1 := cat (x := .str x) (xs := us) (ys := [tI l, tI p]) (st := s1) (by simp; omega)
      refine ⟨l, p, s1, Gr.push.trans k1, id, id, ?_⟩
      rw [R__law_other_succ]
      unfold fnF g__law_other
      simp [i0, bn, inT, ht, inR, kT6, hr, i1, i2, ln, m1, d4, m2, c, bc, a1, av, a3, a2, a4, sB, e1, io, x1, t2, c1]
theorem otN {x : S} {ks : List Fm} (hn : x ≠ "num") (ht : x ∉ TL) (hr : x ∉ RW) (h0 : 0 < ks.length) (hl : ks.length ≤ 3) (h : ∀ f ∈ ks, Ot n f) (w : Int) (st : Hs) :
    ∃ (j : Nat) (f g : Fm) (st' : Hs), ks[j]? = some f ∧ Gr st st' ∧ g.sh ∧ g.dp ≤ f.dp ∧ R__law_other (n + 1) [.tup (.str x :: ks.map Fm.w), .int w] st = .ok (.tup (.str x :: (put ks j g).map Fm.w)) st' := by
  obtain ⟨j, ej, hj⟩ := fmod_lt (w := w.fdiv 8) h0
  obtain ⟨g, s1, k1, g1, g2, e1⟩ := h ks[j] (List.getElem_mem hj) (w.fdiv 3) st
  refine ⟨j, ks[j], g, s1, List.getElem?_eq_getElem hj, k1, g1, g2, ?_⟩
  have bn : (x == ("num" : S)) = false := beq_false_of_ne hn
  have ln : oLen [.tup (.str x :: ks.map Fm.w)] st = .ok (.int ((ks.length + 1 : Nat) : Int)) st := by
    show Re.ok (Wv.int ((Wv.str x :: ks.map Fm.w).length : Int)) st = _
    rw [List.length_cons, List.length_map]
  have d8 : oFdiv (.int w) (.int 8) st = .ok (.int (w.fdiv 8)) st := fdiv_i (by decide)
  have d3 : oFdiv (.int w) (.int 3) st = .ok (.int (w.fdiv 3)) st := fdiv_i (by decide)
  generalize hM : ((ks.length + 1 : Nat) : Int) = M at ln
  have m1 : oMod (.int (w.fdiv 8)) (.int (M - 1)) st = .ok (.int (j : Int)) st := by
    rw [← hM, show ((ks.length + 1 : Nat) : Int) - 1 = (ks.length : Int) by omega, mod_i (by omega), ej]
  have lw : (Wv.str x :: ks.map Fm.w).length = ks.length + 1 := by simp
  have kk : (1 : Int) + (j : Int) = ((j + 1 : Nat) : Int) := by omega
  have a1 := sl_take (ws := .str x :: ks.map Fm.w) (k := j + 1) (by rw [lw]; omega) st
  have a2 := sl_drop (ws := .str x :: ks.map Fm.w) (k := j + 1) (by rw [lw]; omega) s1
  have ax : oIx (.tup (.str x :: ks.map Fm.w)) (.int ((j + 1 : Nat) : Int)) st = .ok ks[j].w st := at_get (by rw [List.getElem?_cons_succ, List.getElem?_map, List.getElem?_eq_getElem hj]; rfl) st
  rw [← kk] at a1 a2 ax
  rw [List.take_succ_cons, ← List.map_take] at a1
  rw [List.drop_succ_cons, ← List.map_drop] at a2
  have c1 := cat (x := .str x) (xs := (ks.take j).map Fm.w) (ys := [g.w]) (st := s1) (by simp; omega)
  have c2 := cat (x := .str x) (xs := (ks.take j).map Fm.w ++ [g.w]) (ys := (ks.drop (j + 1)).map Fm.w) (st := s1) (by simp; omega)
  have i0 : ∀ st, oIx (.tup (.str x :: ks.map Fm.w)) (.int 0) st = .ok (.str x) st := fun st => ix0
  have fin : (ks.take j).map Fm.w ++ [g.w] ++ (ks.drop (j + 1)).map Fm.w = (put ks j g).map Fm.w := by unfold put; simp
  rw [fin] at c2
  generalize (put ks j g).map Fm.w = res at c2
  clear fin
  generalize (ks.take j).map Fm.w = us1 at a1 c1 c2
  generalize (ks.drop (j + 1)).map Fm.w = us2 at a2 c2
  generalize (.tup (.str x :: ks.map Fm.w) : Wv) = fw at i0 ln a1 a2 ax
  rw [R__law_other_succ]
  unfold fnF g__law_other
  simp [i0, bn, inT, ht, inR, kT6, hr, ln, d8, m1, a1, ax, d3, e1, c1, a2, c2]
end
theorem aw_no {x : S} (h : x ∈ AW) : x ≠ "num" ∧ x ∉ TL ∧ x ∈ RW := by
  have : ∀ x ∈ AW, x ≠ "num" ∧ x ∉ TL ∧ x ∈ RW := by decide +kernel
  exact this x h
theorem w1_o {x : S} (h : x ∈ W1) : x ≠ "num" ∧ x ∉ TL ∧ x ∉ RW := by
  have : ∀ x ∈ W1, x ≠ "num" ∧ x ∉ TL ∧ x ∉ RW := by decide +kernel
  exact this x h
theorem w2_o {x : S} (h : x ∈ W2) : x ≠ "num" ∧ x ∉ TL ∧ x ∉ RW := by
  have : ∀ x ∈ W2, x ≠ "num" ∧ x ∉ TL ∧ x ∉ RW := by decide +kernel
  exact this x h
theorem otL {n : Nat} {x : S} {ws : List Wv} (h : LitOk x ws) (w : Int) (st : Hs) : ∃ ws', LitOk x ws' ∧ R__law_other (n + 1) [.tup (.str x :: ws), .int w] st = .ok (.tup (.str x :: ws')) st := by
  have m2 : oMod (.int w) (.int 2) st = .ok (.int (w.fmod 2)) st := mod_i (by decide)
  rcases h with ⟨rfl, i, rfl⟩ | ⟨rfl, s, rfl⟩ | ⟨rfl, rfl⟩
  · have d2 : oFdiv (.int i) (.int 2) st = .ok (.int (i.fdiv 2)) st := fdiv_i (by decide)
    refine ⟨[.int (i.fdiv 2 + w.fmod 2)], .inl ⟨rfl, _, rfl⟩, ?_⟩
    rw [R__law_other_succ]
    unfold fnF g__law_other
    simp [ix0, ix1, d2, m2]
  · have b : (("text" : S) == "num") = false := rfl
    have tl : ("text" : S) ∈ TL := by decide +kernel
    refine ⟨_, .inr (.inl ⟨rfl, s, rfl⟩), ?_⟩
    rw [R__law_other_succ]
    unfold fnF g__law_other
    simp [ix0, b, inT, tl]
  · have b : (("lost" : S) == "num") = false := rfl
    have tl : ("lost" : S) ∈ TL := by decide +kernel
    refine ⟨_, .inr (.inr ⟨rfl, rfl⟩), ?_⟩
    rw [R__law_other_succ]
    unfold fnF g__law_other
    simp [ix0, b, inT, tl]
theorem law_other : ∀ (f : Fm) (n : Nat), f.sh → f.dp ≤ n → Ot n f
  | f, 0, _, hd => by cases f <;> simp [Fm.dp] at hd
  | .lit x ws, n + 1, h, _ => fun w st => by
    obtain ⟨ws', h', e⟩ := otL (n := n) h w st
    exact ⟨.lit x ws', st, Gr.refl, h', Nat.le_refl _, e⟩
  | .pt x l p, n + 1, h, _ => fun w st => by
    have hx : x ≠ "num" ∧ x ∉ TL ∧ x ∈ RW := by
      rcases h with ⟨rfl, _⟩ | ⟨hx, _⟩
      · decide +kernel
      · exact aw_no hx
    have hs : Sh2 l p ∨ Sh4 l p := h.imp (fun z => z.2) fun z => z.2
    obtain ⟨l', p', s1, k1, z2, z4, e⟩ := otR (n := n) (us := []) hx.1 hx.2.1 hx.2.2 hs (Nat.zero_le _) (fun _ => ix_t rfl) (fun _ => ix_t rfl) (fun _ => sl_t (by show ¬ isWh 3 none (some (-1)); decide +kernel) rfl) (fun _ => sl_t (by show ¬ isWh 3 none (some (-2)); decide +kernel) rfl) w st
    exact ⟨.pt x l' p', s1, k1, h.imp (fun z => ⟨z.1, z2 z.2⟩) (fun z => ⟨z.1, z4 z.2⟩), Nat.le_refl _, e⟩
  | .fd f l p, n + 1, h, _ => fun w st => by
    obtain ⟨l', p', s1, k1, z2, z4, e⟩ := otR (n := n) (x := "find") (us := [f.w]) (by decide) (by decide +kernel) (by decide +kernel) (.inr h.2) (by simp) (fun _ => ix_t rfl) (fun _ => ix_t rfl) (fun _ => sl_t (by show ¬ isWh 4 none (some (-1)); decide +kernel) rfl) (fun _ => sl_t (by show ¬ isWh 4 none (some (-2)); decide +kernel) rfl) w st
    exact ⟨.fd f l' p', s1, k1, ⟨h.1, z4 h.2⟩, Nat.le_refl _, e⟩
  | .o1 x f, n + 1, h, hd => fun w st => by
    have i1 := law_other f n h.2 (by simp [Fm.dp] at hd; omega)
    obtain ⟨q1, q2, q3⟩ := w1_o h.1
    obtain ⟨j, f', g, s1, hj, k1, g1, g2, e⟩ := otN (n := n) (ks := [f]) q1 q2 q3 (by simp) (by simp) (List.forall_mem_cons.mpr ⟨i1, fun _ z => by cases z⟩) w st
    match j, hj with
    | 0, hj =>
      cases hj
      exact ⟨.o1 x g, s1, k1, ⟨h.1, g1⟩, by simp only [Fm.dp]; omega, e⟩
  | .o2 x f f2, n + 1, h, hd => fun w st => by
    have i1 := law_other f n h.2.1 (by simp [Fm.dp] at hd; omega)
    have i2 := law_other f2 n h.2.2 (by simp [Fm.dp] at hd; omega)
    obtain ⟨q1, q2, q3⟩ := w2_o h.1
    obtain ⟨j, f', g, s1, hj, k1, g1, g2, e⟩ := otN (n := n) (ks := [f, f2]) q1 q2 q3 (by simp) (by simp) (List.forall_mem_cons.mpr ⟨i1, List.forall_mem_cons.mpr ⟨i2, fun _ z => by cases z⟩⟩) w st
    match j, hj with
    | 0, hj =>
      cases hj
      exact ⟨.o2 x g f2, s1, k1, ⟨h.1, g1, h.2.2⟩, by simp only [Fm.dp]; omega, e⟩
    | 1, hj =>
      cases hj
      exact ⟨.o2 x f g, s1, k1, ⟨h.1, h.2.1, g1⟩, by simp only [Fm.dp]; omega, e⟩
  | .o3 f f2 f3, n + 1, h, hd => fun w st => by
    have i1 := law_other f n h.1 (by simp [Fm.dp] at hd; omega)
    have i2 := law_other f2 n h.2.1 (by simp [Fm.dp] at hd; omega)
    have i3 := law_other f3 n h.2.2 (by simp [Fm.dp] at hd; omega)
    obtain ⟨j, f', g, s1, hj, k1, g1, g2, e⟩ := otN (n := n) (x := "if") (ks := [f, f2, f3]) (by decide) (by decide +kernel) (by decide +kernel) (by simp) (by simp) (List.forall_mem_cons.mpr ⟨i1, List.forall_mem_cons.mpr ⟨i2, List.forall_mem_cons.mpr ⟨i3, fun _ z => by cases z⟩⟩⟩) w st
    match j, hj with
    | 0, hj =>
      cases hj
      exact ⟨.o3 g f2 f3, s1, k1, ⟨g1, h.2.1, h.2.2⟩, by simp only [Fm.dp]; omega, e⟩
    | 1, hj =>
      cases hj
      exact ⟨.o3 f g f3, s1, k1, ⟨h.1, g1, h.2.2⟩, by simp only [Fm.dp]; omega, e⟩
    | 2, hj =>
      cases hj
      exact ⟨.o3 f f2 g, s1, k1, ⟨h.1, h.2.1, g1⟩, by simp only [Fm.dp]; omega, e⟩
structure Ok (f : Fm) : Prop where
  sh : f.sh
  dp : f.dp ≤ 8
theorem Ok.g1 {f : Fm} (h : Ok f) (a b : Int) : Ok (f.reb (g1 a b)) := ⟨reb_sh a b f h.sh, Nat.le_trans (reb_dp _ f) h.dp⟩
theorem Ok.g3 {f : Fm} (h : Ok f) (a b c d : Int) : Ok (f.reb (g3 a b c d)) := ⟨reb3_sh a b c d f h.sh, Nat.le_trans (reb_dp _ f) h.dp⟩
theorem form_law {f : Fm} (h : Ok f) {a b : Int} (st : Hs) : ∃ st', Gr st st' ∧ F__law_form [f.w, tI [a, b]] st = .ok (f.reb (g1 a b)).w st' := law_form f 8 h.sh h.dp st
theorem other {f : Fm} (h : Ok f) (w : Int) (st : Hs) : ∃ g st', Gr st st' ∧ Ok g ∧ F__law_other [f.w, .int w] st = .ok g.w st' := by
  obtain ⟨g, s1, k1, g1, g2, e⟩ := law_other f 8 h.sh h.dp w st
  exact ⟨g, s1, k1, ⟨g1, Nat.le_trans g2 h.dp⟩, e⟩
theorem law_alike {f g : Fm} (h : Ok f) (k : Ok g) {a b c d : Int} (st : Hs) : ∃ st', Gr st st' ∧ F__law_alike [f.w, tI [a, b], g.w, tI [c, d]] st = .ok (.bl true) st' := by
  obtain ⟨s1, k1, e1⟩ := form_of (a := a) (b := b) h.sh h.dp st
  obtain ⟨s2, k2, e2⟩ := form_of (a := c) (b := d) k.sh k.dp s1
  obtain ⟨s3, k3, e3⟩ := form_law h (a := a) (b := b) s2
  obtain ⟨s4, k4, e4⟩ := form_law k (a := c) (b := d) s3
  obtain ⟨z, q, _⟩ := eq_fg (h.g1 a b).sh (k.g1 c d).sh (h.g1 a b).dp (k.g1 c d).dp
  refine ⟨s4, k1.trans (k2.trans (k3.trans k4)), ?_⟩
  have al : F_alike [f.w, tI [a, b], g.w, tI [c, d]] st = .ok (.bl z) s2 := by
    unfold F_alike fnF g_alike
    simp [e1, e2, q]
  have is : oIsA tbl tblT [.bl z, .ty "bool"] s2 = .ok (.bl true) s2 := rfl
  have ez : oEq (.bl z) (.bl z) s4 = .ok (.bl true) s4 := by cases z <;> rfl
  unfold F__law_alike fnF g__law_alike
  simp [al, is, e3, e4, q, -eq_b, ez]
theorem step {f g : Fm} (h : Ok f) (k : Ok g) {a b c d : Int} {x0 x1 x2 x6 x7 x8 x9 : Option Wv} (st : Hs) :
    ∃ st', Gr st st' ∧ g_law_L2 ([x0, x1, x2, some (tI [a, b]), some (tI [c, d]), some f.w, x6, x7, x8, x9].set 9 (some g.w)) st = .nx [x0, x1, x2, some (tI [a, b]), some (tI [c, d]), some f.w, x6, x7, x8, some g.w] st' := by
  obtain ⟨s1, k1, e1⟩ := law_alike h k (a := a) (b := b) (c := c) (d := d) st
  obtain ⟨s2, k2, e2⟩ := law_alike k h (a := c) (b := d) (c := a) (d := b) s1
  obtain ⟨s3, k3, e3⟩ := law_alike h k (a := a) (b := b) (c := a) (d := b) s2
  refine ⟨s3, k1.trans (k2.trans k3), ?_⟩
  unfold g_law_L2
  simp [e1, e2, e3]
theorem turn {ns : List Int} (hn : ns.length ≤ 63) {k : Int} (k0 : 0 ≤ k) (k1 : k ≤ 3) {o2 o3 o4 o5 o6 o7 o8 o9 : Option Wv} {st : Hs} (g : Gr [.scr ns] st) :
    ∃ ρ' st', g_law_L1 [some (.ref 0), some (.int k), o2, o3, o4, o5, o6, o7, o8, o9] st = .nx ρ' st' ∧ (∃ p1 p2 p3 p4 p5 p6 p7 p8 p9, ρ' = [some (.ref 0), p1, p2, p3, p4, p5, p6, p7, p8, p9]) ∧ Gr [.scr ns] st' := by
  have hl : lstOf st 0 = some (ns.map Wv.int) := g.lst rfl
  obtain ⟨v, e1⟩ := stream hl hn k0 k1
  have hr : 0 < st.length := lstOf_lt hl
  have ro : Ro st.length (st ++ [.lst [.int v]]) := ⟨v, new_get⟩
  obtain ⟨a, b, s2, e2, _, d2⟩ := spot_at ro
  obtain ⟨c, d, s3, e3, hcd, d3⟩ := spot_at d2.2
  obtain ⟨f, s4, e4, f1, f2, f3, d4⟩ := any_formula (r := st.length) 5 (k := 3) d3.2 (by decide)
  have g4 : Gr [.scr ns] s4 := Gr.keepAt (l := st.length) hr (g.trans Gr.push) ((d2.trans d3).trans d4).1
  have okf : Ok f := ⟨f1, by omega⟩
  obtain ⟨s5, k5, e5⟩ := form_of (a := a) (b := b) okf.sh okf.dp s4
  obtain ⟨s6, k6, e6⟩ := form_law okf (a := a) (b := b) s5
  obtain ⟨s7, k7, e7⟩ := formula_by (a := a) (b := b) (okf.g1 a b).sh (okf.g1 a b).dp s6
  obtain ⟨s8, k8, e8⟩ := cop_law (a := a) (b := b) (c := c) (d := d) okf.sh okf.dp s7
  obtain ⟨s9, k9, e9⟩ := formula_by (a := c) (b := d) (okf.g1 a b).sh (okf.g1 a b).dp s8
  rw [two_one f f1] at e7 e9
  rw [same f f1 f2] at e7
  have g9 : Gr [.scr ns] s9 := g4.trans (k5.trans (k6.trans (k7.trans (k8.trans k9))))
  have sm : oSum [.ref 0] s9 = .ok (.int ns.sum) s9 := sum_l (g9.lst rfl)
  obtain ⟨y, _, e10⟩ := mixed (st := s9) (c := ns.sum) (k := 700 + k) (by omega) (by omega)
  have okm := okf.g3 a b c d
  obtain ⟨u1, s11, k11, ok1, e11⟩ := other okf y s9
  obtain ⟨u2, s12, k12, ok2, e12⟩ := other okm (y.fdiv 64) s11
  have okl : Ok (.lit "lost" []) := ⟨.inr (.inr ⟨rfl, rfl⟩), by simp [Fm.dp]⟩
  have n1 := ne_f (okf.g1 a b).sh (okf.g1 a b).dp s6
  have n2 := ne_f f1 okf.dp s7
  have n3 := ne_f okm.sh okm.dp s9
  have e4' : F__law_any_formula [.ref st.length, .int 3] s3 = .ok f.w s4 := e4
  have is : oIsA tbl tblT [(f.reb (g1 a b)).w, .ty "tuple"] s5 = .ok (.bl true) s5 := rfl
  have fd : oFdiv (.int y) (.int 64) s11 = .ok (.int (y.fdiv 64)) s11 := fdiv_i (by decide)
  let gs : List Fm := [f, f.reb (g3 a b c d), u1, u2, .lit "lost" []]
  have hgs : ∀ q ∈ gs, Ok q := List.forall_mem_cons.mpr ⟨okf, List.forall_mem_cons.mpr ⟨okm, List.forall_mem_cons.mpr ⟨ok1, List.forall_mem_cons.mpr ⟨ok2, List.forall_mem_cons.mpr ⟨okl, fun _ z => by cases z⟩⟩⟩⟩⟩
  let s13 : Hs := s12 ++ [.lst (gs.map Fm.w)]
  have g13 : Gr [.scr ns] s13 := (g9.trans (k11.trans k12)).trans Gr.push
  obtain ⟨ρ', s14, e14, ⟨g14, p9, rfl⟩, _⟩ := forL_inv (i := 9) (gb := g_law_L2) (l := s12.length) (all := gs.map Fm.w) (fun ρ s => Gr [.scr ns] s ∧ ∃ p9, ρ = [some (.ref 0), some (.int k), some (.ref st.length), some (tI [a, b]), some (tI [c, d]), some f.w, some (f.reb (g1 a b)).w, some (f.reb (g3 a b c d)).w, some (.int y), p9]) (gs.map Fm.w) [some (.ref 0), some (.int k), some (.ref st.length), some (tI [a, b]), some (tI [c, d]), some f.w, some (f.reb (g1 a b)).w, some (f.reb (g3 a b c d)).w, some (.int y), o9] s13 ⟨g13, o9, rfl⟩ lstOf_new (by
    rintro w hw _ s ⟨gg, p9, rfl⟩ ll
    obtain ⟨q, hq, rfl⟩ := List.mem_map.mp hw
    obtain ⟨s', kk, e⟩ := step okf (hgs q hq) (a := a) (b := b) (c := c) (d := d) (x0 := some (.ref 0)) (x1 := some (.int k)) (x2 := some (.ref st.length)) (x6 := some (f.reb (g1 a b)).w) (x7 := some (f.reb (g3 a b c d)).w) (x8 := some (.int y)) (x9 := p9) s
    exact ⟨_, s', e, kk.lst ll, gg.trans kk, _, rfl⟩)
  have kf := kFor_l (i := 9) (gb := g_law_L2) (ρ := [some (.ref 0), some (.int k), some (.ref st.length), some (tI [a, b]), some (tI [c, d]), some f.w, some (f.reb (g1 a b)).w, some (f.reb (g3 a b c d)).w, some (.int y), o9]) (st := s13) (l := s12.length) lstOf_new
  rw [e14] at kf
  have t1 : kTup [.str "lost"] s12 = .ok (Fm.lit "lost" []).w s12 := kTup_1
  have kl : kLst [f.w, (f.reb (g3 a b c d)).w, u1.w, u2.w, (Fm.lit "lost" []).w] s12 = .ok (.ref s12.length) s13 := kLst_5
  generalize (Fm.lit "lost" []).w = wl at t1 kl
  generalize (f.reb (g3 a b c d)).w = wm at e8 e9 n3 e12 kl kf
  generalize (f.reb (g1 a b)).w = wf at e5 e6 e7 e9 n1 is kf
  generalize f.w = ff at e4' e5 e6 e7 e8 n2 e11 kl kf
  refine ⟨_, s14, ?_, ⟨some (.int k), some (.ref st.length), some (tI [a, b]), some (tI [c, d]), some ff, some wf, some wm, some (.int y), p9, rfl⟩, g14⟩
  unfold g_law_L1
  simp [e1, e2, e3, e4', e5, is, e6, n1, e7, n2, e8, e9, n3, sm, e10, e11, fd, e12, -kTup_1, t1, -kLst_5, kl, kf]
theorem law_true : ∀ ns : List Int, ns.length ≤ 63 → ∃ st, F_law [.ref 0] [.scr ns] = .ok (.bl true) st := fun ns hn => by
  obtain ⟨ρ', st', e, ⟨p1, p2, p3, p4, p5, p6, p7, p8, p9, rfl⟩, g⟩ := forT_inv (i := 1) (gb := g_law_L1) (fun ρ st => (∃ p1 p2 p3 p4 p5 p6 p7 p8 p9, ρ = [some (.ref 0), p1, p2, p3, p4, p5, p6, p7, p8, p9]) ∧ Gr [.scr ns] st) (rngW 0 3) [some (.ref 0), none, none, none, none, none, none, none, none, none] [.scr ns] ⟨⟨_, _, _, _, _, _, _, _, _, rfl⟩, Gr.refl⟩ (by
    rintro w hw _ st ⟨⟨p1, p2, p3, p4, p5, p6, p7, p8, p9, rfl⟩, g⟩
    obtain ⟨k, rfl, k0, k1⟩ := rng_mem hw
    obtain ⟨ρ', st', e, h1, h2⟩ := turn hn (k := k) k0 (by omega) (o2 := p2) (o3 := p3) (o4 := p4) (o5 := p5) (o6 := p6) (o7 := p7) (o8 := p8) (o9 := p9) g
    exact ⟨ρ', st', e, h1, h2⟩)
  have c3 : CRng 3 := crng (by decide) (by decide)
  refine ⟨st', ?_⟩
  unfold F_law fnF g_law
  simp [c3, e]
end K58
namespace K58
open PySem J
open L2 (defScope defBody defArgs FnScope CX0 FnOk XK Hp)
theorem ln1 {fd : FuncData} {ps : List Str} (us : List Value) (hl : us.length = 1) (h : ∀ a0 : Value, bindArgs fd { pos := [a0] } = pure (ps.zip [a0])) : bindArgs fd { pos := us } = pure (ps.zip us) := match us, hl with | [a0], _ => h a0
theorem ln2 {fd : FuncData} {ps : List Str} (us : List Value) (hl : us.length = 2) (h : ∀ a0 a1 : Value, bindArgs fd { pos := [a0, a1] } = pure (ps.zip [a0, a1])) : bindArgs fd { pos := us } = pure (ps.zip us) := match us, hl with | [a0, a1], _ => h a0 a1
theorem ln3 {fd : FuncData} {ps : List Str} (us : List Value) (hl : us.length = 3) (h : ∀ a0 a1 a2 : Value, bindArgs fd { pos := [a0, a1, a2] } = pure (ps.zip [a0, a1, a2])) : bindArgs fd { pos := us } = pure (ps.zip us) := match us, hl with | [a0, a1, a2], _ => h a0 a1 a2
theorem ln4 {fd : FuncData} {ps : List Str} (us : List Value) (hl : us.length = 4) (h : ∀ a0 a1 a2 a3 : Value, bindArgs fd { pos := [a0, a1, a2, a3] } = pure (ps.zip [a0, a1, a2, a3])) : bindArgs fd { pos := us } = pure (ps.zip us) := match us, hl with | [a0, a1, a2, a3], _ => h a0 a1 a2 a3
theorem all_mk0 {l : PySem.W.OpenLaw} {w : World} {K : PySem.W.Frag} {h : Heap} {mg : Str → Option Value} {fa : Addr} (X : K.In h) (G : h.Ns mainGlobals mg) (hfa : mg "law" = some (.ref fa))
    {f1 f2 f3 f4 f5 f6 f7 f8 f9 f10 f11 f12 f13 f14 f15 f16 f17 f18 f19 f20 f21 f22 f23 f24 f25 f26 f27 f28 f29 f30 f31 : Addr} {od1 od2 od3 od4 od5 od6 od7 od8 od9 od10 od11 od12 od13 od14 od15 od16 od17 od18 od19 od20 od21 od22 od23 od24 od25 od26 od27 od28 od29 od30 od31 an1 an2 an3 an4 an5 an6 an7 an8 an9 an10 an11 an12 an13 an14 an15 an16 an17 an18 an19 an20 an21 an22 an23 an24 an25 an26 an27 an28 an29 an30 an31 : Option Addr} {sl1 sl2 sl3 sl4 sl5 sl6 sl7 sl8 sl9 sl10 sl11 sl12 sl13 sl14 sl15 sl16 sl17 sl18 sl19 sl20 sl21 sl22 sl23 sl24 sl25 sl26 sl27 sl28 sl29 sl30 sl31 : Array (Option Value)} {oc1 oc2 oc3 oc4 oc5 oc6 oc7 oc8 oc9 oc10 oc11 oc12 oc13 oc14 oc15 oc16 oc17 oc18 oc19 oc20 oc21 oc22 oc23 oc24 oc25 oc26 oc27 oc28 oc29 oc30 oc31 kV1 kV2 kV3 kV4 kV5 kV6 kV7 kV8 kV9 kV10 kV11 kV12 kV13 kV14 kV15 kV16 kV17 kV18 kV19 kV20 kV21 kV22 kV23 kV24 kV25 kV26 kV27 kV28 kV29 kV30 kV31 dc1 dc2 dc3 dc4 dc5 dc6 dc7 dc8 dc9 dc10 dc11 dc12 dc13 dc14 dc15 dc16 dc17 dc18 dc19 dc20 dc21 dc22 dc23 dc24 dc25 dc26 dc27 dc28 dc29 dc30 dc31 pm1 pm2 pm3 pm4 pm5 pm6 pm7 pm8 pm9 pm10 pm11 pm12 pm13 pm14 pm15 pm16 pm17 pm18 pm19 pm20 pm21 pm22 pm23 pm24 pm25 pm26 pm27 pm28 pm29 pm30 pm31 cd1 cd2 cd3 cd4 cd5 cd6 cd7 cd8 cd9 cd10 cd11 cd12 cd13 cd14 cd15 cd16 cd18 cd19 cd20 cd21 cd22 cd23 cd24 cd25 cd27 cd28 cd29 cd30 cd31 ct1 ct2 ct3 ct4 ct5 ct6 ct7 ct8 ct9 ct10 ct11 ct12 ct13 ct14 ct15 ct16 ct17 ct18 ct19 ct20 ct21 ct22 ct23 ct24 ct25 ct26 ct27 ct28 ct29 ct30 ct31 : Value} {tk0_0 tk0_1 tk0_2 tk0_3 tk0_4 tk1 tk2 tk3 : Tok} {ca0 : Addr} {cd0_ : Option Addr} {cn0 : Nat} {cs0 : Array (Option Value)} {da0 : Addr} {de0 : Nat} {dh0_0 dh0_1 dh0_2 dh0_3 dh0_4 dh0_5 dh0_6 dh0_7 dh0_8 dh0_9 dh0_10 dh0_11 dh0_12 dh0_13 dh0_14 dh0_15 dh0_16 dh0_17 dh0_18 dh0_19 dh0_20 : Int} {dk0_0 dk0_1 dk0_2 dk0_3 dk0_4 dk0_5 dk0_6 dk0_7 dk0_8 dk0_9 dk0_10 dk0_11 dk0_12 dk0_13 dk0_14 dk0_15 dk0_16 dk0_17 dk0_18 dk0_19 dk0_20 dt0_0 dt0_1 dt0_2 dt0_3 dt0_4 dt0_5 dt0_6 dt0_7 dt0_8 dt0_9 dt0_10 dt0_11 dt0_12 dt0_13 dt0_14 dt0_15 dt0_16 dt0_17 dt0_18 dt0_19 dt0_20 : Tok} {cC17 LP17 cC26 LP26 : Addr}
    (a1 : PySem.W.nsIn K mainGlobals "_law_cell_at" = some (some (.ref f1))) (l1 : K.lookup f1 = some ⟨oc1, od1, .func (PySem.W.fnOf "_law_cell_at" "_law_cell_at" (defArgs s__law_cell_at) (defBody s__law_cell_at) (defScope s__law_cell_at) .none kV1 dc1 pm1 an1 cd1 ct1), sl1⟩) (c1 : PySem.W.codeIn K cd1 "_law_cell_at" = true) (k1 : PySem.W.keepIn K (.ref f1) = true)
    (a2 : PySem.W.nsIn K mainGlobals "_law_mixed" = some (some (.ref f2))) (l2 : K.lookup f2 = some ⟨oc2, od2, .func (PySem.W.fnOf "_law_mixed" "_law_mixed" (defArgs s__law_mixed) (defBody s__law_mixed) (defScope s__law_mixed) .none kV2 dc2 pm2 an2 cd2 ct2), sl2⟩) (c2 : PySem.W.codeIn K cd2 "_law_mixed" = true) (k2 : PySem.W.keepIn K (.ref f2) = true)
    (a3 : PySem.W.nsIn K mainGlobals "_law_stream" = some (some (.ref f3))) (l3 : K.lookup f3 = some ⟨oc3, od3, .func (PySem.W.fnOf "_law_stream" "_law_stream" (defArgs s__law_stream) (defBody s__law_stream) (defScope s__law_stream) .none kV3 dc3 pm3 an3 cd3 ct3), sl3⟩) (c3 : PySem.W.codeIn K cd3 "_law_stream" = true) (k3 : PySem.W.keepIn K (.ref f3) = true)
    (a4 : PySem.W.nsIn K mainGlobals "_law_digit" = some (some (.ref f4))) (l4 : K.lookup f4 = some ⟨oc4, od4, .func (PySem.W.fnOf "_law_digit" "_law_digit" (defArgs s__law_digit) (defBody s__law_digit) (defScope s__law_digit) .none kV4 dc4 pm4 an4 cd4 ct4), sl4⟩) (c4 : PySem.W.codeIn K cd4 "_law_digit" = true) (k4 : PySem.W.keepIn K (.ref f4) = true)
    (a5 : PySem.W.nsIn K mainGlobals "_law_line" = some (some (.ref f5))) (l5 : K.lookup f5 = some ⟨oc5, od5, .func (PySem.W.fnOf "_law_line" "_law_line" (defArgs s__law_line) (defBody s__law_line) (defScope s__law_line) .none kV5 dc5 pm5 an5 cd5 ct5), sl5⟩) (c5 : PySem.W.codeIn K cd5 "_law_line" = true) (k5 : PySem.W.keepIn K (.ref f5) = true)
    (a6 : PySem.W.nsIn K mainGlobals "_law_spot_at" = some (some (.ref f6))) (l6 : K.lookup f6 = some ⟨oc6, od6, .func (PySem.W.fnOf "_law_spot_at" "_law_spot_at" (defArgs s__law_spot_at) (defBody s__law_spot_at) (defScope s__law_spot_at) .none kV6 dc6 pm6 an6 cd6 ct6), sl6⟩) (c6 : PySem.W.codeIn K cd6 "_law_spot_at" = true) (k6 : PySem.W.keepIn K (.ref f6) = true)
    (a7 : PySem.W.nsIn K mainGlobals "_law_any_area" = some (some (.ref f7))) (l7 : K.lookup f7 = some ⟨oc7, od7, .func (PySem.W.fnOf "_law_any_area" "_law_any_area" (defArgs s__law_any_area) (defBody s__law_any_area) (defScope s__law_any_area) .none kV7 dc7 pm7 an7 cd7 ct7), sl7⟩) (c7 : PySem.W.codeIn K cd7 "_law_any_area" = true) (k7 : PySem.W.keepIn K (.ref f7) = true)
    (a8 : PySem.W.nsIn K mainGlobals "_law_some_pins" = some (some (.ref f8))) (l8 : K.lookup f8 = some ⟨oc8, od8, .func (PySem.W.fnOf "_law_some_pins" "_law_some_pins" (defArgs s__law_some_pins) (defBody s__law_some_pins) (defScope s__law_some_pins) .none kV8 dc8 pm8 an8 cd8 ct8), sl8⟩) (c8 : PySem.W.codeIn K cd8 "_law_some_pins" = true) (k8 : PySem.W.keepIn K (.ref f8) = true)
    (a9 : PySem.W.nsIn K mainGlobals "_law_any_leaf" = some (some (.ref f9))) (l9 : K.lookup f9 = some ⟨oc9, od9, .func (PySem.W.fnOf "_law_any_leaf" "_law_any_leaf" (defArgs s__law_any_leaf) (defBody s__law_any_leaf) (defScope s__law_any_leaf) .none kV9 dc9 pm9 an9 cd9 ct9), sl9⟩) (c9 : PySem.W.codeIn K cd9 "_law_any_leaf" = true) (k9 : PySem.W.keepIn K (.ref f9) = true)
    (a10 : PySem.W.nsIn K mainGlobals "_law_any_formula" = some (some (.ref f10))) (l10 : K.lookup f10 = some ⟨oc10, od10, .func (PySem.W.fnOf "_law_any_formula" "_law_any_formula" (defArgs s__law_any_formula) (defBody s__law_any_formula) (defScope s__law_any_formula) .none kV10 dc10 pm10 an10 cd10 ct10), sl10⟩) (c10 : PySem.W.codeIn K cd10 "_law_any_formula" = true) (k10 : PySem.W.keepIn K (.ref f10) = true)
    (a11 : PySem.W.nsIn K mainGlobals "part_many" = some (some (.ref f11))) (l11 : K.lookup f11 = some ⟨oc11, od11, .func (PySem.W.fnOf "part_many" "part_many" (defArgs s_part_many) (defBody s_part_many) (defScope s_part_many) .none kV11 dc11 pm11 an11 cd11 ct11), sl11⟩) (c11 : PySem.W.codeIn K cd11 "part_many" = true) (k11 : PySem.W.keepIn K (.ref f11) = true)
    (a12 : PySem.W.nsIn K mainGlobals "tail_of" = some (some (.ref f12))) (l12 : K.lookup f12 = some ⟨oc12, od12, .func (PySem.W.fnOf "tail_of" "tail_of" (defArgs s_tail_of) (defBody s_tail_of) (defScope s_tail_of) .none kV12 dc12 pm12 an12 cd12 ct12), sl12⟩) (c12 : PySem.W.codeIn K cd12 "tail_of" = true) (k12 : PySem.W.keepIn K (.ref f12) = true)
    (a13 : PySem.W.nsIn K mainGlobals "has_area" = some (some (.ref f13))) (l13 : K.lookup f13 = some ⟨oc13, od13, .func (PySem.W.fnOf "has_area" "has_area" (defArgs s_has_area) (defBody s_has_area) (defScope s_has_area) .none kV13 dc13 pm13 an13 cd13 ct13), sl13⟩) (c13 : PySem.W.codeIn K cd13 "has_area" = true) (k13 : PySem.W.keepIn K (.ref f13) = true)
    (a14 : PySem.W.nsIn K mainGlobals "parts_of" = some (some (.ref f14))) (l14 : K.lookup f14 = some ⟨oc14, od14, .func (PySem.W.fnOf "parts_of" "parts_of" (defArgs s_parts_of) (defBody s_parts_of) (defScope s_parts_of) .none kV14 dc14 pm14 an14 cd14 ct14), sl14⟩) (c14 : PySem.W.codeIn K cd14 "parts_of" = true) (k14 : PySem.W.keepIn K (.ref f14) = true)
    (a15 : PySem.W.nsIn K mainGlobals "rebuilt" = some (some (.ref f15))) (l15 : K.lookup f15 = some ⟨oc15, od15, .func (PySem.W.fnOf "rebuilt" "rebuilt" (defArgs s_rebuilt) (defBody s_rebuilt) (defScope s_rebuilt) .none kV15 dc15 pm15 an15 cd15 ct15), sl15⟩) (c15 : PySem.W.codeIn K cd15 "rebuilt" = true) (k15 : PySem.W.keepIn K (.ref f15) = true)
    (a16 : PySem.W.nsIn K mainGlobals "stepped" = some (some (.ref f16))) (l16 : K.lookup f16 = some ⟨oc16, od16, .func (PySem.W.fnOf "stepped" "stepped" (defArgs s_stepped) (defBody s_stepped) (defScope s_stepped) .none kV16 dc16 pm16 an16 cd16 ct16), sl16⟩) (c16 : PySem.W.codeIn K cd16 "stepped" = true) (k16 : PySem.W.keepIn K (.ref f16) = true)
    (a17 : PySem.W.nsIn K mainGlobals "form_of" = some (some (.ref f17))) (l17 : K.lookup f17 = some ⟨oc17, od17, .func (PySem.W.fnOf "form_of" "form_of" (defArgs s_form_of) (defBody s_form_of) (defScope s_form_of) .none kV17 dc17 pm17 an17 (.ref cC17) ct17), sl17⟩) (c17 : PySem.W.codeIn K (.ref cC17) "form_of" = true) (k17 : PySem.W.keepIn K (.ref f17) = true)
    (a18 : PySem.W.nsIn K mainGlobals "_law_led" = some (some (.ref f18))) (l18 : K.lookup f18 = some ⟨oc18, od18, .func (PySem.W.fnOf "_law_led" "_law_led" (defArgs s__law_led) (defBody s__law_led) (defScope s__law_led) .none kV18 dc18 pm18 an18 cd18 ct18), sl18⟩) (c18 : PySem.W.codeIn K cd18 "_law_led" = true) (k18 : PySem.W.keepIn K (.ref f18) = true)
    (a19 : PySem.W.nsIn K mainGlobals "_law_fits" = some (some (.ref f19))) (l19 : K.lookup f19 = some ⟨oc19, od19, .func (PySem.W.fnOf "_law_fits" "_law_fits" (defArgs s__law_fits) (defBody s__law_fits) (defScope s__law_fits) .none kV19 dc19 pm19 an19 cd19 ct19), sl19⟩) (c19 : PySem.W.codeIn K cd19 "_law_fits" = true) (k19 : PySem.W.keepIn K (.ref f19) = true)
    (a20 : PySem.W.nsIn K mainGlobals "_law_copied" = some (some (.ref f20))) (l20 : K.lookup f20 = some ⟨oc20, od20, .func (PySem.W.fnOf "_law_copied" "_law_copied" (defArgs s__law_copied) (defBody s__law_copied) (defScope s__law_copied) .none kV20 dc20 pm20 an20 cd20 ct20), sl20⟩) (c20 : PySem.W.codeIn K cd20 "_law_copied" = true) (k20 : PySem.W.keepIn K (.ref f20) = true)
    (a21 : PySem.W.nsIn K mainGlobals "is_place" = some (some (.ref f21))) (l21 : K.lookup f21 = some ⟨oc21, od21, .func (PySem.W.fnOf "is_place" "is_place" (defArgs s_is_place) (defBody s_is_place) (defScope s_is_place) .none kV21 dc21 pm21 an21 cd21 ct21), sl21⟩) (c21 : PySem.W.codeIn K cd21 "is_place" = true) (k21 : PySem.W.keepIn K (.ref f21) = true)
    (a22 : PySem.W.nsIn K mainGlobals "has_corners" = some (some (.ref f22))) (l22 : K.lookup f22 = some ⟨oc22, od22, .func (PySem.W.fnOf "has_corners" "has_corners" (defArgs s_has_corners) (defBody s_has_corners) (defScope s_has_corners) .none kV22 dc22 pm22 an22 cd22 ct22), sl22⟩) (c22 : PySem.W.codeIn K cd22 "has_corners" = true) (k22 : PySem.W.keepIn K (.ref f22) = true)
    (a23 : PySem.W.nsIn K mainGlobals "area_many" = some (some (.ref f23))) (l23 : K.lookup f23 = some ⟨oc23, od23, .func (PySem.W.fnOf "area_many" "area_many" (defArgs s_area_many) (defBody s_area_many) (defScope s_area_many) .none kV23 dc23 pm23 an23 cd23 ct23), sl23⟩) (c23 : PySem.W.codeIn K cd23 "area_many" = true) (k23 : PySem.W.keepIn K (.ref f23) = true)
    (a24 : PySem.W.nsIn K mainGlobals "is_area" = some (some (.ref f24))) (l24 : K.lookup f24 = some ⟨oc24, od24, .func (PySem.W.fnOf "is_area" "is_area" (defArgs s_is_area) (defBody s_is_area) (defScope s_is_area) .none kV24 dc24 pm24 an24 cd24 ct24), sl24⟩) (c24 : PySem.W.codeIn K cd24 "is_area" = true) (k24 : PySem.W.keepIn K (.ref f24) = true)
    (a25 : PySem.W.nsIn K mainGlobals "spot_by" = some (some (.ref f25))) (l25 : K.lookup f25 = some ⟨oc25, od25, .func (PySem.W.fnOf "spot_by" "spot_by" (defArgs s_spot_by) (defBody s_spot_by) (defScope s_spot_by) .none kV25 dc25 pm25 an25 cd25 ct25), sl25⟩) (c25 : PySem.W.codeIn K cd25 "spot_by" = true) (k25 : PySem.W.keepIn K (.ref f25) = true)
    (a26 : PySem.W.nsIn K mainGlobals "formula_by" = some (some (.ref f26))) (l26 : K.lookup f26 = some ⟨oc26, od26, .func (PySem.W.fnOf "formula_by" "formula_by" (defArgs s_formula_by) (defBody s_formula_by) (defScope s_formula_by) .none kV26 dc26 pm26 an26 (.ref cC26) ct26), sl26⟩) (c26 : PySem.W.codeIn K (.ref cC26) "formula_by" = true) (k26 : PySem.W.keepIn K (.ref f26) = true)
    (a27 : PySem.W.nsIn K mainGlobals "_law_other" = some (some (.ref f27))) (l27 : K.lookup f27 = some ⟨oc27, od27, .func (PySem.W.fnOf "_law_other" "_law_other" (defArgs s__law_other) (defBody s__law_other) (defScope s__law_other) .none kV27 dc27 pm27 an27 cd27 ct27), sl27⟩) (c27 : PySem.W.codeIn K cd27 "_law_other" = true) (k27 : PySem.W.keepIn K (.ref f27) = true)
    (a28 : PySem.W.nsIn K mainGlobals "_law_form" = some (some (.ref f28))) (l28 : K.lookup f28 = some ⟨oc28, od28, .func (PySem.W.fnOf "_law_form" "_law_form" (defArgs s__law_form) (defBody s__law_form) (defScope s__law_form) .none kV28 dc28 pm28 an28 cd28 ct28), sl28⟩) (c28 : PySem.W.codeIn K cd28 "_law_form" = true) (k28 : PySem.W.keepIn K (.ref f28) = true)
    (a29 : PySem.W.nsIn K mainGlobals "alike" = some (some (.ref f29))) (l29 : K.lookup f29 = some ⟨oc29, od29, .func (PySem.W.fnOf "alike" "alike" (defArgs s_alike) (defBody s_alike) (defScope s_alike) .none kV29 dc29 pm29 an29 cd29 ct29), sl29⟩) (c29 : PySem.W.codeIn K cd29 "alike" = true) (k29 : PySem.W.keepIn K (.ref f29) = true)
    (a30 : PySem.W.nsIn K mainGlobals "_law_alike" = some (some (.ref f30))) (l30 : K.lookup f30 = some ⟨oc30, od30, .func (PySem.W.fnOf "_law_alike" "_law_alike" (defArgs s__law_alike) (defBody s__law_alike) (defScope s__law_alike) .none kV30 dc30 pm30 an30 cd30 ct30), sl30⟩) (c30 : PySem.W.codeIn K cd30 "_law_alike" = true) (k30 : PySem.W.keepIn K (.ref f30) = true)
    (a31 : PySem.W.nsIn K mainGlobals "law" = some (some (.ref f31))) (l31 : K.lookup f31 = some ⟨oc31, od31, .func (PySem.W.fnOf "law" "law" (defArgs s_law) (defBody s_law) (defScope s_law) .none kV31 dc31 pm31 an31 cd31 ct31), sl31⟩) (c31 : PySem.W.codeIn K cd31 "law" = true) (k31 : PySem.W.keepIn K (.ref f31) = true)
    (z0 : PySem.W.nsIn K mainGlobals "len" = some none)
    (z1 : PySem.W.nsIn K mainGlobals "range" = some none)
    (z2 : PySem.W.nsIn K mainGlobals "sum" = some none)
    (z3 : PySem.W.nsIn K mainGlobals "min" = some none)
    (z4 : PySem.W.nsIn K mainGlobals "tuple" = some none)
    (z5 : PySem.W.nsIn K mainGlobals "zip" = some none)
    (z6 : PySem.W.nsIn K mainGlobals "int" = some none)
    (z7 : PySem.W.nsIn K mainGlobals "isinstance" = some none)
    (z8 : PySem.W.nsIn K mainGlobals "bool" = some none)
    (v0 : PySem.W.nsIn K mainGlobals "AREA_WORDS" = some (some (.ref ca0))) (w0 : K.lookup ca0 = some ⟨.type "tuple", cd0_, .seq #[.str "sum" tk0_0, .str "count" tk0_1, .str "least" tk0_2, .str "greatest" tk0_3, .str "find" tk0_4] cn0, cs0⟩)
    (v1 : PySem.W.nsIn K mainGlobals "ROWS" = some (some (.int 99 tk1)))
    (v2 : PySem.W.nsIn K mainGlobals "COLUMNS" = some (some (.int 26 tk2)))
    (v3 : PySem.W.nsIn K mainGlobals "MOST_PLACES" = some (some (.int 300 tk3)))
    (dv0 : PySem.W.nsIn K mainGlobals "PART_COUNTS" = some (some (.ref da0))) (dw0 : K.lookup da0 = some ⟨.type "dict", none, .dict #[⟨dh0_0, .str "num" dk0_0, .int 0 dt0_0⟩, ⟨dh0_1, .str "text" dk0_1, .int 0 dt0_1⟩, ⟨dh0_2, .str "lost" dk0_2, .int 0 dt0_2⟩, ⟨dh0_3, .str "at" dk0_3, .int 0 dt0_3⟩, ⟨dh0_4, .str "minus" dk0_4, .int 1 dt0_4⟩, ⟨dh0_5, .str "not" dk0_5, .int 1 dt0_5⟩, ⟨dh0_6, .str "+" dk0_6, .int 2 dt0_6⟩, ⟨dh0_7, .str "-" dk0_7, .int 2 dt0_7⟩, ⟨dh0_8, .str "*" dk0_8, .int 2 dt0_8⟩, ⟨dh0_9, .str "/" dk0_9, .int 2 dt0_9⟩, ⟨dh0_10, .str "&" dk0_10, .int 2 dt0_10⟩, ⟨dh0_11, .str "<" dk0_11, .int 2 dt0_11⟩, ⟨dh0_12, .str "=" dk0_12, .int 2 dt0_12⟩, ⟨dh0_13, .str "rest" dk0_13, .int 2 dt0_13⟩, ⟨dh0_14, .str "if" dk0_14, .int 3 dt0_14⟩, ⟨dh0_15, .str "else" dk0_15, .int 2 dt0_15⟩, ⟨dh0_16, .str "sum" dk0_16, .int 0 dt0_16⟩, ⟨dh0_17, .str "count" dk0_17, .int 0 dt0_17⟩, ⟨dh0_18, .str "least" dk0_18, .int 0 dt0_18⟩, ⟨dh0_19, .str "greatest" dk0_19, .int 0 dt0_19⟩, ⟨dh0_20, .str "find" dk0_20, .int 1 dt0_20⟩] de0, #[]⟩) (dm0 : (da0 == sysModules) = false) (dx0_0 : dh0_0 = hashStr w "num") (dx0_1 : dh0_1 = hashStr w "text") (dx0_2 : dh0_2 = hashStr w "lost") (dx0_3 : dh0_3 = hashStr w "at") (dx0_4 : dh0_4 = hashStr w "minus") (dx0_5 : dh0_5 = hashStr w "not") (dx0_6 : dh0_6 = hashStr w "+") (dx0_7 : dh0_7 = hashStr w "-") (dx0_8 : dh0_8 = hashStr w "*") (dx0_9 : dh0_9 = hashStr w "/") (dx0_10 : dh0_10 = hashStr w "&") (dx0_11 : dh0_11 = hashStr w "<") (dx0_12 : dh0_12 = hashStr w "=") (dx0_13 : dh0_13 = hashStr w "rest") (dx0_14 : dh0_14 = hashStr w "if") (dx0_15 : dh0_15 = hashStr w "else") (dx0_16 : dh0_16 = hashStr w "sum") (dx0_17 : dh0_17 = hashStr w "count") (dx0_18 : dh0_18 = hashStr w "least") (dx0_19 : dh0_19 = hashStr w "greatest") (dx0_20 : dh0_20 = hashStr w "find")
    (LK17 : J.LamK K mg "form_of" LP17) (LK26 : J.LamK K mg "formula_by" LP26) :
    ∃ fd : FuncData, (∀ (s : Shared) (u : Value), BindsTo s fd ⟨[u], []⟩ [("script", u)]) ∧ ∀ base : Heap, J.ModB K mg base → FnOk l.prog w K mg base (CXJ l.prog w) 17 fa fd ["script"] (spW K 1 F_law) := by
  refine J.law_hasM X G hfa (J.def_at a31 l31 c31 k31) (fun _ _ _ _ _ _ s u => .of_eq rfl) (fun f fd Fu base M => ?_)
  have Z0 := PySem.W.mg_none_of X G z0
  have Z1 := PySem.W.mg_none_of X G z1
  have Z2 := PySem.W.mg_none_of X G z2
  have Z3 := PySem.W.mg_none_of X G z3
  have Z4 := PySem.W.mg_none_of X G z4
  have Z5 := PySem.W.mg_none_of X G z5
  have Z6 := PySem.W.mg_none_of X G z6
  have Z7 := PySem.W.mg_none_of X G z7
  have Z8 := PySem.W.mg_none_of X G z8
  have V0 := PySem.W.mg_of X G v0
  have V1 := PySem.W.mg_of X G v1
  have V2 := PySem.W.mg_of X G v2
  have V3 := PySem.W.mg_of X G v3
  have TB : TabOk K tbl tblT tblC := J.tab_mk trivial trivial trivial
  have H1 : ∀ base : Heap, J.ModB K mg base → J.Has l.prog w K mg base 1 "_law_cell_at" 2 F__law_cell_at := fun base M => J.has_def (ps := ["script", "k"]) X G (J.def_at a1 l1 c1 k1) (J.topOk_mk (c := c__law_cell_at) (k := 0) trivial ⟨Z0, trivial⟩ trivial TB trivial trivial trivial) sc__law_cell_at rfl r__law_cell_at (fun _ _ _ _ _ _ us hl => ln2 us hl fun _ _ => rfl)
  have H2 : ∀ base : Heap, J.ModB K mg base → J.Has l.prog w K mg base 1 "_law_mixed" 2 F__law_mixed := fun base M => J.has_def (ps := ["cell", "k"]) X G (J.def_at a2 l2 c2 k2) (J.topOk_mk (c := c__law_mixed) (k := 0) trivial trivial trivial TB trivial trivial trivial) sc__law_mixed rfl r__law_mixed (fun _ _ _ _ _ _ us hl => ln2 us hl fun _ _ => rfl)
  have H3 : ∀ base : Heap, J.ModB K mg base → J.Has l.prog w K mg base 2 "_law_stream" 2 F__law_stream := fun base M => J.has_def (ps := ["script", "k"]) X G (J.def_at a3 l3 c3 k3) (J.topOk_mk (c := c__law_stream) (k := 1) trivial ⟨Z1, Z0, Z2, trivial⟩ ⟨(H1 base M).mono (by decide), (H2 base M).mono (by decide), trivial⟩ TB trivial trivial trivial) sc__law_stream rfl r__law_stream (fun _ _ _ _ _ _ us hl => ln2 us hl fun _ _ => rfl)
  have H4 : ∀ base : Heap, J.ModB K mg base → J.Has l.prog w K mg base 1 "_law_digit" 2 F__law_digit := fun base M => J.has_def (ps := ["row", "many"]) X G (J.def_at a4 l4 c4 k4) (J.topOk_mk (c := c__law_digit) (k := 0) trivial trivial trivial TB trivial trivial trivial) sc__law_digit rfl r__law_digit (fun _ _ _ _ _ _ us hl => ln2 us hl fun _ _ => rfl)
  have H5 : ∀ base : Heap, J.ModB K mg base → J.Has l.prog w K mg base 2 "_law_line" 2 F__law_line := fun base M => J.has_def (ps := ["row", "last"]) X G (J.def_at a5 l5 c5 k5) (J.topOk_mk (c := c__law_line) (k := 1) trivial trivial ⟨(H4 base M).mono (by decide), trivial⟩ TB trivial trivial trivial) sc__law_line rfl r__law_line (fun _ _ _ _ _ _ us hl => ln2 us hl fun _ _ => rfl)
  have H6 : ∀ base : Heap, J.ModB K mg base → J.Has l.prog w K mg base 3 "_law_spot_at" 1 F__law_spot_at := fun base M => J.has_def (ps := ["row"]) X G (J.def_at a6 l6 c6 k6) (J.topOk_mk (c := c__law_spot_at) (k := 2) trivial trivial ⟨(H5 base M).mono (by decide), trivial⟩ TB trivial trivial trivial) sc__law_spot_at rfl r__law_spot_at (fun _ _ _ _ _ _ us hl => ln1 us hl fun _ => rfl)
  have H7 : ∀ base : Heap, J.ModB K mg base → J.Has l.prog w K mg base 3 "_law_any_area" 1 F__law_any_area := fun base M => J.has_def (ps := ["row"]) X G (J.def_at a7 l7 c7 k7) (J.topOk_mk (c := c__law_any_area) (k := 2) trivial ⟨Z3, trivial⟩ ⟨(H5 base M).mono (by decide), (H4 base M).mono (by decide), trivial⟩ TB trivial trivial trivial) sc__law_any_area rfl r__law_any_area (fun _ _ _ _ _ _ us hl => ln1 us hl fun _ => rfl)
  have H8 : ∀ base : Heap, J.ModB K mg base → J.Has l.prog w K mg base 2 "_law_some_pins" 2 F__law_some_pins := fun base M => J.has_def (ps := ["row", "many"]) X G (J.def_at a8 l8 c8 k8) (J.topOk_mk (c := c__law_some_pins) (k := 1) trivial ⟨Z4, Z1, trivial⟩ ⟨(H4 base M).mono (by decide), trivial⟩ TB trivial trivial trivial) sc__law_some_pins rfl r__law_some_pins (fun _ _ _ _ _ _ us hl => ln2 us hl fun _ _ => rfl)
  have H9 : ∀ base : Heap, J.ModB K mg base → J.Has l.prog w K mg base 4 "_law_any_leaf" 1 F__law_any_leaf := fun base M => J.has_def (ps := ["row"]) X G (J.def_at a9 l9 c9 k9) (J.topOk_mk (c := c__law_any_leaf) (k := 3) trivial trivial ⟨(H4 base M).mono (by decide), (H7 base M).mono (by decide), (H8 base M).mono (by decide), (H6 base M).mono (by decide), trivial⟩ TB trivial trivial trivial) sc__law_any_leaf rfl r__law_any_leaf (fun _ _ _ _ _ _ us hl => ln1 us hl fun _ => rfl)
  have G10 : ∀ base : Heap, J.ModB K mg base → ∀ n : Nat, J.Has l.prog w K mg base (4 + n) "_law_any_formula" 2 (R__law_any_formula n) := fun base M n => by
    induction n with
    | zero => exact J.has_bad (ps := ["row", "deep"]) X G (J.def_at a10 l10 c10 k10) (fun _ _ _ _ _ _ us hl => ln2 us hl fun _ _ => rfl)
    | succ n ih => exact J.has_def (ps := ["row", "deep"]) X G (J.def_at a10 l10 c10 k10) (J.topOk_mk (c := (c__law_any_formula (R__law_any_formula n))) (k := (4 + n)) trivial trivial ⟨(H4 base M).mono (by omega), ih, (H9 base M).mono (by omega), (H7 base M).mono (by omega), (H8 base M).mono (by omega), trivial⟩ TB trivial trivial trivial) (sc__law_any_formula (R__law_any_formula n)) rfl (r__law_any_formula (R__law_any_formula n)) (fun _ _ _ _ _ _ us hl => ln2 us hl fun _ _ => rfl)
  have H10 : ∀ base : Heap, J.ModB K mg base → J.Has l.prog w K mg base 10 "_law_any_formula" 2 F__law_any_formula := fun base M => (G10 base M 6)
  have H11 : ∀ base : Heap, J.ModB K mg base → J.Has l.prog w K mg base 1 "part_many" 1 F_part_many := fun base M => J.has_def (ps := ["word"]) X G (J.def_at a11 l11 c11 k11) (J.topOk_mk (c := c_part_many) (k := 0) trivial trivial trivial TB trivial trivial ⟨⟨_, _, _, PySem.W.mg_of X G dv0, dw0, dm0, ⟨⟨dx0_0, ⟨_, rfl⟩, ⟨_, rfl⟩⟩, ⟨dx0_1, ⟨_, rfl⟩, ⟨_, rfl⟩⟩, ⟨dx0_2, ⟨_, rfl⟩, ⟨_, rfl⟩⟩, ⟨dx0_3, ⟨_, rfl⟩, ⟨_, rfl⟩⟩, ⟨dx0_4, ⟨_, rfl⟩, ⟨_, rfl⟩⟩, ⟨dx0_5, ⟨_, rfl⟩, ⟨_, rfl⟩⟩, ⟨dx0_6, ⟨_, rfl⟩, ⟨_, rfl⟩⟩, ⟨dx0_7, ⟨_, rfl⟩, ⟨_, rfl⟩⟩, ⟨dx0_8, ⟨_, rfl⟩, ⟨_, rfl⟩⟩, ⟨dx0_9, ⟨_, rfl⟩, ⟨_, rfl⟩⟩, ⟨dx0_10, ⟨_, rfl⟩, ⟨_, rfl⟩⟩, ⟨dx0_11, ⟨_, rfl⟩, ⟨_, rfl⟩⟩, ⟨dx0_12, ⟨_, rfl⟩, ⟨_, rfl⟩⟩, ⟨dx0_13, ⟨_, rfl⟩, ⟨_, rfl⟩⟩, ⟨dx0_14, ⟨_, rfl⟩, ⟨_, rfl⟩⟩, ⟨dx0_15, ⟨_, rfl⟩, ⟨_, rfl⟩⟩, ⟨dx0_16, ⟨_, rfl⟩, ⟨_, rfl⟩⟩, ⟨dx0_17, ⟨_, rfl⟩, ⟨_, rfl⟩⟩, ⟨dx0_18, ⟨_, rfl⟩, ⟨_, rfl⟩⟩, ⟨dx0_19, ⟨_, rfl⟩, ⟨_, rfl⟩⟩, ⟨dx0_20, ⟨_, rfl⟩, ⟨_, rfl⟩⟩, trivial⟩, by decide +kernel⟩, trivial⟩) sc_part_many rfl r_part_many (fun _ _ _ _ _ _ us hl => ln1 us hl fun _ => rfl)
  have H12 : ∀ base : Heap, J.ModB K mg base → J.Has l.prog w K mg base 2 "tail_of" 1 F_tail_of := fun base M => J.has_def (ps := ["formula"]) X G (J.def_at a12 l12 c12 k12) (J.topOk_mk (c := c_tail_of) (k := 1) trivial trivial ⟨(H11 base M).mono (by decide), trivial⟩ TB trivial trivial trivial) sc_tail_of rfl r_tail_of (fun _ _ _ _ _ _ us hl => ln1 us hl fun _ => rfl)
  have H13 : ∀ base : Heap, J.ModB K mg base → J.Has l.prog w K mg base 1 "has_area" 1 F_has_area := fun base M => J.has_def (ps := ["word"]) X G (J.def_at a13 l13 c13 k13) (J.topOk_mk (c := c_has_area) (k := 0) ⟨⟨_, [.str "sum", .str "count", .str "least", .str "greatest", .str "find"], _, _, _, V0, w0, rfl, rfl, (show (5 : Nat) ≤ sizeLine by decide), (.cons ⟨_, rfl⟩ (.cons ⟨_, rfl⟩ (.cons ⟨_, rfl⟩ (.cons ⟨_, rfl⟩ (.cons ⟨_, rfl⟩ .nil))))), ⟨⟨rfl, by decide +kernel⟩, ⟨⟨rfl, by decide +kernel⟩, ⟨⟨rfl, by decide +kernel⟩, ⟨⟨rfl, by decide +kernel⟩, ⟨⟨rfl, by decide +kernel⟩, trivial⟩⟩⟩⟩⟩⟩, trivial⟩ trivial trivial TB trivial trivial trivial) sc_has_area rfl r_has_area (fun _ _ _ _ _ _ us hl => ln1 us hl fun _ => rfl)
  have H14 : ∀ base : Heap, J.ModB K mg base → J.Has l.prog w K mg base 2 "parts_of" 1 F_parts_of := fun base M => J.has_def (ps := ["formula"]) X G (J.def_at a14 l14 c14 k14) (J.topOk_mk (c := c_parts_of) (k := 1) trivial trivial ⟨(H11 base M).mono (by decide), trivial⟩ TB trivial trivial trivial) sc_parts_of rfl r_parts_of (fun _ _ _ _ _ _ us hl => ln1 us hl fun _ => rfl)
  have G15 : ∀ base : Heap, J.ModB K mg base → ∀ (p : Lm) (L : LF), J.HasL l.prog w K mg base 5 p 3 L → ∀ n : Nat, J.Has l.prog w K mg base (5 + n) "rebuilt" 2 (R_rebuilt p L n) := fun base M p L HL n => by
    induction n with
    | zero => exact J.has_bad (ps := ["formula", "goes"]) X G (J.def_at a15 l15 c15 k15) (fun _ _ _ _ _ _ us hl => ln2 us hl fun _ _ => rfl)
    | succ n ih => exact J.has_def (ps := ["formula", "goes"]) X G (J.def_at a15 l15 c15 k15) (J.topOk_mk (c := (c_rebuilt p L (R_rebuilt p L n))) (k := (5 + n)) trivial ⟨Z4, trivial⟩ ⟨(H12 base M).mono (by omega), (H13 base M).mono (by omega), ih, (H14 base M).mono (by omega), trivial⟩ TB trivial trivial trivial (hx := J.topX_lam rfl (HL.mono (by omega)) rfl rfl rfl)) (sc_rebuilt p L (R_rebuilt p L n)) rfl (r_rebuilt p L (R_rebuilt p L n)) (fun _ _ _ _ _ _ us hl => ln2 us hl fun _ _ => rfl)
  have H16 : ∀ base : Heap, J.ModB K mg base → J.Has l.prog w K mg base 1 "stepped" 3 F_stepped := fun base M => J.has_def (ps := ["spot", "pins", "steps"]) X G (J.def_at a16 l16 c16 k16) (J.topOk_mk (c := c_stepped) (k := 0) trivial ⟨Z4, Z5, trivial⟩ trivial TB trivial trivial trivial) sc_stepped rfl r_stepped (fun _ _ _ _ _ _ us hl => ln3 us hl fun _ _ _ => rfl)
  have H17 : ∀ base : Heap, J.ModB K mg base → J.Has l.prog w K mg base 14 "form_of" 2 F_form_of := fun base M => J.has_def (ps := ["formula", "place"]) X G (J.def_at a17 l17 c17 k17) (J.topOk_mk (c := c_form_of) (k := 13) trivial trivial ⟨(H16 base M).mono (by decide), trivial⟩ TB trivial trivial trivial (hx := J.topX_mk rfl ⟨⟨⟨_, PySem.W.mg_of X G a15, k15⟩, fun base p L M HL => (G15 base M p L HL 8).mono (by decide)⟩, trivial⟩ ⟨(fun _ _ e base M => by cases e; exact (H16 base M).mono (by decide)), trivial⟩ (fun _ => ⟨_, LK17⟩))) sc_form_of rfl r_form_of (fun _ _ _ _ _ _ us hl => ln2 us hl fun _ _ => rfl) (fun _ => ⟨M, rfl⟩)
  have H18 : ∀ base : Heap, J.ModB K mg base → J.Has l.prog w K mg base 1 "_law_led" 4 F__law_led := fun base M => J.has_def (ps := ["lines", "pins", "here", "there"]) X G (J.def_at a18 l18 c18 k18) (J.topOk_mk (c := c__law_led) (k := 0) trivial ⟨Z1, Z4, Z0, trivial⟩ trivial TB trivial trivial trivial) sc__law_led rfl r__law_led (fun _ _ _ _ _ _ us hl => ln4 us hl fun _ _ _ _ => rfl)
  have H19 : ∀ base : Heap, J.ModB K mg base → J.Has l.prog w K mg base 1 "_law_fits" 1 F__law_fits := fun base M => J.has_def (ps := ["lines"]) X G (J.def_at a19 l19 c19 k19) (J.topOk_mk (c := c__law_fits) (k := 0) trivial ⟨Z1, Z0, trivial⟩ trivial TB trivial trivial trivial) sc__law_fits rfl r__law_fits (fun _ _ _ _ _ _ us hl => ln1 us hl fun _ => rfl)
  have G20 : ∀ base : Heap, J.ModB K mg base → ∀ n : Nat, J.Has l.prog w K mg base (1 + n) "_law_copied" 3 (R__law_copied n) := fun base M n => by
    induction n with
    | zero => exact J.has_bad (ps := ["formula", "here", "there"]) X G (J.def_at a20 l20 c20 k20) (fun _ _ _ _ _ _ us hl => ln3 us hl fun _ _ _ => rfl)
    | succ n ih => exact J.has_def (ps := ["formula", "here", "there"]) X G (J.def_at a20 l20 c20 k20) (J.topOk_mk (c := (c__law_copied (R__law_copied n))) (k := (1 + n)) trivial ⟨Z4, trivial⟩ ⟨(H18 base M).mono (by omega), (H19 base M).mono (by omega), ih, trivial⟩ TB trivial trivial trivial) (sc__law_copied (R__law_copied n)) rfl (r__law_copied (R__law_copied n)) (fun _ _ _ _ _ _ us hl => ln3 us hl fun _ _ _ => rfl)
  have H20 : ∀ base : Heap, J.ModB K mg base → J.Has l.prog w K mg base 9 "_law_copied" 3 F__law_copied := fun base M => (G20 base M 8)
  have H21 : ∀ base : Heap, J.ModB K mg base → J.Has l.prog w K mg base 1 "is_place" 1 F_is_place := fun base M => J.has_def (ps := ["place"]) X G (J.def_at a21 l21 c21 k21) (J.topOk_mk (c := c_is_place) (k := 0) ⟨⟨_, V1⟩, ⟨_, V2⟩, trivial⟩ trivial trivial TB trivial trivial trivial) sc_is_place rfl r_is_place (fun _ _ _ _ _ _ us hl => ln1 us hl fun _ => rfl)
  have H22 : ∀ base : Heap, J.ModB K mg base → J.Has l.prog w K mg base 2 "has_corners" 1 F_has_corners := fun base M => J.has_def (ps := ["area"]) X G (J.def_at a22 l22 c22 k22) (J.topOk_mk (c := c_has_corners) (k := 1) trivial trivial ⟨(H21 base M).mono (by decide), trivial⟩ TB trivial trivial trivial) sc_has_corners rfl r_has_corners (fun _ _ _ _ _ _ us hl => ln1 us hl fun _ => rfl)
  have H23 : ∀ base : Heap, J.ModB K mg base → J.Has l.prog w K mg base 1 "area_many" 1 F_area_many := fun base M => J.has_def (ps := ["area"]) X G (J.def_at a23 l23 c23 k23) (J.topOk_mk (c := c_area_many) (k := 0) trivial trivial trivial TB trivial trivial trivial) sc_area_many rfl r_area_many (fun _ _ _ _ _ _ us hl => ln1 us hl fun _ => rfl)
  have H24 : ∀ base : Heap, J.ModB K mg base → J.Has l.prog w K mg base 3 "is_area" 1 F_is_area := fun base M => J.has_def (ps := ["area"]) X G (J.def_at a24 l24 c24 k24) (J.topOk_mk (c := c_is_area) (k := 2) ⟨⟨_, V3⟩, trivial⟩ trivial ⟨(H22 base M).mono (by decide), (H23 base M).mono (by decide), trivial⟩ TB trivial trivial trivial) sc_is_area rfl r_is_area (fun _ _ _ _ _ _ us hl => ln1 us hl fun _ => rfl)
  have H25 : ∀ base : Heap, J.ModB K mg base → J.Has l.prog w K mg base 4 "spot_by" 1 F_spot_by := fun base M => J.has_def (ps := ["spot"]) X G (J.def_at a25 l25 c25 k25) (J.topOk_mk (c := c_spot_by) (k := 3) trivial ⟨Z0, trivial⟩ ⟨(H21 base M).mono (by decide), (H24 base M).mono (by decide), trivial⟩ TB trivial trivial trivial) sc_spot_by rfl r_spot_by (fun _ _ _ _ _ _ us hl => ln1 us hl fun _ => rfl)
  have H26 : ∀ base : Heap, J.ModB K mg base → J.Has l.prog w K mg base 14 "formula_by" 2 F_formula_by := fun base M => J.has_def (ps := ["form", "place"]) X G (J.def_at a26 l26 c26 k26) (J.topOk_mk (c := c_formula_by) (k := 13) trivial trivial ⟨(H25 base M).mono (by decide), (H16 base M).mono (by decide), trivial⟩ TB trivial trivial trivial (hx := J.topX_mk rfl ⟨⟨⟨_, PySem.W.mg_of X G a15, k15⟩, fun base p L M HL => (G15 base M p L HL 8).mono (by decide)⟩, trivial⟩ ⟨(fun _ _ e base M => by cases e; exact (H25 base M).mono (by decide)), (fun _ _ e base M => by cases e; exact (H16 base M).mono (by decide)), trivial⟩ (fun _ => ⟨_, LK26⟩))) sc_formula_by rfl r_formula_by (fun _ _ _ _ _ _ us hl => ln2 us hl fun _ _ => rfl) (fun _ => ⟨M, rfl⟩)
  have G27 : ∀ base : Heap, J.ModB K mg base → ∀ n : Nat, J.Has l.prog w K mg base (1 + n) "_law_other" 2 (R__law_other n) := fun base M n => by
    induction n with
    | zero => exact J.has_bad (ps := ["formula", "way"]) X G (J.def_at a27 l27 c27 k27) (fun _ _ _ _ _ _ us hl => ln2 us hl fun _ _ => rfl)
    | succ n ih => exact J.has_def (ps := ["formula", "way"]) X G (J.def_at a27 l27 c27 k27) (J.topOk_mk (c := (c__law_other (R__law_other n))) (k := (1 + n)) trivial ⟨Z0, Z6, trivial⟩ ⟨ih, (H19 base M).mono (by omega), trivial⟩ TB trivial trivial trivial) (sc__law_other (R__law_other n)) rfl (r__law_other (R__law_other n)) (fun _ _ _ _ _ _ us hl => ln2 us hl fun _ _ => rfl)
  have H27 : ∀ base : Heap, J.ModB K mg base → J.Has l.prog w K mg base 9 "_law_other" 2 F__law_other := fun base M => (G27 base M 8)
  have G28 : ∀ base : Heap, J.ModB K mg base → ∀ n : Nat, J.Has l.prog w K mg base (1 + n) "_law_form" 2 (R__law_form n) := fun base M n => by
    induction n with
    | zero => exact J.has_bad (ps := ["formula", "place"]) X G (J.def_at a28 l28 c28 k28) (fun _ _ _ _ _ _ us hl => ln2 us hl fun _ _ => rfl)
    | succ n ih => exact J.has_def (ps := ["formula", "place"]) X G (J.def_at a28 l28 c28 k28) (J.topOk_mk (c := (c__law_form (R__law_form n))) (k := (1 + n)) trivial ⟨Z4, trivial⟩ ⟨ih, (H18 base M).mono (by omega), trivial⟩ TB trivial trivial trivial) (sc__law_form (R__law_form n)) rfl (r__law_form (R__law_form n)) (fun _ _ _ _ _ _ us hl => ln2 us hl fun _ _ => rfl)
  have H28 : ∀ base : Heap, J.ModB K mg base → J.Has l.prog w K mg base 9 "_law_form" 2 F__law_form := fun base M => (G28 base M 8)
  have H29 : ∀ base : Heap, J.ModB K mg base → J.Has l.prog w K mg base 15 "alike" 4 F_alike := fun base M => J.has_def (ps := ["one", "here", "other", "there"]) X G (J.def_at a29 l29 c29 k29) (J.topOk_mk (c := c_alike) (k := 14) trivial trivial ⟨(H17 base M).mono (by decide), trivial⟩ TB trivial trivial trivial) sc_alike rfl r_alike (fun _ _ _ _ _ _ us hl => ln4 us hl fun _ _ _ _ => rfl)
  have H30 : ∀ base : Heap, J.ModB K mg base → J.Has l.prog w K mg base 16 "_law_alike" 4 F__law_alike := fun base M => J.has_def (ps := ["one", "here", "other", "there"]) X G (J.def_at a30 l30 c30 k30) (J.topOk_mk (c := c__law_alike) (k := 15) trivial ⟨Z7, Z8, trivial⟩ ⟨(H29 base M).mono (by decide), (H28 base M).mono (by decide), trivial⟩ TB trivial trivial trivial) sc__law_alike rfl r__law_alike (fun _ _ _ _ _ _ us hl => ln4 us hl fun _ _ _ _ => rfl)
  exact J.fn_def Fu (J.topOk_mk (c := c_law) (k := 16) trivial ⟨Z1, Z2, Z7, Z4, trivial⟩ ⟨(H3 base M).mono (by decide), (H6 base M).mono (by decide), (H10 base M).mono (by decide), (H17 base M).mono (by decide), (H20 base M).mono (by decide), (H2 base M).mono (by decide), (H26 base M).mono (by decide), (H27 base M).mono (by decide), (H28 base M).mono (by decide), (H30 base M).mono (by decide), trivial⟩ TB trivial trivial trivial) sc_law rfl r_law
theorem all_mk {l : PySem.W.OpenLaw} {w : World} {K : PySem.W.Frag} {h : Heap} {mg : Str → Option Value} {fa : Addr} (X : K.In h) (G : h.Ns mainGlobals mg) (hfa : mg "law" = some (.ref fa))
    {f1 f2 f3 f4 f5 f6 f7 f8 f9 f10 f11 f12 f13 f14 f15 f16 f17 f18 f19 f20 f21 f22 f23 f24 f25 f26 f27 f28 f29 f30 f31 : Addr} {od1 od2 od3 od4 od5 od6 od7 od8 od9 od10 od11 od12 od13 od14 od15 od16 od17 od18 od19 od20 od21 od22 od23 od24 od25 od26 od27 od28 od29 od30 od31 an1 an2 an3 an4 an5 an6 an7 an8 an9 an10 an11 an12 an13 an14 an15 an16 an17 an18 an19 an20 an21 an22 an23 an24 an25 an26 an27 an28 an29 an30 an31 : Option Addr} {sl1 sl2 sl3 sl4 sl5 sl6 sl7 sl8 sl9 sl10 sl11 sl12 sl13 sl14 sl15 sl16 sl17 sl18 sl19 sl20 sl21 sl22 sl23 sl24 sl25 sl26 sl27 sl28 sl29 sl30 sl31 : Array (Option Value)} {oc1 oc2 oc3 oc4 oc5 oc6 oc7 oc8 oc9 oc10 oc11 oc12 oc13 oc14 oc15 oc16 oc17 oc18 oc19 oc20 oc21 oc22 oc23 oc24 oc25 oc26 oc27 oc28 oc29 oc30 oc31 kV1 kV2 kV3 kV4 kV5 kV6 kV7 kV8 kV9 kV10 kV11 kV12 kV13 kV14 kV15 kV16 kV17 kV18 kV19 kV20 kV21 kV22 kV23 kV24 kV25 kV26 kV27 kV28 kV29 kV30 kV31 dc1 dc2 dc3 dc4 dc5 dc6 dc7 dc8 dc9 dc10 dc11 dc12 dc13 dc14 dc15 dc16 dc17 dc18 dc19 dc20 dc21 dc22 dc23 dc24 dc25 dc26 dc27 dc28 dc29 dc30 dc31 pm1 pm2 pm3 pm4 pm5 pm6 pm7 pm8 pm9 pm10 pm11 pm12 pm13 pm14 pm15 pm16 pm17 pm18 pm19 pm20 pm21 pm22 pm23 pm24 pm25 pm26 pm27 pm28 pm29 pm30 pm31 cd1 cd2 cd3 cd4 cd5 cd6 cd7 cd8 cd9 cd10 cd11 cd12 cd13 cd14 cd15 cd16 cd18 cd19 cd20 cd21 cd22 cd23 cd24 cd25 cd27 cd28 cd29 cd30 cd31 ct1 ct2 ct3 ct4 ct5 ct6 ct7 ct8 ct9 ct10 ct11 ct12 ct13 ct14 ct15 ct16 ct17 ct18 ct19 ct20 ct21 ct22 ct23 ct24 ct25 ct26 ct27 ct28 ct29 ct30 ct31 : Value} {tk0_0 tk0_1 tk0_2 tk0_3 tk0_4 tk1 tk2 tk3 : Tok} {ca0 : Addr} {cd0_ : Option Addr} {cn0 : Nat} {cs0 : Array (Option Value)} {da0 : Addr} {de0 : Nat} {dh0_0 dh0_1 dh0_2 dh0_3 dh0_4 dh0_5 dh0_6 dh0_7 dh0_8 dh0_9 dh0_10 dh0_11 dh0_12 dh0_13 dh0_14 dh0_15 dh0_16 dh0_17 dh0_18 dh0_19 dh0_20 : Int} {dk0_0 dk0_1 dk0_2 dk0_3 dk0_4 dk0_5 dk0_6 dk0_7 dk0_8 dk0_9 dk0_10 dk0_11 dk0_12 dk0_13 dk0_14 dk0_15 dk0_16 dk0_17 dk0_18 dk0_19 dk0_20 dt0_0 dt0_1 dt0_2 dt0_3 dt0_4 dt0_5 dt0_6 dt0_7 dt0_8 dt0_9 dt0_10 dt0_11 dt0_12 dt0_13 dt0_14 dt0_15 dt0_16 dt0_17 dt0_18 dt0_19 dt0_20 : Tok} {cC17 LP17 cC26 LP26 : Addr} {oD17 : Option Addr} {oS17 : Array (Option Value)} {oV17 : Array Value} {of17 : Str} {ot17 og17 ox17 : Tok} {ofl17 otx17 : Int} {oi17 : Bool} {oD26 : Option Addr} {oS26 : Array (Option Value)} {oV26 : Array Value} {of26 : Str} {ot26 og26 ox26 : Tok} {ofl26 otx26 : Int} {oi26 : Bool} {ts : List Addr}
    (a1 : PySem.W.nsIn K mainGlobals "_law_cell_at" = some (some (.ref f1))) (l1 : K.lookup f1 = some ⟨oc1, od1, .func (PySem.W.fnOf "_law_cell_at" "_law_cell_at" (defArgs s__law_cell_at) (defBody s__law_cell_at) (defScope s__law_cell_at) .none kV1 dc1 pm1 an1 cd1 ct1), sl1⟩) (c1 : PySem.W.codeIn K cd1 "_law_cell_at" = true) (k1 : PySem.W.keepIn K (.ref f1) = true)
    (a2 : PySem.W.nsIn K mainGlobals "_law_mixed" = some (some (.ref f2))) (l2 : K.lookup f2 = some ⟨oc2, od2, .func (PySem.W.fnOf "_law_mixed" "_law_mixed" (defArgs s__law_mixed) (defBody s__law_mixed) (defScope s__law_mixed) .none kV2 dc2 pm2 an2 cd2 ct2), sl2⟩) (c2 : PySem.W.codeIn K cd2 "_law_mixed" = true) (k2 : PySem.W.keepIn K (.ref f2) = true)
    (a3 : PySem.W.nsIn K mainGlobals "_law_stream" = some (some (.ref f3))) (l3 : K.lookup f3 = some ⟨oc3, od3, .func (PySem.W.fnOf "_law_stream" "_law_stream" (defArgs s__law_stream) (defBody s__law_stream) (defScope s__law_stream) .none kV3 dc3 pm3 an3 cd3 ct3), sl3⟩) (c3 : PySem.W.codeIn K cd3 "_law_stream" = true) (k3 : PySem.W.keepIn K (.ref f3) = true)
    (a4 : PySem.W.nsIn K mainGlobals "_law_digit" = some (some (.ref f4))) (l4 : K.lookup f4 = some ⟨oc4, od4, .func (PySem.W.fnOf "_law_digit" "_law_digit" (defArgs s__law_digit) (defBody s__law_digit) (defScope s__law_digit) .none kV4 dc4 pm4 an4 cd4 ct4), sl4⟩) (c4 : PySem.W.codeIn K cd4 "_law_digit" = true) (k4 : PySem.W.keepIn K (.ref f4) = true)
    (a5 : PySem.W.nsIn K mainGlobals "_law_line" = some (some (.ref f5))) (l5 : K.lookup f5 = some ⟨oc5, od5, .func (PySem.W.fnOf "_law_line" "_law_line" (defArgs s__law_line) (defBody s__law_line) (defScope s__law_line) .none kV5 dc5 pm5 an5 cd5 ct5), sl5⟩) (c5 : PySem.W.codeIn K cd5 "_law_line" = true) (k5 : PySem.W.keepIn K (.ref f5) = true)
    (a6 : PySem.W.nsIn K mainGlobals "_law_spot_at" = some (some (.ref f6))) (l6 : K.lookup f6 = some ⟨oc6, od6, .func (PySem.W.fnOf "_law_spot_at" "_law_spot_at" (defArgs s__law_spot_at) (defBody s__law_spot_at) (defScope s__law_spot_at) .none kV6 dc6 pm6 an6 cd6 ct6), sl6⟩) (c6 : PySem.W.codeIn K cd6 "_law_spot_at" = true) (k6 : PySem.W.keepIn K (.ref f6) = true)
    (a7 : PySem.W.nsIn K mainGlobals "_law_any_area" = some (some (.ref f7))) (l7 : K.lookup f7 = some ⟨oc7, od7, .func (PySem.W.fnOf "_law_any_area" "_law_any_area" (defArgs s__law_any_area) (defBody s__law_any_area) (defScope s__law_any_area) .none kV7 dc7 pm7 an7 cd7 ct7), sl7⟩) (c7 : PySem.W.codeIn K cd7 "_law_any_area" = true) (k7 : PySem.W.keepIn K (.ref f7) = true)
    (a8 : PySem.W.nsIn K mainGlobals "_law_some_pins" = some (some (.ref f8))) (l8 : K.lookup f8 = some ⟨oc8, od8, .func (PySem.W.fnOf "_law_some_pins" "_law_some_pins" (defArgs s__law_some_pins) (defBody s__law_some_pins) (defScope s__law_some_pins) .none kV8 dc8 pm8 an8 cd8 ct8), sl8⟩) (c8 : PySem.W.codeIn K cd8 "_law_some_pins" = true) (k8 : PySem.W.keepIn K (.ref f8) = true)
    (a9 : PySem.W.nsIn K mainGlobals "_law_any_leaf" = some (some (.ref f9))) (l9 : K.lookup f9 = some ⟨oc9, od9, .func (PySem.W.fnOf "_law_any_leaf" "_law_any_leaf" (defArgs s__law_any_leaf) (defBody s__law_any_leaf) (defScope s__law_any_leaf) .none kV9 dc9 pm9 an9 cd9 ct9), sl9⟩) (c9 : PySem.W.codeIn K cd9 "_law_any_leaf" = true) (k9 : PySem.W.keepIn K (.ref f9) = true)
    (a10 : PySem.W.nsIn K mainGlobals "_law_any_formula" = some (some (.ref f10))) (l10 : K.lookup f10 = some ⟨oc10, od10, .func (PySem.W.fnOf "_law_any_formula" "_law_any_formula" (defArgs s__law_any_formula) (defBody s__law_any_formula) (defScope s__law_any_formula) .none kV10 dc10 pm10 an10 cd10 ct10), sl10⟩) (c10 : PySem.W.codeIn K cd10 "_law_any_formula" = true) (k10 : PySem.W.keepIn K (.ref f10) = true)
    (a11 : PySem.W.nsIn K mainGlobals "part_many" = some (some (.ref f11))) (l11 : K.lookup f11 = some ⟨oc11, od11, .func (PySem.W.fnOf "part_many" "part_many" (defArgs s_part_many) (defBody s_part_many) (defScope s_part_many) .none kV11 dc11 pm11 an11 cd11 ct11), sl11⟩) (c11 : PySem.W.codeIn K cd11 "part_many" = true) (k11 : PySem.W.keepIn K (.ref f11) = true)
    (a12 : PySem.W.nsIn K mainGlobals "tail_of" = some (some (.ref f12))) (l12 : K.lookup f12 = some ⟨oc12, od12, .func (PySem.W.fnOf "tail_of" "tail_of" (defArgs s_tail_of) (defBody s_tail_of) (defScope s_tail_of) .none kV12 dc12 pm12 an12 cd12 ct12), sl12⟩) (c12 : PySem.W.codeIn K cd12 "tail_of" = true) (k12 : PySem.W.keepIn K (.ref f12) = true)
    (a13 : PySem.W.nsIn K mainGlobals "has_area" = some (some (.ref f13))) (l13 : K.lookup f13 = some ⟨oc13, od13, .func (PySem.W.fnOf "has_area" "has_area" (defArgs s_has_area) (defBody s_has_area) (defScope s_has_area) .none kV13 dc13 pm13 an13 cd13 ct13), sl13⟩) (c13 : PySem.W.codeIn K cd13 "has_area" = true) (k13 : PySem.W.keepIn K (.ref f13) = true)
    (a14 : PySem.W.nsIn K mainGlobals "parts_of" = some (some (.ref f14))) (l14 : K.lookup f14 = some ⟨oc14, od14, .func (PySem.W.fnOf "parts_of" "parts_of" (defArgs s_parts_of) (defBody s_parts_of) (defScope s_parts_of) .none kV14 dc14 pm14 an14 cd14 ct14), sl14⟩) (c14 : PySem.W.codeIn K cd14 "parts_of" = true) (k14 : PySem.W.keepIn K (.ref f14) = true)
    (a15 : PySem.W.nsIn K mainGlobals "rebuilt" = some (some (.ref f15))) (l15 : K.lookup f15 = some ⟨oc15, od15, .func (PySem.W.fnOf "rebuilt" "rebuilt" (defArgs s_rebuilt) (defBody s_rebuilt) (defScope s_rebuilt) .none kV15 dc15 pm15 an15 cd15 ct15), sl15⟩) (c15 : PySem.W.codeIn K cd15 "rebuilt" = true) (k15 : PySem.W.keepIn K (.ref f15) = true)
    (a16 : PySem.W.nsIn K mainGlobals "stepped" = some (some (.ref f16))) (l16 : K.lookup f16 = some ⟨oc16, od16, .func (PySem.W.fnOf "stepped" "stepped" (defArgs s_stepped) (defBody s_stepped) (defScope s_stepped) .none kV16 dc16 pm16 an16 cd16 ct16), sl16⟩) (c16 : PySem.W.codeIn K cd16 "stepped" = true) (k16 : PySem.W.keepIn K (.ref f16) = true)
    (a17 : PySem.W.nsIn K mainGlobals "form_of" = some (some (.ref f17))) (l17 : K.lookup f17 = some ⟨oc17, od17, .func (PySem.W.fnOf "form_of" "form_of" (defArgs s_form_of) (defBody s_form_of) (defScope s_form_of) .none kV17 dc17 pm17 an17 (.ref cC17) ct17), sl17⟩) (c17 : PySem.W.codeIn K (.ref cC17) "form_of" = true) (k17 : PySem.W.keepIn K (.ref f17) = true)
    (a18 : PySem.W.nsIn K mainGlobals "_law_led" = some (some (.ref f18))) (l18 : K.lookup f18 = some ⟨oc18, od18, .func (PySem.W.fnOf "_law_led" "_law_led" (defArgs s__law_led) (defBody s__law_led) (defScope s__law_led) .none kV18 dc18 pm18 an18 cd18 ct18), sl18⟩) (c18 : PySem.W.codeIn K cd18 "_law_led" = true) (k18 : PySem.W.keepIn K (.ref f18) = true)
    (a19 : PySem.W.nsIn K mainGlobals "_law_fits" = some (some (.ref f19))) (l19 : K.lookup f19 = some ⟨oc19, od19, .func (PySem.W.fnOf "_law_fits" "_law_fits" (defArgs s__law_fits) (defBody s__law_fits) (defScope s__law_fits) .none kV19 dc19 pm19 an19 cd19 ct19), sl19⟩) (c19 : PySem.W.codeIn K cd19 "_law_fits" = true) (k19 : PySem.W.keepIn K (.ref f19) = true)
    (a20 : PySem.W.nsIn K mainGlobals "_law_copied" = some (some (.ref f20))) (l20 : K.lookup f20 = some ⟨oc20, od20, .func (PySem.W.fnOf "_law_copied" "_law_copied" (defArgs s__law_copied) (defBody s__law_copied) (defScope s__law_copied) .none kV20 dc20 pm20 an20 cd20 ct20), sl20⟩) (c20 : PySem.W.codeIn K cd20 "_law_copied" = true) (k20 : PySem.W.keepIn K (.ref f20) = true)
    (a21 : PySem.W.nsIn K mainGlobals "is_place" = some (some (.ref f21))) (l21 : K.lookup f21 = some ⟨oc21, od21, .func (PySem.W.fnOf "is_place" "is_place" (defArgs s_is_place) (defBody s_is_place) (defScope s_is_place) .none kV21 dc21 pm21 an21 cd21 ct21), sl21⟩) (c21 : PySem.W.codeIn K cd21 "is_place" = true) (k21 : PySem.W.keepIn K (.ref f21) = true)
    (a22 : PySem.W.nsIn K mainGlobals "has_corners" = some (some (.ref f22))) (l22 : K.lookup f22 = some ⟨oc22, od22, .func (PySem.W.fnOf "has_corners" "has_corners" (defArgs s_has_corners) (defBody s_has_corners) (defScope s_has_corners) .none kV22 dc22 pm22 an22 cd22 ct22), sl22⟩) (c22 : PySem.W.codeIn K cd22 "has_corners" = true) (k22 : PySem.W.keepIn K (.ref f22) = true)
    (a23 : PySem.W.nsIn K mainGlobals "area_many" = some (some (.ref f23))) (l23 : K.lookup f23 = some ⟨oc23, od23, .func (PySem.W.fnOf "area_many" "area_many" (defArgs s_area_many) (defBody s_area_many) (defScope s_area_many) .none kV23 dc23 pm23 an23 cd23 ct23), sl23⟩) (c23 : PySem.W.codeIn K cd23 "area_many" = true) (k23 : PySem.W.keepIn K (.ref f23) = true)
    (a24 : PySem.W.nsIn K mainGlobals "is_area" = some (some (.ref f24))) (l24 : K.lookup f24 = some ⟨oc24, od24, .func (PySem.W.fnOf "is_area" "is_area" (defArgs s_is_area) (defBody s_is_area) (defScope s_is_area) .none kV24 dc24 pm24 an24 cd24 ct24), sl24⟩) (c24 : PySem.W.codeIn K cd24 "is_area" = true) (k24 : PySem.W.keepIn K (.ref f24) = true)
    (a25 : PySem.W.nsIn K mainGlobals "spot_by" = some (some (.ref f25))) (l25 : K.lookup f25 = some ⟨oc25, od25, .func (PySem.W.fnOf "spot_by" "spot_by" (defArgs s_spot_by) (defBody s_spot_by) (defScope s_spot_by) .none kV25 dc25 pm25 an25 cd25 ct25), sl25⟩) (c25 : PySem.W.codeIn K cd25 "spot_by" = true) (k25 : PySem.W.keepIn K (.ref f25) = true)
    (a26 : PySem.W.nsIn K mainGlobals "formula_by" = some (some (.ref f26))) (l26 : K.lookup f26 = some ⟨oc26, od26, .func (PySem.W.fnOf "formula_by" "formula_by" (defArgs s_formula_by) (defBody s_formula_by) (defScope s_formula_by) .none kV26 dc26 pm26 an26 (.ref cC26) ct26), sl26⟩) (c26 : PySem.W.codeIn K (.ref cC26) "formula_by" = true) (k26 : PySem.W.keepIn K (.ref f26) = true)
    (a27 : PySem.W.nsIn K mainGlobals "_law_other" = some (some (.ref f27))) (l27 : K.lookup f27 = some ⟨oc27, od27, .func (PySem.W.fnOf "_law_other" "_law_other" (defArgs s__law_other) (defBody s__law_other) (defScope s__law_other) .none kV27 dc27 pm27 an27 cd27 ct27), sl27⟩) (c27 : PySem.W.codeIn K cd27 "_law_other" = true) (k27 : PySem.W.keepIn K (.ref f27) = true)
    (a28 : PySem.W.nsIn K mainGlobals "_law_form" = some (some (.ref f28))) (l28 : K.lookup f28 = some ⟨oc28, od28, .func (PySem.W.fnOf "_law_form" "_law_form" (defArgs s__law_form) (defBody s__law_form) (defScope s__law_form) .none kV28 dc28 pm28 an28 cd28 ct28), sl28⟩) (c28 : PySem.W.codeIn K cd28 "_law_form" = true) (k28 : PySem.W.keepIn K (.ref f28) = true)
    (a29 : PySem.W.nsIn K mainGlobals "alike" = some (some (.ref f29))) (l29 : K.lookup f29 = some ⟨oc29, od29, .func (PySem.W.fnOf "alike" "alike" (defArgs s_alike) (defBody s_alike) (defScope s_alike) .none kV29 dc29 pm29 an29 cd29 ct29), sl29⟩) (c29 : PySem.W.codeIn K cd29 "alike" = true) (k29 : PySem.W.keepIn K (.ref f29) = true)
    (a30 : PySem.W.nsIn K mainGlobals "_law_alike" = some (some (.ref f30))) (l30 : K.lookup f30 = some ⟨oc30, od30, .func (PySem.W.fnOf "_law_alike" "_law_alike" (defArgs s__law_alike) (defBody s__law_alike) (defScope s__law_alike) .none kV30 dc30 pm30 an30 cd30 ct30), sl30⟩) (c30 : PySem.W.codeIn K cd30 "_law_alike" = true) (k30 : PySem.W.keepIn K (.ref f30) = true)
    (a31 : PySem.W.nsIn K mainGlobals "law" = some (some (.ref f31))) (l31 : K.lookup f31 = some ⟨oc31, od31, .func (PySem.W.fnOf "law" "law" (defArgs s_law) (defBody s_law) (defScope s_law) .none kV31 dc31 pm31 an31 cd31 ct31), sl31⟩) (c31 : PySem.W.codeIn K cd31 "law" = true) (k31 : PySem.W.keepIn K (.ref f31) = true)
    (z0 : PySem.W.nsIn K mainGlobals "len" = some none)
    (z1 : PySem.W.nsIn K mainGlobals "range" = some none)
    (z2 : PySem.W.nsIn K mainGlobals "sum" = some none)
    (z3 : PySem.W.nsIn K mainGlobals "min" = some none)
    (z4 : PySem.W.nsIn K mainGlobals "tuple" = some none)
    (z5 : PySem.W.nsIn K mainGlobals "zip" = some none)
    (z6 : PySem.W.nsIn K mainGlobals "int" = some none)
    (z7 : PySem.W.nsIn K mainGlobals "isinstance" = some none)
    (z8 : PySem.W.nsIn K mainGlobals "bool" = some none)
    (v0 : PySem.W.nsIn K mainGlobals "AREA_WORDS" = some (some (.ref ca0))) (w0 : K.lookup ca0 = some ⟨.type "tuple", cd0_, .seq #[.str "sum" tk0_0, .str "count" tk0_1, .str "least" tk0_2, .str "greatest" tk0_3, .str "find" tk0_4] cn0, cs0⟩)
    (v1 : PySem.W.nsIn K mainGlobals "ROWS" = some (some (.int 99 tk1)))
    (v2 : PySem.W.nsIn K mainGlobals "COLUMNS" = some (some (.int 26 tk2)))
    (v3 : PySem.W.nsIn K mainGlobals "MOST_PLACES" = some (some (.int 300 tk3)))
    (dv0 : PySem.W.nsIn K mainGlobals "PART_COUNTS" = some (some (.ref da0))) (dw0 : K.lookup da0 = some ⟨.type "dict", none, .dict #[⟨dh0_0, .str "num" dk0_0, .int 0 dt0_0⟩, ⟨dh0_1, .str "text" dk0_1, .int 0 dt0_1⟩, ⟨dh0_2, .str "lost" dk0_2, .int 0 dt0_2⟩, ⟨dh0_3, .str "at" dk0_3, .int 0 dt0_3⟩, ⟨dh0_4, .str "minus" dk0_4, .int 1 dt0_4⟩, ⟨dh0_5, .str "not" dk0_5, .int 1 dt0_5⟩, ⟨dh0_6, .str "+" dk0_6, .int 2 dt0_6⟩, ⟨dh0_7, .str "-" dk0_7, .int 2 dt0_7⟩, ⟨dh0_8, .str "*" dk0_8, .int 2 dt0_8⟩, ⟨dh0_9, .str "/" dk0_9, .int 2 dt0_9⟩, ⟨dh0_10, .str "&" dk0_10, .int 2 dt0_10⟩, ⟨dh0_11, .str "<" dk0_11, .int 2 dt0_11⟩, ⟨dh0_12, .str "=" dk0_12, .int 2 dt0_12⟩, ⟨dh0_13, .str "rest" dk0_13, .int 2 dt0_13⟩, ⟨dh0_14, .str "if" dk0_14, .int 3 dt0_14⟩, ⟨dh0_15, .str "else" dk0_15, .int 2 dt0_15⟩, ⟨dh0_16, .str "sum" dk0_16, .int 0 dt0_16⟩, ⟨dh0_17, .str "count" dk0_17, .int 0 dt0_17⟩, ⟨dh0_18, .str "least" dk0_18, .int 0 dt0_18⟩, ⟨dh0_19, .str "greatest" dk0_19, .int 0 dt0_19⟩, ⟨dh0_20, .str "find" dk0_20, .int 1 dt0_20⟩] de0, #[]⟩) (dm0 : (da0 == sysModules) = false) (dx0_0 : dh0_0 = hashStr w "num") (dx0_1 : dh0_1 = hashStr w "text") (dx0_2 : dh0_2 = hashStr w "lost") (dx0_3 : dh0_3 = hashStr w "at") (dx0_4 : dh0_4 = hashStr w "minus") (dx0_5 : dh0_5 = hashStr w "not") (dx0_6 : dh0_6 = hashStr w "+") (dx0_7 : dh0_7 = hashStr w "-") (dx0_8 : dh0_8 = hashStr w "*") (dx0_9 : dh0_9 = hashStr w "/") (dx0_10 : dh0_10 = hashStr w "&") (dx0_11 : dh0_11 = hashStr w "<") (dx0_12 : dh0_12 = hashStr w "=") (dx0_13 : dh0_13 = hashStr w "rest") (dx0_14 : dh0_14 = hashStr w "if") (dx0_15 : dh0_15 = hashStr w "else") (dx0_16 : dh0_16 = hashStr w "sum") (dx0_17 : dh0_17 = hashStr w "count") (dx0_18 : dh0_18 = hashStr w "least") (dx0_19 : dh0_19 = hashStr w "greatest") (dx0_20 : dh0_20 = hashStr w "find")
    (tl17 : K.lookup cC17 = some ⟨.type "code", oD17, .fields oV17, oS17⟩) (tv17 : oV17[11]? = some (.ref LP17)) (t417 : oV17.getD 11 .none = .ref LP17) (t517 : oV17.getD 18 .none = .str of17 ot17) (t617 : oV17.getD 7 .none = .int ofl17 og17) (t717 : oV17.getD 9 .none = .bool oi17) (t817 : oV17.getD 10 .none = .int otx17 ox17) (tn17 : cC17 ≠ LP17) (tp17 : K.lookup LP17 = none) (tm17 : LP17 ∈ ts)
    (tl26 : K.lookup cC26 = some ⟨.type "code", oD26, .fields oV26, oS26⟩) (tv26 : oV26[11]? = some (.ref LP26)) (t426 : oV26.getD 11 .none = .ref LP26) (t526 : oV26.getD 18 .none = .str of26 ot26) (t626 : oV26.getD 7 .none = .int ofl26 og26) (t726 : oV26.getD 9 .none = .bool oi26) (t826 : oV26.getD 10 .none = .int otx26 ox26) (tn26 : cC26 ≠ LP26) (tp26 : K.lookup LP26 = none) (tm26 : LP26 ∈ ts)
    (ab0 : PySem.W.nsIn K mainGlobals "turned" = some none)
    (pn17_26 : LP17 ≠ LP26) :
    J.TabsK K ts ∧ ∃ fd : FuncData, (∀ (s : Shared) (u : Value), BindsTo s fd ⟨[u], []⟩ [("script", u)]) ∧ ∀ base : Heap, J.ModB K mg base → FnOk l.prog w K mg base (CXJ l.prog w) 17 fa fd ["script"] (spW K 1 F_law) := by
  have tb17 : PySem.W.tabIn K "form_of" = some (cC17, LP17) := by
    unfold PySem.W.tabIn
    rw [a17]
    dsimp only
    rw [l17]
    dsimp only
    rw [tl17]
    dsimp only
    rw [tv17]
  have tb26 : PySem.W.tabIn K "formula_by" = some (cC26, LP26) := by
    unfold PySem.W.tabIn
    rw [a26]
    dsimp only
    rw [l26]
    dsimp only
    rw [tl26]
    dsimp only
    rw [tv26]
  have tba0 : PySem.W.tabIn K "turned" = none := by
    unfold PySem.W.tabIn
    rw [ab0]
  have fr17 : J.tabFree K "form_of" = some LP17 := J.free_of tb17 tp17
  have fr26 : J.tabFree K "formula_by" = some LP26 := J.free_of tb26 tp26
  have fra0 : J.tabFree K "turned" = none := by
    unfold J.tabFree
    rw [tba0]
  have T : J.TabsK K ts := fun q P hq t => by
    simp only [J.lamDefs, List.mem_cons, List.not_mem_nil, or_false] at hq
    rcases hq with rfl | rfl | rfl
    · rw [fr17] at t; cases t; exact ⟨tm17, _, _, _, tl17, rfl, rfl, tv17⟩
    · rw [fr26] at t; cases t; exact ⟨tm26, _, _, _, tl26, rfl, rfl, tv26⟩
    · rw [fra0] at t; cases t
  have U17 : ∀ q, q ∈ J.lamDefs → J.tabFree K q = some LP17 → q = "form_of" := fun q hq t => by
    simp only [J.lamDefs, List.mem_cons, List.not_mem_nil, or_false] at hq
    rcases hq with rfl | rfl | rfl
    · rfl
    · rw [fr26] at t; cases t; exact absurd rfl pn17_26
    · rw [fra0] at t; cases t
  have U26 : ∀ q, q ∈ J.lamDefs → J.tabFree K q = some LP26 → q = "formula_by" := fun q hq t => by
    simp only [J.lamDefs, List.mem_cons, List.not_mem_nil, or_false] at hq
    rcases hq with rfl | rfl | rfl
    · rw [fr17] at t; cases t; exact absurd rfl pn17_26
    · rfl
    · rw [fra0] at t; cases t
  exact ⟨T, all_mk0 X G hfa a1 l1 c1 k1 a2 l2 c2 k2 a3 l3 c3 k3 a4 l4 c4 k4 a5 l5 c5 k5 a6 l6 c6 k6 a7 l7 c7 k7 a8 l8 c8 k8 a9 l9 c9 k9 a10 l10 c10 k10 a11 l11 c11 k11 a12 l12 c12 k12 a13 l13 c13 k13 a14 l14 c14 k14 a15 l15 c15 k15 a16 l16 c16 k16 a17 l17 c17 k17 a18 l18 c18 k18 a19 l19 c19 k19 a20 l20 c20 k20 a21 l21 c21 k21 a22 l22 c22 k22 a23 l23 c23 k23 a24 l24 c24 k24 a25 l25 c25 k25 a26 l26 c26 k26 a27 l27 c27 k27 a28 l28 c28 k28 a29 l29 c29 k29 a30 l30 c30 k30 a31 l31 c31 k31 z0 z1 z2 z3 z4 z5 z6 z7 z8 v0 w0 v1 v2 v3 dv0 dw0 dm0 dx0_0 dx0_1 dx0_2 dx0_3 dx0_4 dx0_5 dx0_6 dx0_7 dx0_8 dx0_9 dx0_10 dx0_11 dx0_12 dx0_13 dx0_14 dx0_15 dx0_16 dx0_17 dx0_18 dx0_19 dx0_20 (J.lamK_mk (by decide) tb17 tp17 tl17 rfl rfl tv17 t417 t517 t617 t717 t817 tn17 U17) (J.lamK_mk (by decide) tb26 tp26 tl26 rfl rfl tv26 t426 t526 t626 t726 t826 tn26 U26)⟩
end K58
open PySem PySem.W PyProof.Rows
set_option maxRecDepth 100000 in
set_option maxHeartbeats 0 in
theorem PySem.Challenge.cw_onelook_k58_forms_holds : PySem.Challenge.rw_onelook_k58_forms.Holds := by
  w_on; o_law; k_head; (case hw => w_witness2)
  k_fill
  refine J.walk_ofT (l := PySem.Challenge.rw_onelook_k58_forms) (n := 63) (k := 17) (x := "script") (CX := fun w => J.CXJ PySem.Challenge.rw_onelook_k58_forms.prog w) (sp := fun w => J.spW _ 1 K58.F_law) rfl (by decide) rfl ⟨rfl, by decide, by decide⟩ (fun w h Y => ⟨PySem.W.km_in_of Y, PySem.W.km_tabs_of Y⟩) ?F (fun w H a ns hl hO hS hT => J.law_sp K58.law_true H a ns hl hO hS hT) (fun _ _ _ _ _ z => z.elim fun _ y => y.elim fun _ x => x.2)
  case F =>
    intro w mg fa h KX G hmg
    refine' K58.all_mk KX G hmg ?a1 ?l1 ?c1 ?k1 ?a2 ?l2 ?c2 ?k2 ?a3 ?l3 ?c3 ?k3 ?a4 ?l4 ?c4 ?k4 ?a5 ?l5 ?c5 ?k5 ?a6 ?l6 ?c6 ?k6 ?a7 ?l7 ?c7 ?k7 ?a8 ?l8 ?c8 ?k8 ?a9 ?l9 ?c9 ?k9 ?a10 ?l10 ?c10 ?k10 ?a11 ?l11 ?c11 ?k11 ?a12 ?l12 ?c12 ?k12 ?a13 ?l13 ?c13 ?k13 ?a14 ?l14 ?c14 ?k14 ?a15 ?l15 ?c15 ?k15 ?a16 ?l16 ?c16 ?k16 ?a17 ?l17 ?c17 ?k17 ?a18 ?l18 ?c18 ?k18 ?a19 ?l19 ?c19 ?k19 ?a20 ?l20 ?c20 ?k20 ?a21 ?l21 ?c21 ?k21 ?a22 ?l22 ?c22 ?k22 ?a23 ?l23 ?c23 ?k23 ?a24 ?l24 ?c24 ?k24 ?a25 ?l25 ?c25 ?k25 ?a26 ?l26 ?c26 ?k26 ?a27 ?l27 ?c27 ?k27 ?a28 ?l28 ?c28 ?k28 ?a29 ?l29 ?c29 ?k29 ?a30 ?l30 ?c30 ?k30 ?a31 ?l31 ?c31 ?k31 ?z0 ?z1 ?z2 ?z3 ?z4 ?z5 ?z6 ?z7 ?z8 ?v0 ?w0 ?v1 ?v2 ?v3 ?dv0 ?dw0 ?dm0 ?dx0_0 ?dx0_1 ?dx0_2 ?dx0_3 ?dx0_4 ?dx0_5 ?dx0_6 ?dx0_7 ?dx0_8 ?dx0_9 ?dx0_10 ?dx0_11 ?dx0_12 ?dx0_13 ?dx0_14 ?dx0_15 ?dx0_16 ?dx0_17 ?dx0_18 ?dx0_19 ?dx0_20 ?tl17 ?tv17 ?t417 ?t517 ?t617 ?t717 ?t817 ?tn17 ?tp17 ?tm17 ?tl26 ?tv26 ?t426 ?t526 ?t626 ?t726 ?t826 ?tn26 ?tp26 ?tm26 ?ab0 ?pn17_26
    (case a1 => k_is)
    (case l1 => k_is)
    (case c1 => k_is)
    (case k1 => k_is)
    (case a2 => k_is)
    (case l2 => k_is)
    (case c2 => k_is)
    (case k2 => k_is)
    (case a3 => k_is)
    (case l3 => k_is)
    (case c3 => k_is)
    (case k3 => k_is)
    (case a4 => k_is)
    (case l4 => k_is)
    (case c4 => k_is)
    (case k4 => k_is)
    (case a5 => k_is)
    (case l5 => k_is)
    (case c5 => k_is)
    (case k5 => k_is)
    (case a6 => k_is)
    (case l6 => k_is)
    (case c6 => k_is)
    (case k6 => k_is)
    (case a7 => k_is)
    (case l7 => k_is)
    (case c7 => k_is)
    (case k7 => k_is)
    (case a8 => k_is)
    (case l8 => k_is)
    (case c8 => k_is)
    (case k8 => k_is)
    (case a9 => k_is)
    (case l9 => k_is)
    (case c9 => k_is)
    (case k9 => k_is)
    (case a10 => k_is)
    (case l10 => k_is)
    (case c10 => k_is)
    (case k10 => k_is)
    (case a11 => k_is)
    (case l11 => k_is)
    (case c11 => k_is)
    (case k11 => k_is)
    (case a12 => k_is)
    (case l12 => k_is)
    (case c12 => k_is)
    (case k12 => k_is)
    (case a13 => k_is)
    (case l13 => k_is)
    (case c13 => k_is)
    (case k13 => k_is)
    (case a14 => k_is)
    (case l14 => k_is)
    (case c14 => k_is)
    (case k14 => k_is)
    (case a15 => k_is)
    (case l15 => k_is)
    (case c15 => k_is)
    (case k15 => k_is)
    (case a16 => k_is)
    (case l16 => k_is)
    (case c16 => k_is)
    (case k16 => k_is)
    (case a17 => k_is)
    (case l17 => k_is)
    (case c17 => k_is)
    (case k17 => k_is)
    (case a18 => k_is)
    (case l18 => k_is)
    (case c18 => k_is)
    (case k18 => k_is)
    (case a19 => k_is)
    (case l19 => k_is)
    (case c19 => k_is)
    (case k19 => k_is)
    (case a20 => k_is)
    (case l20 => k_is)
    (case c20 => k_is)
    (case k20 => k_is)
    (case a21 => k_is)
    (case l21 => k_is)
    (case c21 => k_is)
    (case k21 => k_is)
    (case a22 => k_is)
    (case l22 => k_is)
    (case c22 => k_is)
    (case k22 => k_is)
    (case a23 => k_is)
    (case l23 => k_is)
    (case c23 => k_is)
    (case k23 => k_is)
    (case a24 => k_is)
    (case l24 => k_is)
    (case c24 => k_is)
    (case k24 => k_is)
    (case a25 => k_is)
    (case l25 => k_is)
    (case c25 => k_is)
    (case k25 => k_is)
    (case a26 => k_is)
    (case l26 => k_is)
    (case c26 => k_is)
    (case k26 => k_is)
    (case a27 => k_is)
    (case l27 => k_is)
    (case c27 => k_is)
    (case k27 => k_is)
    (case a28 => k_is)
    (case l28 => k_is)
    (case c28 => k_is)
    (case k28 => k_is)
    (case a29 => k_is)
    (case l29 => k_is)
    (case c29 => k_is)
    (case k29 => k_is)
    (case a30 => k_is)
    (case l30 => k_is)
    (case c30 => k_is)
    (case k30 => k_is)
    (case a31 => k_is)
    (case l31 => k_is)
    (case c31 => k_is)
    (case k31 => k_is)
    (case z0 => k_is)
    (case z1 => k_is)
    (case z2 => k_is)
    (case z3 => k_is)
    (case z4 => k_is)
    (case z5 => k_is)
    (case z6 => k_is)
    (case z7 => k_is)
    (case z8 => k_is)
    (case v0 => k_is)
    (case w0 => k_is)
    (case v1 => k_is)
    (case v2 => k_is)
    (case v3 => k_is)
    (case dv0 => k_is)
    (case dw0 => k_is)
    (case dm0 => rfl)
    (case dx0_0 => rfl)
    (case dx0_1 => rfl)
    (case dx0_2 => rfl)
    (case dx0_3 => rfl)
    (case dx0_4 => rfl)
    (case dx0_5 => rfl)
    (case dx0_6 => rfl)
    (case dx0_7 => rfl)
    (case dx0_8 => rfl)
    (case dx0_9 => rfl)
    (case dx0_10 => rfl)
    (case dx0_11 => rfl)
    (case dx0_12 => rfl)
    (case dx0_13 => rfl)
    (case dx0_14 => rfl)
    (case dx0_15 => rfl)
    (case dx0_16 => rfl)
    (case dx0_17 => rfl)
    (case dx0_18 => rfl)
    (case dx0_19 => rfl)
    (case dx0_20 => rfl)
    (case tl17 => k_is)
    (case tv17 => rfl)
    (case t417 => rfl)
    (case t517 => rfl)
    (case t617 => rfl)
    (case t717 => rfl)
    (case t817 => rfl)
    (case tn17 => decide)
    (case tp17 => rfl)
    (case tm17 => decide)
    (case tl26 => k_is)
    (case tv26 => rfl)
    (case t426 => rfl)
    (case t526 => rfl)
    (case t626 => rfl)
    (case t726 => rfl)
    (case t826 => rfl)
    (case tn26 => decide)
    (case tp26 => rfl)
    (case tm26 => decide)
    (case ab0 => k_is)
    (case pn17_26 => decide)
